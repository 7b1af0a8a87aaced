import PyProof.Rows.All
import OpenK.KLine
import OpenK.KWalk
import Wide.FinOn
import Lean
import PyProof.EqAt
import PyProof.EqKinds
import PyProof.TupleCall
import KE.KTryMore
import PyProof.NsDelKeeps
import KE.KPairComp
import KE.KDictList
import KE.KIntText
import KE.KNestM
import KE.KRevIter
import KE.KItem
import KE.KLam
import PySem.Challenge.RW_lampway_k80_a_desk_answers
set_option compiler.extract_closed false
set_option Elab.async false
set_option linter.all false
set_option maxRecDepth 100000
structure PySem.W.Fast:Prop where(tw11260713043692887840 tw4291411620873122386 tw16230055263854909568 tw14965194613362745094 tw8126400102647590210 tw13325111957868017734 tw3025902014540234332 tw16252240665890999040 tw9594956413950550348 tw7817308482824693411 tw6418775925588124849 tw14216279927876785629 tw7827874027307192395 tw17687171292513285803 tw3711454418472509862 tw7315903654735978161 tw14258381159279106545 tw12106703538215059371 tw11292011210381198099 tw5847746677651199639 tw874552298293385643 tw14609836696028685547 tw14673499384272444413 tw17281696939561480367 tw16215335447238956147 tw15803795304483161760 tw17466804542881370377 tw11628666828731986570 tw17329664958262703078 tw4185594712678543354 tw5422328834277176989 tw5129698673127484280 tw15504657514566222674 tw13954472638400305127 tw4275736947667696216 tw7874278453431890764 tw1237077682783029372 tw2755032521397505819 tw18316637245249663366 tw1404256328043677591 tw6556774504959911287 tw16756001062767743731 tw2342886545347646265 tw5936364310180084251 tw10393702314846586844 tw8362050418379202720 tw10559233329624064320 tw3010352864532898772 tw4909831387571640784 tw10579436128025023853 tw3943224776589419227 tw7117391511874739875 tw1285336096493879549 tw603332728907508830 tw9730440221044675135 tw12148638319461943850 tw15320508551832022848 tw7959563791886043540 tw4002768220881588835 tw10525866606911926975 tw7969431152164676130 tw4229937839423470467 tw12992156693590982932 tw4672293920578885192 tw16668105347690167528 tw15085220116457802699 tw7661099502983621180 tw3411438194713299499 tw1555410078807746910 tw2372615995300801237 tw1717557837053522749 tw7651383796190429288 tw12587306947189338053 tw10671426823185400323 tw13980081786875814309 tw14081277953509962288 tw10179708711110263472 tw2800186087494041211 tw4952971729196667137 tw2085805014458518919 tw3929521757145210390 tw11568159644778409020 tw5891791677076769435 tw8118066769653580516 tw6021605002211939995 tw14986319048874620513 tw14510619019361358014 tw17240514366803614642 tw843209814674552332 tw15622565563075009809 tw8174556159098232612 tw10421886847016431265 tw8747424796775285221 tw15683508159488357407 tw18441840997461990013 tw16365745372931805553 tw17776001912988482968 tw7025042704680449356 tw5171368552515291776 tw9713699301572226665 tw5941529921363815247 tw923605827138909938 tw9647430646397406674 tw9848969763406548524 tw8585777212115195186 tw14473878801593458679 tw8959772574230832094 tw16763364986256368743 tw11644909882499230990 tw8889376704965642899 tw4329165792655028007 tw12134318106059885948 tw4876826284808833107 tw17117259832892364353 tw16000807013297556827 tw13497235303934824529 tw11677083880570012807 tw14871561933662762800 tw11882098210998946390 tw3810631394031765310 tw6289412294576382138 tw4551505457773146855 tw3766070810377160475 tw14057826958584225449 tw11131942726486606233 tw6880933364921091536 tw11020472404829906638 tw6668603336440089421 tw10139636943843984064 tw1897254313004920875 tw8930777546758833733 tw11833000286636425696 tw11186498828605250578 tw15891412362955463344 tw12123433713011850144 tw3756873011958801253 tw1202622417817026274 tw13938788118119022310 tw8554505404878547789 tw8232214571321494023 tw15861772994452125125 tw9414910931783223092 tw18394763908884031686 tw13420134524072000298 tw4611418372197528660 tw11968566293069644883 tw15427462961256914225 tw17576679868509391363 tw1320371266414760183 tw15410356241794677316 tw11120509556688770410 tw14061349169008290059 tw12553309066829815438 tw16971514451924494002 tw14555645189728885574 tw2430884210704246392 tw3601838547110700955 tw7263454049782557142 tw14364986802581802568 tw1296244503410010330 tw5917759647780765101 tw3262907018688814357 tw6800101090669457937 tw3542721993123157386 tw8792825632472810819 tw677934016036627018 tw14969433050528271100 tw4156697795346642712 tw10535102035214279290 tw2688940998068474726 tw14432653559798155157 tw15800202106808525439 tw4232831945471111589 tw17751781630775140595 tw11199583026964266905 tw10749406014866819532 tw8713987009699141147 tw17822880281991856105 tw12527354671180152892 tw1979095694549928246 tw15388667074653754255 tw18264888522688311892 tw6697119675801683101 tw1404824558201049803 tw16410892773927105672 tw9673647419201986703 tw3378086487415701310 tw3626646953931151997 tw13837218803146006159 tw9221397042967122148 tw1350276564184450363 tw5652786859520254161 tw15998720071819600310 tw14155347436949441495 tw13461358537386777068 tw11292196292989757088 tw15449275565517695753 tw10306964820336518862 tw8982930557081914611 tw18072981297291146681 tw3421066576711494149 tw10705755460904733642 tw4457811289677003463 tw17775417388236206658 tw13908620046185184791 tw13460660159317437094 tw10827176449045637756 tw6409001682332279149 tw10610076927123857644 tw14608502724862149250 tw5620437625407276771 tw16719475280748685325 tw11993338328266153681 tw2769633241972508792 tw10544872419875720883 tw6034059214798740811 tw10904596633716785963 tw623150438270730034 tw12552378584026620609 tw15516389102898025627 tw5581098116165941132 tw374524289201484033 tw5771664372692177992 tw14023178002808753894 tw9167085349232388957 tw12078810753376745084 tw16056387201038295669 tw8931446124682133659 tw10195966556830025525 tw6731254559196266020 tw8249695795182084605 tw18399856264690000639 tw17308257902312891276 tw5782133412323336133 tw18042828186086047449 tw10236510980064921553 tw10032697413493392795 tw343216688797080630 tw14912691268451049954 tw18257006057511916978 tw13508287686635819758 tw10128429579626886979 tw1038043507099084346 tw16248804584887628381 tw5935749965858428628 tw3477402127389304764 tw2866657455819110978 tw18003287417460599364 tw15983587495229293622 tw12783279993326740539 tw12741382666037548288 tw6538275947165043372 tw3222870213542442648 tw6368094060365200969 tw9113484175440948974 tw8384999395173975723 tw10116390850689316667 tw10380024694629425394 tw17318773232682951378 tw10890788854495706562 tw11030156298008068278 tw17761097231913466403 tw11374972161012858093 tw11245962169341013353 tw18098643790491556538 tw9936188015138826803 tw2037050443124222256 tw10614426570825164703 tw9263847930407949039 tw6365229245193584048 tw939122104850850069 tw8980939588576059291 tw12215538849697279727 tw9647575132346894494 tw6670177948906406844 tw6192762798574894324 tw14988131889039328335 tw9313262489016570274 tw8695243326475347533 tw17908559966826592585 tw3811806480559113021 tw5082407961628628282 tw17097648354502845264 tw9284815299581943839 tw6443544554506170373 tw17339223775475886487 tw606733662953197960 tw5466330465778057596 tw15298944503613922957 tw874991794890938968 tw9515716693542809714 tw17372519050392622155 tw11520083921966745156 tw16886653248683248944 tw16590395484430050178 tw11246577620670280922 tw10435296824043519963 tw9355368873304377357 tw9369134955488635162 tw5839337931226449989 tw520094243438978714 tw10006929138596789131 tw639138265722102272 tw5181769771946998527 tw10217975667766231596 tw3462301709654966022 tw7144184507355880899 tw7832309689697340905 tw14429578158239524114 tw14390541969827270615 tw7496871123293979539 tw9874190989463590866 tw2880332436563283887 tw11874671756953075754 tw4498066589915729579 tw2352515581133407565 tw12821328869625249135 tw7050951398177344353 tw12505515593185587497 tw2995423533584208819 tw11735540684799093001 tw6882249889427829544 tw4833750886526912391 tw3793209884180374375 tw120602619035318154 tw11016467886926198127 tw8748946735378857205 tw7762776171682760672 tw231017217994205736 tw4021834894378456061 tw17226181461590418201 tw17150750402635432775 tw2608532630417093905 tw9550609769248045597 tw8403253758663591111 tw3979143113289826753 tw5696221088669673905 tw12591063617770259440 tw16564491435588431309 tw11314533201235014851 tw3240958870998217689 tw12100138397619280908 tw1154149246185727311 tw7159375403561314690 tw13021383291344097992 tw3629377358218474283 tw13498883725982420308 tw10718095203082269921 tw7869669444934522450 tw841882996189380266 tw16875419080750536999 tw1590054992896636426 tw5453100559188142820 tw5527844510589002384 tw9478101613097797166 tw18029135627530733587 tw1342109770165111867 tw864921229734813039 tw12839331862683822225 tw5545908876392340193 tw15158325950864990700 tw5664685585973366712 tw16945665141478158275 tw16874177756623242280 tw16644161167365744706 tw15974994346672740515 tw11363639983698753338 tw632211800218786773 tw803783719672829039 tw17328516513219430225 tw18147691662883235245 tw12077745828092789659 tw14118552687403292999 tw5461887806489798385 tw13370256644831845569 tw18400479470993366803 tw2396633621586779835 tw17782670383638680743 tw5483445482690938329 tw6000610771279916774 tw10561889009046014819 tw11034910111776038378 tw492270486025753961 tw8309906032768564939 tw1868881627812785047 tw17754365118617350267 tw17054933028429743605 tw1315356264445156142 tw3644304660793799650 tw17764782772141097318 tw13688744178388112685 tw12511905493900904347 tw3823803682580511334 tw1571085262639114262 tw13587299109284129200 tw16064796417395253440 tw4127602875030318455 tw17007628606351468068 tw7383858674064429460 tw11757042991111800614 tw7384624754989124216 tw6562490645686594189 tw16249749418151867178 tw16225372870482443540 tw6627618434990308782 tw2134395424261570116 tw1637232368570560612 tw8634557154906135687 tw17092179349272784477 tw16450646040071764645 tw7661151489325921861 tw9491628206067566458 tw12080947066981163003 tw5894090011355745464 tw7309084457380462689 tw4805082603701800087 tw316208594596909522 tw10516727989129922783 tw10042062844683640138 tw8466819006114670430 tw18410801562794124151 tw9181770489796217155 tw7600120509462813853 tw3209850172133515631 tw14819268494405158404 tw3667396810404763014 tw17030774591649873723 tw10993857956271714706 tw17821950147360278595 tw16549148635504162536 tw2585729321538966840 tw16638740002488474321 tw5496109417989165383 tw1971297062606672363 tw1525541138481152945 tw6055606415391533789 tw807563048015965116 tw7826317828340167015 tw6874818909858303848 tw3665813578055892285 tw1657415717367157302 tw16567170397178695405 tw16269523634723496416 tw7393732605961143048 tw2999073886566857756 tw5357755144137074703 tw2786571187497207135 tw16969708810599541729 tw15499062491428830251 tw15398524144888511123 tw15196282642928506994 tw2832417538792656272 tw16996310639648087334 tw9537009787211699142 tw17493656518012477388 tw13426836505339793602 tw8158155573774434016 tw18109363132288329928 tw13903360001402007677 tw16779794094423278 tw730416635617980357 tw2413571732080694613 tw7212221852402466970 tw10061628227864843313 tw15763791401440428973 tw15286086240583014135 tw7637599697023517213 tw8930007431408009630 tw14031911176747540389 tw13617569622638560854 tw17079978920356175946 tw7419059700143484788 tw3974070991996757844 tw11123529452937989760 tw14068635195420334189 tw7456551454915089564 tw10367449389450020292 tw12851826153537486068 tw17593905563836509322 tw16637354131203991122 tw2690048386991542276 tw5065322009422617251 tw15486275032790709429 tw13232044045793100197 tw6701695126650091015 tw16701979839421733456 tw8498417985452036917 tw16671492468019470707 tw12737670770510005132 tw16696433107005688643 tw897677300484202139 tw12183770325960211781 tw15037642763541779147 tw1917655183194540777 tw1603385965781183032 tw12307259674938294915 tw10269201034298663111 tw8374679840212860133 tw7748981825492592585 tw5728289956907189297 tw15640676900985606448 tw13223359383957883698 tw5742173341590639619 tw1971204782637002554 tw1102300137212230586 tw10621914783240874808 tw17316358565875640482 tw12760258145763566807 tw15382763433497624963 tw5679929265820695050 tw3469175830680816629 tw8917425872775044509 tw8606172508742596622 tw15372437318801765051 tw2537052674589915548 tw11605648449138380944 tw6872244199428698515 tw3865403574213748174 tw1703117515887086635 tw9078366148838254989 tw226391230327588594 tw7728389767648709747 tw5342267759277403852 tw18314699627718664286 tw14328472901856581086 tw11874756705330232015 tw1929782604399513020 tw9174309420179928853 tw10754061965453458366 tw8608496181498697913 tw8415617939197192662 tw4095939633519907534 tw17541529874469003067 tw15519348923368635731 tw1955370996031957391 tw8074765105888767424 tw4364321439205476454 tw286912959546512147 tw15587812891439557784 tw13618553529456405330 tw11454625239667379186 tw10091437403208618907 tw8969092523907500523 tw7420477765070729488 tw6872791257433044888 tw1895739159908404870 tw12321310710876072855 tw102947324445600379 tw8381510482420851457 tw6340391967364356174 tw4943201702895614859 tw174447947446958810 tw17262822478609886159 tw17229525709917053381 tw4824984105648151165 tw394114867532043826 tw314080387547973391 tw2069012393007707889 tw18133737978272120962 tw17280559286510017364 tw17116491141669425646 tw14611356829457665318 tw10108047124671132991 tw6324557355236680857 tw2955918188359370948 tw15192931716224313286 tw12957098633995891151 tw13334075052509347486 tw5521155273416342349 tw15277926150726950681 tw2617630587834854996 tw9958259328509763713 tw953237296017645378 tw17314391203247660613 tw8962750364956584959 tw17018252280012092311 tw595401912001919209 tw17454150024128106329 tw5975132210607974229 tw10904564499843610470 tw14266245517860336299 tw13054854330273254974 tw16387874685668369801 tw12571594316564031270 tw5811757987999352442 tw7188764644271687864 tw14861258425365298616 tw10854832933472766879 tw9801551111545931345 tw3769920767228689173 tw13176467604415003129 tw11663150335742386950 tw10075520001603900304 tw17309430720091992758 tw5251393956007972306 tw233281746593552173 tw13211202006624022254 tw12449436944626083290 tw8134145105573117096 tw13136025978210928375 tw817974378264169015 tw1307833498582006761 tw11212682183710375478 tw9104052118272129659 tw8940943534581212514 tw18212760976362409821 tw9957682622863992938 tw5602899357447773122 tw5413105271105011120 tw2569183981329142529 tw14761622382819084423 tw6165720456603442384 tw11473882514227480873 tw13941106294570698934 tw1132685516351596355 tw9904169711154469890 tw8640430990449681593 tw7146955886480398676 tw5006201978232616510 tw3030678475432267158 tw17967646290711902748 tw17952015756767244990 tw15273571210199835994 tw14952034228631044204 tw8109971821011073422 tw5261301168326718328 tw16898565857098528977 tw12695637167889615577 tw1254171757535770739 tw10755525454517628918 tw5102217719098948346 tw8016294163567704948 tw7603619347413159648 tw3863209200814207289 tw2403966991625474863 tw17202441782231636231 tw2414229570395884808 tw12271633884333107999 tw5803205150933301436 tw12393087609417151110 tw8709382680782555405 tw8100034558634950172 tw6978492615044626936 tw3302742222873253818 tw17334983869453348208 tw13171498321907458164 tw9156359116748670895 tw6716328255769085671 tw2851297845680760791 tw17926473933654280140 tw106798017558716588 tw10054771865751173117 tw9187655187344253372 tw5164444741702021041 tw758849020624709484 tw7284601599631835718 tw17991151797495519062 tw14211834857367749304 tw12184233661112316318 tw11147291284466434905 tw3361130236182672903 tw11221279047521428124 tw11184420833207453340 tw10015986745607733023 tw4659603373346599861 tw16540915234314689445 tw9999216332440017129 tw3898029831167981539 tw2504277751800151662 tw2125548063666467202 tw7588308672094477789 tw6529915968552639707 tw14939043764266925580 tw7762186534275676167 tw17728411184965834939 tw11784045330087807739 tw1970257156906860613 tw14622050841274877405 tw6659754263489684923 tw11791624001791629817 tw17112358914747003521 tw14182485345989933851 tw12176321394441445151 tw6746741092308707125 tw3997707665440056261 tw8283783711010497196 tw2856948011760187368 tw13919386111214558713 tw12070931802606252440 tw5677880118533410924 tw165947473129430429 tw12592353269634224216 tw4627517861983530297 tw18372814423878871626 tw17934556625376336116 tw13490411426445280557 tw5183185885922680567 tw5056940929640903234 tw16410468781515118267 tw14415726390247969867 tw12082537687410219015 tw4092271701846080253 tw17620035817891564598 tw15283110809778356285 tw6897016125611198683 tw6894856138151817323 tw5976260020027576521 tw2552395239728480103 tw12485956424805878385 tw10738715957829726016 tw5823413606833727702 tw12938611656868702429 tw11350250965498407709 tw6884800466294431061 tw15216476331540443701 tw13621585159443220049 tw15351300077588106656 tw15252661277080403180 tw15696826913609558568 tw2819136678959652223 tw8770415639269932996 tw12477674371626803956 tw15324102308898320044 tw1213187401305017273 tw17221594761457862251 tw13875544866905059350 tw1206023755492066050 tw2184241391588027026 tw17846049229377598822 tw10595598436641873569 tw14585847037959998316 tw3398311764675375403 tw12033871625922727966 tw18021863099077161031 tw12955964000245663816 tw5515311919229352110 tw4463625049730831552 tw9028706893824384113 tw8829710317505822258 tw12602250870219501042 tw6278628317245825033 tw4553147547146106751 tw14037588171641508591 tw13144413397618100026 tw18053714640040507874 tw17439183413660683573 tw15927253931394558387 tw7617511990073777519 tw8785476622552703646 tw4833514495121919496 tw4569514816990936411 tw12007814520478127514 tw13860996597897644770 tw10374711398943602296 tw10317446491233379159 tw711776921483144174 tw3180957747869876442 tw3369784861749982318 tw8482727259477800566 tw3758071699308165174 tw9917604202234871545 tw9002486694776871380 tw8551835196599092002 tw461313676693934815 tw3309140536853889693 tw18009607352858949577 tw17169606864907812162 tw14640418352827876028 tw14487482640732477514 tw13483512257944666502 tw13082175840119333493 tw12759197348523723025 tw10764401456716066100 tw11275276345775242019 tw848337672010158134 tw5014274378121460714 tw4346579142363068037 tw6130187559564792190 tw3006201118326299291 tw91429174558072488 tw9090854736468893251 tw9014287265940562516 tw8531736949152137967 tw8069205228867247473 tw7390883029551343194 tw6812316762317968031 tw6086348903845363885 tw492689752725005898 tw1916517226313487488 tw18374223982259470072 tw17588927622570623972 tw17564374399760100670 tw16003889658303628266 tw11886844179226117054 tw7533446474443954370 tw7890733009030041941 tw7878508568819947592 tw7752372119922394028 tw7744552633863227558 tw17415595350292183944 tw16371118253579443483 tw16295637602664507022 tw14615941647893984298 tw13188494709974331513 tw11472782070974717056 tw11356433476763066511 tw13674082581830360327 tw9170655892563902359 tw886855893265611359 tw1636282983469750112 tw16078430759642628836 tw13443072443358669377 tw13296495585764451929 tw12474195163871405495 tw12181879115451162355 tw10337814315153552103 tw8025246296592617764 tw6290531014437538325 tw6141564047255038260 tw2149424585081437165 tw18010770135832276260 tw17847421815877521627 tw16225114649803497730 tw16073003118068790944 tw15883300873947454002 tw14964184249159034783 tw13989128931871785291 tw13245778104435892618 tw11061907926498954738 tw1935595668208522675 tw16692525544704649257 tw8656815712445512627 tw7558473764455745176 tw2475710820517486891 tw14731333008651828309 tw13574222839193533635 tw10984036701211945051 tw13585892797102942964 tw17344891763709771203 tw7691451050183585030 tw11947200986467908220 tw7053314312260896758 tw2295965640355991258 tw18059866157416188458 tw14007911257642167598 tw9758159269768733766 tw9945178967872190476 tw5909470830937496763 tw5577723291387088237 tw5515516484939235113 tw5093159216165979366 tw5068431888994850792 tw4586457517141867946 tw3184584993177905740 tw2831275930096094600 tw207479761519980826 tw1884756698353656820 tw16775973604847005491 tw16545179876103677929 tw16313129694346178760 tw15097886595454134201 tw14290717132559061292 tw13935444103191931099 tw13153332900908261403 tw12732528187756400568 tw10078501575648585678 tw6657027530149696854 tw16916303598569188402 tw9569652247317205272 tw789681387893533187 tw7104351511206514803 tw6720959460618348230 tw572050829599661701 tw5628168697279770145 tw2027565621764426942 tw18308399492281837543 tw1763284280005976230 tw15159885927701705914 tw14851210842651281965 tw1484017344895948883 tw14807341969408743119 tw13552717933082820545 tw13405882835417782835 tw13380208888802820458 tw12835894690061343790 tw12667586501158100120 tw11506522598844422267 tw11007184663564837797 tw983338791914167002 tw9464317355714027096 tw9273258169522397773 tw8911094880000569802 tw8775459027657295306 tw808832387336781154 tw6366551499329317156 tw6082795702385402662 tw5537541356604600259 tw3238555708669498067 tw3117625307755454384 tw2107568799070309819 tw1852144629615034747 tw17864539443929519221 tw16249891212592082644 tw16102985949248129885 tw15868698105753324840 tw1568828536693682593 tw13349436541741616266 tw16002925896957431942 tw5013388927420046144 tw8401579815815074311:True)
namespace L2
open PySem PySem.W
theorem cut4 {α β : Type} (f : α → β) (l : List α) : l.map f = (l.take 200).map f ++ (((l.drop 200).take 200).map f ++ (((l.drop 400).take 200).map f ++ (l.drop 600).map f)) := by
  have e (n : Nat) : l.drop n = (l.drop n).take 200 ++ l.drop (n + 200) := by
    rw [← List.drop_drop, List.take_append_drop]
  rw [← List.map_append, ← List.map_append, ← List.map_append, ← e 400, ← e 200]
  exact congrArg _ (e 0)
abbrev OptObjs := List (Option Obj)
def sHook (K : Params → Frag) (as : List Addr) (e : ∀ P, as = (K P).map (·.1)) (ts : List Addr) : Hook := ⟨((OptObjs × OptObjs) × (OptObjs × OptObjs)) × OptObjs,
  fun s => ((((as.take 200).map s.heap.get?, ((as.drop 200).take 200).map s.heap.get?), (((as.drop 400).take 200).map s.heap.get?, (as.drop 600).map s.heap.get?)), ts.map s.heap.get?),
  fun w => (((((K w.params).take 200).map fun p => some p.2, (((K w.params).drop 200).take 200).map fun p => some p.2), ((((K w.params).drop 400).take 200).map fun p => some p.2, ((K w.params).drop 600).map fun p => some p.2)), ts.map fun _ => some (tabObj #[])),
  (kmHook K as e ts).says,
  fun w s x => (kmHook K as e ts).of w s (by
    obtain ⟨x1, x2⟩ := Prod.mk.inj x
    obtain ⟨x3, x4⟩ := Prod.mk.inj x1
    obtain ⟨a, b⟩ := Prod.mk.inj x3
    obtain ⟨c, d⟩ := Prod.mk.inj x4
    exact Prod.ext (by show as.map s.heap.get? = (K w.params).map _; rw [cut4 s.heap.get? as, cut4 _ (K w.params), a, b, c, d]) x2),
  (kmHook K as e ts).keeps⟩
theorem s_in_of {K : Params → Frag} {as : List Addr} {e : ∀ P, as = (K P).map (·.1)} {ts : List Addr} {w : World} {h : Heap} (Y : (sHook K as e ts).says w h) : (K w.params).In h := km_in_of (e := e) (as := as) (ts := ts) Y
end L2
section
open PySem PySem.W PyProof.Rows
local macro_rules | `(tactic| o_head (kmHook $k $a $e $t)) => `(tactic| o_head (L2.sHook $k $a $e $t))
local macro_rules | `(Hook.obs (L2.sHook $k $a $e $t)) => `(fun (s : PySem.Shared) => ((((($a : List PySem.Addr).take 200).map s.heap.get?, ((($a : List PySem.Addr).drop 200).take 200).map s.heap.get?), (((($a : List PySem.Addr).drop 400).take 200).map s.heap.get?, (($a : List PySem.Addr).drop 600).map s.heap.get?)), ($t : List PySem.Addr).map s.heap.get?))
local macro_rules | `(Hook.val (L2.sHook $k $a $e $t)) => `(fun (w : PySem.World) => ((((($k w.params).take 200).map fun (p : PySem.Addr × PySem.Obj) => some p.2, ((($k w.params).drop 200).take 200).map fun (p : PySem.Addr × PySem.Obj) => some p.2), (((($k w.params).drop 400).take 200).map fun (p : PySem.Addr × PySem.Obj) => some p.2, (($k w.params).drop 600).map fun (p : PySem.Addr × PySem.Obj) => some p.2)), ($t : List PySem.Addr).map fun _ => some (PySem.W.tabObj #[])))
set_option maxHeartbeats 0
open_top hd80 for PySem.Challenge.rw_lampway_k80_a_desk_answers
end
set_option autoImplicit true
local macro_rules | `(tactic| ac_nf)=>`(tactic| decide +kernel)
local macro_rules | `(tactic| omega)=>`(tactic| first | with_reducible assumption | omega (splitDisjunctions := true))
open Array renaming getElem?_eq_none→aeZ,getElem?_toList→Me,length_toList→oI,mem_toList_iff→Ws,toList→ZR,toList_append→gZ,toList_extract→aen,toList_inj→WL
open Bool renaming and_eq_true→iV,and_false→Us,eq_iff_iff→nP,false_and→q0,false_eq_true→vj,false_ne_true→gp,false_or→xp,not_eq_true'→VI,or_eq_false_iff→Qx,or_eq_true→Az,or_false→Kh,true_and→tF,true_or→BO
open Char renaming toNat→mh
open False renaming elim→kG
open ForInStep renaming yield→v_
open Int renaming add_mul_emod_self_left→DG,ediv_one→Sv,emod_emod→KH,emod_eq_of_lt→oh,emod_lt_of_pos→h1,emod_nonneg→gQ,emod_sub_emod→N4,le_refl→OW,sub_emod→uc,toNat→PB,toNat_natCast→qg,toNat_of_nonneg→l4,zero_add→Cr
open List renaming all_cons→aex,all_eq_true→o1,any_cons→uN,any_eq_false→Hv,append_assoc→nt,append_nil→G0,cons_append→mP,contains_cons→aak,eraseIdx_of_length_le→Z5,ext_getElem→r3,extract→af8,filterMap_cons→NS,filter_append→Sj,filter_cons_of_neg→NU,filter_cons_of_pos→Nf,filter_eq_nil_iff→Sw,find?→Kp,find?_cons→pY,find?_eq_none→n',find?_some→VQ,findSome?_eq_none_iff→F1,flatten_cons→U3,foldl_append→aeo,foldl_nil→QA,getD→Jt,getD_eq_getElem?_getD→iF,getElem?_append_left→uP,getElem?_append_right→se,getElem?_cons_succ→lY,getElem?_eq_getElem→cv,getElem?_eq_none→aeX,getElem?_eq_none_iff→adH,getElem?_eq_some_iff→cW,getElem?_map→dS,getElem?_mapIdx→NH,getElem?_of_mem→iX,getElem?_range→JX,getElem?_replicate→Zx,getElem?_reverse→OS,getElem?_set_ne→Mw,getElem?_set_self→Nx,getElem?_take_of_lt→vM,getElem?_toArray→Zd,getElem?_zipIdx→TF,getElem?_zip_eq_some→JF,getElem_append→aaK,getElem_inj→WW,getElem_map→vQ,getElem_mem→tB,getElem_of_mem→rd,getElem_range→aeS,idxOf_lt_length_iff→P5,length→m8,length_append→eV,length_cons→fp,length_drop→Of,length_eq_zero_iff→Qm,length_eraseIdx_le→Mh,length_filter_le→Tb,length_map→a8,length_mapIdx→xF,length_nil→AN,length_pos_iff→K3,length_range→jN,length_replicate→rZ,length_reverse→pj,length_set→UY,length_singleton→O5,length_take→fq,length_zip→E9,lookup→mS,lookup_cons→mZ,map→gb,map_append→eQ,map_congr_left→aeN,map_cons→dP,map_map→lG,map_nil→hE,map_replicate→Zc,map_reverse→Er,mem_append→r7,mem_append_left→aag,mem_append_right→nL,mem_cons→cP,mem_cons_of_mem→hP,mem_cons_self→oY,mem_filter→vF,mem_filterMap→abu,mem_iff_getElem?→Mi,mem_map→dN,mem_map_of_mem→zS,mem_of_find?_eq_some→abv,mem_of_getElem?→c6,mem_of_mem_take→Lf,mem_or_eq_of_mem_set→Z6,mem_range→Es,mem_singleton→nI,mem_singleton_self→aaZ,mem_zipIdx_iff_getElem?→adJ,nil_append→ma,nodup_cons→s9,not_mem_nil→fw,of_mem_zip→O4,range→dG,range_succ→z',replicate→ni,reverse_cons→UW,set_cons_succ→yB,set_cons_zero→An,size_toArray→eR,sum_cons→vd,sum_nil→aa2,take_add_one→q5,take_length→o3,take_of_length_le→lz,take_zero→MS
open List.Pairwise renaming nil→aid
open List.cons renaming inj→r0
open Nat renaming add_comm→UO,add_mod_mod→RW,add_mod_right→ada,digitChar→H8,le_of_eq→ab8,le_of_lt→om,le_refl→bW,le_succ→Ae,le_trans→cp,log2_lt→Lj,lt_irrefl→pa,lt_of_le_of_lt→iD,lt_of_lt_of_le→ih,lt_succ_of_lt→Mn,lt_succ_self→MQ,lt_trans→Xf,mod_eq_of_lt→xO,mod_lt→t2,ne_of_gt→NT,ne_of_lt→e9,pow_le_pow_right→Uh,reduceAdd→S7,reduceSub→TG,succ_mul→ac4,succ_ne_self→Wf,toDigits→lH,zero_add→R1,zero_le→gi
open Ne renaming symm→eY
open Option renaming getD_none→Vo,isSome_iff_exists→aet,isSome_map→Wm,map_eq_some_iff→WA,map_some→Cd,none→V'
open Option.some renaming inj→dZ
open Or renaming inl→l3,inr→nU
open Prod.mk renaming inj→EE,injEq→GW
open PyProof.Rows renaming callWith_builtin1→aiC,callWith_type1→u1,digits10_le→agC,iadd_int→ais,ljustF_list→aiL,slot_tuple_getitem→L0,split_weight→aeM
open PySem renaming Within→Pd,call→Kz,mem_of_lookup→yI
open PySem.Around renaming under→O6,under_plainId→acW
open PySem.Builtin.Builtins renaming bindParams→Wr
open PySem.Builtin.Dict renaming dictSlotNone→agY,showsAll→TM
open PySem.Builtin.Dict_items renaming ownsTuple→acT
open PySem.Builtin.List renaming listExtendWith→Ec,listItems→T7,listLengthHint→T9,listSameRef→VK,listTooLong→Ob,listUpdate→ahX
open PySem.Builtin.Range renaming rangeFitsLong→aiS,rangeSize→CB,small→T'
open PySem.Builtin.Slice renaming sliceAdjust→Lv,sliceApplied→ab7,sliceFields→ah_,slicePartIndex→aiw,slicePlaces→Gx
open PySem.Builtin.Str renaming occurrences→lb,partsBetween→Yj,strKind→ZE,strSub→pv
open PySem.Builtin.Tuple renaming tupleExact→CZ,tupleItemsOf→ahg
open PySem.Calls renaming Constant_str→afZ,Name_function_global→Ud,callWith_builtin→Ue,spliced_cons→VT,spliced_nil→Uy
open PySem.CmpOp renaming NotIn→RA
open PySem.Code renaming frames→abG,isFrame→KY
open PySem.Data renaming cell→D2,fields→G6
open PySem.EqMixed renaming eq_bool_str→aib,eq_int_str→ahJ,eq_str_bool→ah3,eq_str_int→aiB,ne_bool_str→aiQ,ne_int_str→agu,ne_str_bool→aiu,ne_str_int→ahZ
open PySem.EqNone renaming eq_bool_none→ahQ,eq_int_none→agV,eq_none_bool→ahz,eq_none_int→agO,eq_none_none→aij,eq_none_str→agD,eq_str_none→agE,ne_bool_none→aiV,ne_int_none→ah6,ne_none_bool→ahc,ne_none_int→agM,ne_none_none→ail,ne_none_str→aho,ne_str_none→agU
open PySem.Expr renaming Call→LA
open PySem.F renaming args_dict_keyiterator_next_1→WN,args_str_split_2→NN,entry_dict_keyiterator_next→aa9,entry_min_loop→Xh,entry_str_split→NO,plainAttrs_list→l5,plainAttrs_str→iw,plain_min_loop→tj,slot_dict_getitem→Wk,slot_dict_items→Yc,slot_dict_iter→Wb,slot_dict_keyiterator_next→zp,slot_list_append→n1,slot_list_extend→Rv,slot_list_index→Y6,slot_list_reverse→afV,slot_str_join→kO,slot_str_ljust→XI,slot_str_partition→X9,slot_str_split→A6,type_list_append→o',type_str_join→kM,type_str_ljust→aej,type_str_split→Ug
open PySem.Heap renaming SameBut→sG,get?_push_of_some→er,get?_push_size→e6,get?_update_other→qR,get?_update_self→Bw,lt_size→dt,size_push→uA
open PySem.Heap.IsSliceOf renaming new→aic
open PySem.Heap.SameBut renaming update→X_
open PySem.IsRange renaming new→Y2
open PySem.NameKind renaming cell→Qs,free→oE
open PySem.NumText renaming digitsVal→Fb
open PySem.Obj renaming data_mapFields→aac,mapFields→Ta,mapSeq→qw
open PySem.Paired renaming length→Hk,snoc→JQ
open PySem.PassesOwn renaming never→fT
open PySem.SeqAt renaming EqAt→abb
open PySem.SeqAt.EqAt renaming int_str→Ui,str_int→Sf
open PySem.Str renaming cps_append→gI,empty→lp,join→b3,length→lK,ofString→aa
open PySem.StrLaws renaming found_one→acC,glued_eq_join→ta,sliceText→CL,subAt_one→Qb
open PySem.Txt renaming join→iA,ljust→nd,slice→oR,slice_le→wx,split→gw
open PySem.Value renaming bool→k6,bytes→Z2,float→acZ,int→mL,isInt→abz,isStrOf→aax,isStrOf_shape→Sb,none→pB,ref→fC,str→tK,type→t8
open PySem.W renaming Frag→a',KeysLit→Dt,OpenLaw→SQ,WalkO→agg,callWith_K→DM,callWith_K0→NK,cellsFrom_some→abx,clsIn→abc,codeIn→M7,emptyDict→n2,findCls→ac1,findIn→dg,fnOf→vY,handedIn→adp,hasDictIn→AX,instObj→p3,isFn→Ls,keepIn→qG,lookIn→Ei,makesIn→ad4,methodCall_KW→Gj,methodObj→JH,mroIn→H',nsIn→zk,plainGet→GL,plainGet_of→Jo,plainOver→afr,readsIn→ad2,specialIn→rJ,takerIn→Nl,takesIn→Cs,typeIn→YR
open PySem.W.KIN renaming signs_num→MV
open PySem.W.Looks renaming here→ahr
open PySem.W.WData renaming int→SU
open PySem.W.WShape renaming has→Zq
open PySem.Walks renaming list→Rx,range→acH
open PySem.Within renaming cons→aii
open Sum renaming inl→rK,inr→du
open Sum.inr renaming inj→rC
open True renaming intro→q6
namespace L2
open PySem PySem.Spec PyProof.Rows
noncomputable abbrev Key:=Sum Int Str
noncomputable def r6:Key->Value->Bool
 | .inl k,v=>abz k v
 | .inr x,v=>aax x v
noncomputable def Tn (w:World):Key->Int
 | .inl k=>hashInt k
 | .inr x=>hashStr w x
theorem lU:∀ {k:Key} {v:Value},r6 k v=true->(∃ i t,k=rK i/\v=mL i t)\/(∃ x t,k=du x/\v=tK x t)
 | .inl i,v,h=>by
  obtain ⟨t,e⟩:=Value.isInt_shape (k:=i) (v:=v) h;exact .inl ⟨i,t,rfl,e⟩
 | .inr x,v,h=>by
  obtain ⟨t,e⟩:=Sb (x:=x) (v:=v) h;exact .inr ⟨x,t,rfl,e⟩
theorem aeu (i:Int) (t:Tok):r6 (.inl i) (.int i t)=true:=by simp [r6,abz]
theorem Um (x:Str) (t:Tok):r6 (.inr x) (.str x t)=true:=by simp [r6,aax]
theorem VJ (a b:Int):decide ((rK a:Key)=rK b)=(a == b):=by
 by_cases e:a=b
 .subst e;simp
 .have h:¬ (rK a:Key)=rK b:=fun q=>e (Sum.inl.inj q)
  rw [decide_eq_false h];exact (beq_eq_false_iff_ne.mpr e).symm
theorem ac5 (a b:Str):decide ((du a:Key)=du b)=decide (a=b):=by
 by_cases e:a=b
 .subst e;simp
 .have h:¬ (du a:Key)=du b:=fun q=>e (rC q)
  rw [decide_eq_false h,decide_eq_false e]
theorem abm (a:Int) (b:Str):decide ((rK a:Key)=du b)=false:=decide_eq_false (fun q=>nomatch q)
theorem VM (a:Str) (b:Int):decide ((du a:Key)=rK b)=false:=decide_eq_false (fun q=>nomatch q)
noncomputable def hy (prog:Program) (w:World):PySem.KeyKind prog w Key where
 is:=r6
 hash:=Tn w
 inj:=fun v a b aS af=>by
  rcases lU aS with ⟨i,t,rfl,rfl⟩ | ⟨x,t,rfl,rfl⟩
  .rcases lU af with ⟨j,u,rfl,e⟩ | ⟨y,u,rfl,e⟩
   .injection e with ax _;rw [ax]
   .exact nomatch e
  .rcases lU af with ⟨j,u,rfl,e⟩ | ⟨y,u,rfl,e⟩
   .exact nomatch e
   .injection e with ax _;rw [ax]
 byValue:=fun k v h=>by
  rcases lU h with ⟨i,t,rfl,rfl⟩ | ⟨x,t,rfl,rfl⟩ <;> rfl
 pyHash:=fun aK h=>by
  rcases lU aK with ⟨i,t,rfl,rfl⟩ | ⟨x,t,rfl,rfl⟩
  .exact wpAny_pyHash_int h
  .exact wpAny_pyHash_str h
 eqBool:=fun bE aK h=>by
  rcases lU bE with ⟨i,t,rfl,rfl⟩ | ⟨x,t,rfl,rfl⟩
  .rcases lU aK with ⟨j,u,rfl,rfl⟩ | ⟨y,u,rfl,rfl⟩
   .rw [VJ] at h;exact wpAny_eqBool_int h
   .rw [abm] at h;exact Ui i t y u _ _ _ _ h
  .rcases lU aK with ⟨j,u,rfl,rfl⟩ | ⟨y,u,rfl,rfl⟩
   .rw [VM] at h;exact Sf x t j u _ _ _ _ h
   .rw [ac5] at h;exact wpAny_eqBool_str h
 «strs»:=fun k x t v h=>by
  rcases lU h with ⟨i,u,rfl,e⟩ | ⟨y,u,rfl,e⟩
  .exact nomatch e
  .injection e with ax _;subst ax;cases v <;> rfl
theorem ZL (prog:Program) (w:World) (i:Int) (t:Tok):(hy prog w).is (.inl i) (.int i t)=true:=aeu i t
theorem adz (prog:Program) (w:World) (x:Str) (t:Tok):(hy prog w).is (.inr x) (.str x t)=true:=Um x t
inductive V where
 | b4 | bk (b:Bool) | int (i:Int) | str (x:Str) | jB (b:Array UInt8) | sJ (b:UInt64) | ref (a:Addr) | ty (n:String)
 deriving DecidableEq
noncomputable def bx:V->Value->Prop
 | .b4,u=>u=pB
 | .bk b,u=>u=k6 b
 | .int i,u=>∃ t,u=mL i t
 | .str x,u=>∃ t,u=tK x t
 | .jB b,u=>∃ t,u=Z2 b t
 | .sJ b,u=>∃ t,u=acZ b t
 | .ref a,u=>u=fC a
 | .ty n,u=>u=t8 n
noncomputable abbrev bS:List V->List Value->Prop:=Paired bx
theorem bS.length (r:bS xs us):xs.length=us.length:=Hk r
theorem bS.get:∀ {xs:List V} {us:List Value} {i:Nat} {x:V},bS xs us->xs[i]? = some x->∃ u,us[i]? = some u/\bx x u
 | _,_,_,_,.nil,e=>by simp at e
 | _,_,0,_,.cons r _,e=>by simp at e;subst e;exact ⟨_,rfl,r⟩
 | _,_,i + 1,x,.cons _ t,e=>by
  obtain ⟨u,ag,ar⟩:=bS.get (i:=i) (x:=x) t (by simpa using e);exact ⟨u,by simpa using ag,ar⟩
theorem bS.set {x:V} (r:bx x u):∀ {xs:List V} {us:List Value} (i:Nat),bS xs us->bS (xs.set i x) (us.set i u)
 | _,_,_,.nil=>.nil
 | _,_,0,.cons _ t=>.cons r t
 | _,_,i + 1,.cons q t=>.cons q (bS.set r i t)
theorem bS.append:∀ {xs ys:List V} {us ws:List Value},bS xs us->bS ys ws->bS (xs ++ ys) (us ++ ws)
 | _,_,_,_,.nil,s=>s
 | _,_,_,_,.cons r t,s=>.cons r (bS.append t s)
theorem bS.take:∀ {xs:List V} {us:List Value} (n:Nat),bS xs us->bS (xs.take n) (us.take n)
 | _,_,0,_=>.nil
 | _,_,_ + 1,.nil=>.nil
 | _,_,n + 1,.cons r t=>.cons r (bS.take n t)
theorem bS.drop:∀ {xs:List V} {us:List Value} (n:Nat),bS xs us->bS (xs.drop n) (us.drop n)
 | _,_,0,r=>r
 | _,_,_ + 1,.nil=>.nil
 | _,_,n + 1,.cons _ t=>bS.drop n t
noncomputable def i0:Option V->Option Value->Prop
 | some v,some u=>bx v u
 | none,none=>True
 | _,_=>False
noncomputable def fx {eL:Type}:List (eL × V)->List (eL × Value)->Prop:=Paired fun (p:eL × V) (q:eL × Value)=>p.1=q.1/\bx p.2 q.2
noncomputable def dM:Key->V
 | .inl i=>.int i
 | .inr x=>.str x
inductive dY where
  | lst (xs:List V)
  | tup (xs:List V)
  | bV (kvs:List (Key × V)) | dw (kvs:List (List Key × V))
  | set (S:Int->Bool) (n:Nat)
  | ins (C av:Addr) (a_:List (Str × V))
  | own (x:Addr)
  | xM (a_:List (Str × V))
  | met (f x:Addr)
  | Bl (lo ak:Int)
  | eb (o:Obj) (u:dY)
  | nZ (ps:Array Value)
  | ext (qP:Heap->Prop)
noncomputable abbrev ah:=Addr->Option dY
noncomputable def upd (H:ah) (a:Addr) (o:dY):ah:=fun b=>if b=a then some o else H b
theorem aR:upd H a o a=some o:=by unfold upd;rw [if_pos rfl]
theorem aW (h:b ≠ a):upd H a o b=H b:=by unfold upd;rw [if_neg h]
theorem q3:upd (upd H a o) a u=upd H a u:=by
 funext b;unfold upd;split <;> rfl
theorem dH {H:ah} {a b:Addr} {o u:dY} (h:H a=some o) (h':H b=some u) (d:o ≠ u):a ≠ b:=by
 intro e;subst e;rw [h] at h';exact d (dZ h')
theorem cV {H:ah} {a b:Addr} {o:dY} (h:H a=some o) (h':H b=none):a ≠ b:=by
 intro e;subst e;rw [h] at h';cases h'
section
variable (P:Program) (w:World)
noncomputable def fo (H:ah) (h:Heap) (a:Addr):dY->Prop
 | .lst xs=>xs.length <= sizeLine/\∃ (aV:List Value) (n:Nat),bS xs aV/\h.get? a=some { cls:=.type "list",data:=.seq aV.toArray n }
 | .tup xs=>(xs.length <= sizeLine/\∃ b6,h.get? a=some b6/\b6.dict=none)/\∃ aV:List Value,bS xs aV/\IsTup h a aV.toArray
 | .bV kvs=>kvs.length <= sizeLine/\(a == sysModules)=false/\∃ vs,fx kvs vs/\h.DictOf (hy P w) a vs
 | .dw kvs=>kvs.length <= sizeLine/\(a == sysModules)=false/\∃ xs:List (List Key × Addr × Value),
   Paired (fun (p:List Key × V) (q:List Key × Addr × Value)=>p.1=q.1/\H q.2.1=some (.tup (p.1.map dM))/\bx p.2 q.2.2) kvs xs /\
   ∃ o aL cC,h.get? a=some o/\o.ExactDict/\o.data=.dict aL cC/\aL.toList=xs.map (entryOfKey (tupleKind (hy P w)))/\(xs.map (·.1)).Nodup
 | .set S n=>h.SetOf (intKind P w) a S n
 | .ins C av a_=>H av=some (.own a)/\a_.length <= 1000/\av ≠ a/\h.get? a=some (p3 C av) /\
   ∃ d0,h.Ns1 av d0/\(∀ f,i0 (a_.lookup f) (d0 f))/\Pd d0 (a_.map (·.1))
 | .own _=>∃ o,h.get? a=some o
 | .xM a_=>∃ d0,h.Ns1 a d0/\∀ f,i0 (a_.lookup f) (d0 f)
 | .Bl lo ak=>∃ t u v,h.get? a=some { cls:=.type "range",data:=.fields #[.int lo t,.int ak u,.int 1 v] }
 | .eb o u=>h.get? a=some o/\fo H h a u
 | .nZ ps=>h.get? a=some { cls:=.none,data:=.fields ps }
 | .met f x=>h.get? a=some (JH (.ref f) (.ref x))
 | .ext qP=>qP h/\(∃ o,h.get? a=some o)/\∀ ag ar:Heap,qP ag->(∀ o,ag.get? a=some o->ar.get? a=some o)->qP ar
noncomputable def eN (H:ah) (h:Heap):Prop:=∀ a o,H a=some o->fo P w H h a o
end
section
variable {P:Program} {w:World} {H I:ah} {h h':Heap} {a:Addr} {o:dY}
theorem fo.lt (x:fo P w H h a o):a < h.objs.size:=by
 cases o with
 | lst xs=>obtain ⟨_,_,_,_,e⟩:=x;exact dt e
 | tup xs=>obtain ⟨_,_,_,p⟩:=x;exact p.lt
 | bV kvs=>obtain ⟨_,_,_,_,o,_,_,e,_⟩:=x;exact dt e
 | dw kvs=>obtain ⟨_,_,_,_,o,_,_,e,_⟩:=x;exact dt e
 | set S n=>obtain ⟨o,_,_,_,e,_⟩:=x;exact dt e
 | ins C av a_=>obtain ⟨_,_,_,e,_⟩:=x;exact dt e
 | own y=>obtain ⟨_,e⟩:=x;exact dt e
 | xM a_=>obtain ⟨_,⟨_,_,_,e,_⟩,_⟩:=x;exact dt e
 | Bl lo ak=>obtain ⟨_,_,_,e⟩:=x;exact dt e
 | eb b6 u=>obtain ⟨e,_⟩:=x;exact dt e
 | nZ ps=>exact dt (show h.get? a=some _ from x)
 | met f y=>exact dt (show h.get? a=some _ from x)
 | ext qP=>obtain ⟨_,⟨_,e⟩,_⟩:=x;exact dt e
theorem Paired.EF:∀ {MA:List α} {Pk:List β},Paired F MA Pk->(∀ a b,F a b->G a b)->Paired G MA Pk
 | _,_,.nil,_=>.nil
 | _,_,.cons r t,f=>.cons (f _ _ r) (Paired.EF t f)
theorem fo.ml (x:fo P w H h a o) (k:∀ b u,(b=a\/H b=some (.own a))->h.get? b=some u->h'.get? b=some u)
  (aX:∀ b,H b=some (.own a)->I b=some (.own a)) (c_:∀ b xs,H b=some (.tup xs)->I b=some (.tup xs)):fo P w I h' a o:=by
 induction o with
 | lst xs=>obtain ⟨z,aV,n,r,e⟩:=x;exact ⟨z,aV,n,r,k _ _ (.inl rfl) e⟩
 | tup xs=>obtain ⟨⟨z,X4,VV,TS⟩,aV,r,b6,e,c⟩:=x;exact ⟨⟨z,X4,k _ _ (.inl rfl) VV,TS⟩,aV,r,b6,k _ _ (.inl rfl) e,c⟩
 | bV kvs=>obtain ⟨z,y,vs,r,b6,aL,cC,e,c⟩:=x;exact ⟨z,y,vs,r,b6,aL,cC,k _ _ (.inl rfl) e,c⟩
 | dw kvs=>
  obtain ⟨z,y,xs,r,b6,aL,cC,e,c⟩:=x;exact ⟨z,y,xs,Paired.EF r fun p q z=>⟨z.1,c_ _ _ z.2.1,z.2.2⟩,b6,aL,cC,k _ _ (.inl rfl) e,c⟩
 | set S n=>obtain ⟨b6,aL,cC,t,e,c⟩:=x;exact ⟨b6,aL,cC,t,k _ _ (.inl rfl) e,c⟩
 | ins C av a_=>
  obtain ⟨d,z,ne,e,d0,⟨ez,aL,cC,aD,c⟩,r⟩:=x;exact ⟨aX _ d,z,ne,k _ _ (.inl rfl) e,d0,⟨ez,aL,cC,k _ _ (.inr d) aD,c⟩,r⟩
 | own y=>obtain ⟨b6,e⟩:=x;exact ⟨b6,k _ _ (.inl rfl) e⟩
 | xM a_=>obtain ⟨d0,⟨ez,aL,cC,e,c⟩,r⟩:=x;exact ⟨d0,⟨ez,aL,cC,k _ _ (.inl rfl) e,c⟩,r⟩
 | Bl lo ak=>obtain ⟨t,u,v,e⟩:=x;exact ⟨t,u,v,k _ _ (.inl rfl) e⟩
 | eb b6 u b2=>obtain ⟨e,q⟩:=x;exact ⟨k _ _ (.inl rfl) e,b2 q⟩
 | nZ ps=>
  have e:h.get? a=some { cls:=.none,data:=.fields ps }:=x;show h'.get? a=some { cls:=.none,data:=.fields ps };exact k a _ (.inl rfl) e
 | met f y=>
  have e:h.get? a=some (JH (.ref f) (.ref y)):=x;show h'.get? a=some (JH (.ref f) (.ref y));exact k a _ (.inl rfl) e
 | ext qP=>obtain ⟨p,⟨o,e⟩,st⟩:=x;exact ⟨st _ _ p fun o q=>k _ _ (.inl rfl) q,⟨o,k _ _ (.inl rfl) e⟩,st⟩
theorem eN.lt (x:eN P w H h) (e:H a=some o):a < h.objs.size:=(x a o e).lt
theorem eN.fresh (x:eN P w H h) (e:h.objs.size <= a):H a=none:=by
 cases q:H a with
 | none=>rfl
 | some u=>exact absurd (ih (x.lt q) e) (pa _)
theorem eN.kept (x:eN P w H h) (k:∀ b u,h.get? b=some u->h'.get? b=some u):eN P w H h':=fun a o e=>
 (x a o e).ml (fun b u _ q=>k b u q) (fun _ q=>q) fun _ _ q=>q
theorem eN.laid (x:eN P w H h) (k:∀ b u,h.get? b=some u->h'.get? b=some u) (aw:h.objs.size <= a) (new:fo P w (upd H a o) h' a o):eN P w (upd H a o) h':=fun b u e=>by
 have a0:=x.fresh aw;by_cases af:b=a
 .subst af;rw [aR] at e;cases e;exact new
 .rw [aW af] at e;exact (x b u e).ml (fun c v _ q=>k c v q) (fun c q=>by rw [aW (cV q a0)];exact q) fun c xs q=>by rw [aW (cV q a0)];exact q
end
noncomputable def j5 (H:ah) (a:Addr) (u:dY):Prop:=H a=some u\/∃ o,H a=some (.eb o u)
theorem j5.ok {w:World} {h:Heap} (r:j5 H a u) (x:eN P w H h):fo P w H h a u:=by
 rcases r with r | ⟨o,r⟩
 .exact x a u r
 .obtain ⟨_,q⟩:=x a _ r;exact q
noncomputable def r_:Option dY->Prop
 | some (.lst _)=>True
 | some (.bV _)=>True
 | some (.dw _)=>True
 | some (.set _ _)=>True
 | some (.ins _ _ _)=>True
 | some (.ext _)=>True
 | _=>False
section
variable {P:Program} {w:World} {H:ah} {h h':Heap} {x e:Addr} {cK:dY}
theorem eN.write (ok:eN P w H h) (iv:r_ (H x)) (he:e=x\/H e=some (.own x)) (k:∀ b u,b ≠ e->h.get? b=some u->h'.get? b=some u) (rn:∃ u,h'.get? e=some u)
  (new:fo P w (upd H x cK) h' x cK):eN P w (upd H x cK) h':=fun b u q=>by
 have KV:∀ c y,H c=some (.own y)->c ≠ x:=fun c y r z=>by subst z;rw [r] at iv;exact iv
 have Vh:∀ c xs,H c=some (.tup xs)->c ≠ x:=fun c xs r z=>by subst z;rw [r] at iv;exact iv
 by_cases af:b=x
 .subst af;rw [aR] at q;cases q;exact new
 .rw [aW af] at q;by_cases pI:b=e
  .have ef:H b=some (.own x):=by
    rcases he with z | z
    .exact absurd (pI.trans z) af
    .rw [pI];exact z
   rw [q] at ef;cases ef;obtain ⟨v,aK⟩:=rn;exact ⟨v,by rw [pI];exact aK⟩
  .refine (ok b u q).ml (fun c v aq r=>k c v ?_ r) (fun c r=>by rw [aW (KV c b r)];exact r) fun c xs r=>by rw [aW (Vh c xs r)];exact r
   rcases aq with rfl | aq
   .exact pI
   .rintro rfl;rcases he with z | z
    .exact KV c b aq z
    .rw [aq] at z;cases z;exact af rfl
end
structure gh (a_ ex:List Addr) (H I:ah) (h h':Heap):Prop where
 keep:∀ b o,h.get? b=some o->H b=none->b ∉ a_->b ∉ ex->h'.get? b=some o
 slot:∀ b o,h.get? b=some o->H b=none->b ∈ a_->b ∉ ex->∃ dv,h'.get? b=some { o with slots:=dv }
 free:∀ b o,h.get? b=some o->H b=none->b ∉ ex->I b=none
 there:∀ b o,h.get? b=some o->b ∉ ex->∃ cK,h'.get? b=some cK
 l2:∀ b xs,H b=some (.tup xs)->I b=some (.tup xs)
 kN:∀ b o u,H b=some (.eb o u)->I b=some (.eb o u)
 l1:∀ b ps,H b=some (.nZ ps)->∃ more,I b=some (.nZ (ps ++ more))
section
variable {a_ l7 ex ah2:List Addr} {H H1 az:ah} {h ag ar h':Heap} {a x e:Addr} {o:dY}
theorem gh.any (u:gh a_ ex H H1 h ag) (q:h.get? b=some b6) (n:H b=none) (ao:b ∉ ex):∃ dv,ag.get? b=some { b6 with slots:=dv }:=by
 by_cases af:b ∈ a_
 .exact u.slot b b6 q n af ao
 .exact ⟨b6.slots,u.keep b b6 q n af ao⟩
theorem gh.kept (k:∀ b u,h.get? b=some u->h'.get? b=some u):gh a_ ex H H h h':=
 ⟨fun b b6 q _ _ _=>k b b6 q,fun b b6 q _ _ _=>⟨b6.slots,k b b6 q⟩,fun _ _ _ n _=>n,fun b b6 q _=>⟨b6,k b b6 q⟩,fun _ _ q=>q,fun _ _ _ q=>q,fun _ ps q=>⟨#[],by rw [q];simp⟩⟩
theorem gh.refl:gh a_ ex H H h h:=gh.kept fun _ _ q=>q
theorem gh.laid (k:∀ b u,h.get? b=some u->h'.get? b=some u) (aw:h.objs.size <= a) (a0:H a=none):gh a_ ex H (upd H a o) h h' where
 keep:=fun b u q _ _ _=>k b u q
 slot:=fun b u q _ _ _=>⟨u.slots,k b u q⟩
 free:=fun b u q n _=>by rw [aW (e9 (ih (dt q) aw))];exact n
 there:=fun b u q _=>⟨u,k b u q⟩
 l2:=fun b xs q=>by rw [aW (cV q a0)];exact q
 kN:=fun b u xs q=>by rw [aW (cV q a0)];exact q
 l1:=fun b ps q=>⟨#[],by rw [aW (cV q a0),q];simp⟩
theorem gh.write (iv:r_ (H x)) (he:e=x\/H e=some (.own x)) (k:∀ b u,b ≠ e->h.get? b=some u->h'.get? b=some u) (rn:∃ u,h'.get? e=some u):gh a_ ex H (upd H x o) h h':=by
 have ao:∀ b,H b=none->b ≠ x:=fun b n z=>by subst z;rw [n] at iv;exact iv
 have af:∀ b,H b=none->b ≠ e:=fun b n z=>by
  subst z;rcases he with r | r
  .exact ao b n r
  .rw [n] at r;cases r
 have hm:∀ b u,H b=some u->¬ r_ (some u)->b ≠ x:=fun b u q nm z=>by subst z;rw [q] at iv;exact nm iv
 refine ⟨fun b u q n _ _=>k b u (af b n) q,fun b u q n _ _=>⟨u.slots,k b u (af b n) q⟩,fun b u q n _=>by rw [aW (ao b n)];exact n,fun b u q _=>?_,
  fun b xs q=>by rw [aW (hm b _ q fun z=>z)];exact q,fun b u xs q=>by rw [aW (hm b _ q fun z=>z)];exact q,fun b ps q=>⟨#[],by rw [aW (hm b _ q fun z=>z),q];simp⟩⟩
 by_cases pI:b=e
 .subst pI;exact rn
 .exact ⟨u,k b u pI q⟩
end
noncomputable def zA (h:Heap) (H:ah):List Addr:=(dG h.objs.size).filter fun a=>(H a).isSome
noncomputable def nO (h:Heap) (H:ah):Heap:=PySem.W.hideAll h (zA h H)
theorem Yf (h:Heap) (H:ah):(nO h H).objs.size=h.objs.size:=PySem.W.hideAll_size _ _
theorem adi {h:Heap} (e:h.get? b=some o) (n:H b=none):(nO h H).get? b=some o:=
 PySem.W.hideAll_get _ e fun hm=>by
  have q:(H b).isSome=true:=(vF.mp hm).2;rw [n] at q;simp at q
theorem acV {h:Heap} (e:(nO h H).get? b=some o):h.get? b=some o/\H b=none:=by
 have b5:h.get? b=some o:=PySem.W.of_hideAll (zA h H) e;refine ⟨b5,?_⟩;cases q:H b with
 | none=>rfl
 | some x=>
  have hm:b ∈ zA h H:=vF.mpr ⟨Es.mpr (dt b5),by simp [q]⟩;have z:(nO h H).get? b=none:=PySem.W.hideAll_none (zA h H) hm;rw [z] at e;cases e
noncomputable def abB (g h:Heap) (L:Addr):List (Addr × Obj):=(dG h.objs.size).filterMap fun a=>if a=L\/(g.get? a).isSome=true then none else (h.get? a).map fun o=>(a,o)
noncomputable def jL (g h:Heap) (L d:Addr):List (Addr × Obj):=(abB g h L).filter fun p=>decide (p.1 ≠ d)
structure Mod (K:a') (ai:Str->Option Value) (base:Heap):Prop where
 nF:K.In base
 glob:base.Ns mainGlobals ai
 blt:∃ kr,base.Ns builtinsNs kr/\∀ x:Str,x ≠ "__name__" -> kr x=bootBuiltins x
 nolimit:base.NoLimit
structure a6 where
 prog:Program
 w:World
 K:a'
 ai:Str->Option Value
 base:Heap
 A:Around
 N:List Str
 eX:Shared
 pN:ah
 env:Env
 outer:List Env
 stack:List Env
 ex:List Addr
 fn:Str->Bool
 calm:Bool
 d3:List (Addr × Obj)
 dj:Value->Shared->Prop
noncomputable def kX (l:List Env):List Addr:=l.filterMap (·.frame)
noncomputable abbrev a6.a_ (X:a6):List Addr:=kX X.outer
noncomputable def zl (sc:Scope) (x:Str):Prop:=sc.names.lookup x=some .local\/sc.names.lookup x=some .cell\/sc.names.lookup x=some .free
noncomputable def Loc (sc:Scope) (x:Str):Prop:=sc.names.lookup x=some .local\/sc.names.lookup x=some .cell
noncomputable def ac8 (env:Env) (h:Heap) (m:Str->Option Value) (x:Str) (u:Value):Prop:=
 (env.kindOf x=some .local/\m x=some u)\/((env.kindOf x=some .cell\/env.kindOf x=some .free)/\∃ c,env.cells.lookup x=some c/\h.IsCell c (some u))
structure a6.Ok (X:a6):Prop where
 mod:Mod X.K X.ai X.base
 kind:X.env.scope.kind=.function
 glob:X.env.globals=mainGlobals
 blt:X.env.builtins=builtinsNs
 above:X.eX.heap.objs.size <= X.env.locals
 inj:∀ x y c,X.env.cells.lookup x=some c->X.env.cells.lookup y=some c->x=y
 has:∀ x,(X.env.kindOf x=some .cell\/X.env.kindOf x=some .free)->∃ c,X.env.cells.lookup x=some c
 r4:∀ x c,X.fn x=true->X.env.cells.lookup x=some c->X.eX.heap.objs.size <= c
 hd:X.calm=true->X.A.handled=none
 frames:X.A.frames=some X.stack
 vN:X.stack=X.outer\/(X.stack=X.env :: X.outer/\X.env.frame=some X.env.locals)
 CS:∀ b ∈ X.ex,b ≠ X.env.locals/\∀ x c,X.env.cells.lookup x=some c->c ≠ b
 bs:∀ b o,X.base.get? b=some o->X.eX.heap.get? b=some o/\X.pN b=none
 kq:X.base.objs.size <= X.eX.heap.objs.size
 sd:∀ b o,X.base.get? b=some o->b ∉ X.ex
 qO:∀ b ∈ X.ex,b ∉ X.a_
 jD:X.eX.heap.FunFrames X.base X.outer
 mH:∀ b ∈ X.a_,X.pN b=none
structure Inv (X:a6) (ae:List (Addr × Obj)) (σ:List (Option V)) (H:ah) (s:Shared):Prop where
 ok:X.Ok
 os:s.os=X.eX.os
 bare:AllBare s.gens
 base:gh X.a_ X.ex X.pN H X.eX.heap s.heap
 loc:∃ m,s.heap.Ns X.env.locals m/\∀ (i:Nat) (x:Str) (v:V),X.N[i]? = some x->σ[i]? = some (some v)->zl X.env.scope x->∃ u,bx v u/\ac8 X.env s.heap m x u
 cell:∀ x c,X.env.cells.lookup x=some c->∃ v,s.heap.IsCell c v
 free:H X.env.locals=none
 jU:∀ x c,X.env.cells.lookup x=some c->H c=none
 pin:∀ p ∈ X.d3 ++ ae,s.heap.get? p.1=some p.2/\H p.1=none/\p.1 ≠ X.env.locals/\p.1 ∉ X.a_/\∀ v,p.2.data ≠ .cell v
 bz:eN X.prog X.w H s.heap
 len:σ.length=X.N.length
section
variable {X:a6} {ae:List (Addr × Obj)} {σ:List (Option V)} {H I:ah} {s:Shared} {h':Heap}
theorem a6.Ok.Qk (ok:X.Ok) (e:X.base.get? b=some o):b ∉ X.a_:=fun af=>by
 have:=(ok.jD.mem af).1;rw [e] at this;cases this
theorem Inv.bs (J:Inv X ae σ H s):∀ b o,X.base.get? b=some o->s.heap.get? b=some o/\H b=none:=fun b o e=>
 ⟨J.base.keep b o (J.ok.bs b o e).1 (J.ok.bs b o e).2 (J.ok.Qk e) (J.ok.sd b o e),J.base.free b o (J.ok.bs b o e).1 (J.ok.bs b o e).2 (J.ok.sd b o e)⟩
theorem Inv.bw (J:Inv X ae σ H s):∀ b o,X.base.get? b=some o->s.heap.get? b=some o:=fun b o e=>(J.bs b o e).1
theorem Inv.mod (J:Inv X ae σ H s):Mod X.K X.ai X.base:=J.ok.mod
theorem Inv.gU (J:Inv X ae σ H s):X.K.In s.heap:=J.ok.mod.nF.keeps J.bw
theorem Inv.fr (J:Inv X ae σ H s):∃ m,Fr X.base X.env.locals s.heap m:=
 let ⟨m,a0,_⟩:=J.loc
 ⟨m,a0,J.bw,cp J.ok.kq J.ok.above⟩
theorem Inv.lt (J:Inv X ae σ H s):X.env.locals < s.heap.objs.size:=let ⟨_,a0,_⟩:=J.loc;a0.lt
theorem Inv.tR (J:Inv X ae σ H s):X.eX.heap.objs.size <= s.heap.objs.size:=cp J.ok.above (om J.lt)
theorem Inv.Mo (J:Inv X ae σ H s) (h:s.heap.objs.size <= a):a ∉ X.a_:=fun af=>by
 obtain ⟨_,o,aX,_⟩:=J.ok.jD.mem af;exact absurd (ih (dt aX) (cp J.tR h)) (pa _)
theorem Inv.p5 (J:Inv X ae σ H s):∀ x c,X.env.cells.lookup x=some c->c ≠ X.env.locals:=fun x c e z=>by
 obtain ⟨v,o,aX,hd⟩:=J.cell x c e;obtain ⟨m,⟨cK,aL,cC,qm,sI,_⟩,_⟩:=J.loc;rw [z,qm] at aX;cases aX;rw [sI] at hd;cases hd
theorem Inv.jD (J:Inv X ae σ H s):s.heap.FunFrames X.base X.outer:=by
 have all:∀ (l:List Env),(∀ b ∈ kX l,b ∈ X.a_)->X.eX.heap.FunFrames X.base l->s.heap.FunFrames X.base l:=by
  intro l
  induction l with
  | nil=>intro _ _;trivial
  | cons env r b2=>
   intro aC aB;obtain ⟨aI,⟨L,o,hf,a0,aX,hd⟩,aj⟩:=aB;have hI:L ∈ X.a_:=aC L (by unfold kX;rw [NS,hf];exact oY);obtain ⟨dv,e⟩:=J.base.slot L o aX (J.ok.mH L hI) hI fun z=>J.ok.qO L z hI
   exact ⟨aI,⟨L,_,hf,a0,e,hd⟩,b2 (fun b af=>aC b (by unfold kX;rw [NS,hf];exact hP _ af)) aj⟩
 exact all X.outer (fun _ af=>af) J.ok.jD
theorem Inv.stack (J:Inv X ae σ H s):s.heap.FunFrames X.base X.stack:=by
 rcases J.ok.vN with e | ⟨e,hf⟩
 .rw [e];exact J.jD
 .rw [e];obtain ⟨m,a0,_⟩:=J.loc;refine .cons (by rw [J.ok.kind];decide) hf a0 ?_ J.jD;exact Heap.get?_none_of_le (cp J.ok.kq J.ok.above)
theorem Inv.xB (J:Inv X ae σ H s):∀ b ∈ kX X.stack,b ∈ X.env.locals :: X.a_:=fun b af=>by
 rcases J.ok.vN with e | ⟨e,hf⟩
 .rw [e] at af;exact hP _ af
 .rw [e] at af;unfold kX at af;rw [NS,hf] at af;exact af
theorem Inv.P2 (J:Inv X ae σ H s):∀ b ∈ kX X.stack,H b=none:=fun b af=>by
 rcases cP.mp (J.xB b af) with e | af
 .rw [e];exact J.free
 .obtain ⟨_,o,aX,_⟩:=J.ok.jD.mem af;exact J.base.free b o aX (J.ok.mH b af) fun z=>J.ok.qO b z af
theorem Inv.step {g':Array GenState} {t':Nat} {d':Drawn} {ch:List Addr} (J:Inv X ae σ H s)
  (mD:∀ b ∈ ch,(b ∈ X.ex\/X.eX.heap.objs.size <= b)/\b ≠ X.env.locals/\(∀ x c,X.env.cells.lookup x=some c->c ≠ b)/\∀ p ∈ X.d3 ++ ae,p.1 ≠ b)
  (keep:∀ b o,b ≠ X.env.locals->b ∉ X.a_->b ∉ ch->s.heap.get? b=some o->H b=none->h'.get? b=some o)
  (slot:∀ b o,b ≠ X.env.locals->b ∈ X.a_->b ∉ ch->s.heap.get? b=some o->H b=none->∃ dv,h'.get? b=some { o with slots:=dv }) (free:∀ b o,b ∉ ch->s.heap.get? b=some o->H b=none->I b=none)
  (there:∀ b o,b ∉ ch->s.heap.get? b=some o->∃ cK,h'.get? b=some cK)
  (l2:∀ b xs,H b=some (.tup xs)->I b=some (.tup xs)) (kN:∀ b o u,H b=some (.eb o u)->I b=some (.eb o u)) (l1:∀ b ps,H b=some (.nZ ps)->∃ more,I b=some (.nZ (ps ++ more)))
  (ns:∀ m,s.heap.Ns X.env.locals m->h'.Ns X.env.locals m) (bz:eN X.prog X.w I h') (a9:AllBare g') :
  Inv X ae σ I { s with heap:=h',gens:=g',drawn:=d',toks:=t' }:=by
 have Jf:∀ b o,X.eX.heap.get? b=some o->b ≠ X.env.locals:=fun b o e=>e9 (ih (dt e) J.ok.above)
 have zo:∀ b o,X.eX.heap.get? b=some o->b ∉ X.ex->b ∉ ch:=fun b o e ao af=>by
  rcases (mD b af).1 with z | z
  .exact ao z
  .exact absurd (ih (dt e) z) (pa _)
 have cellK:∀ x c,X.env.cells.lookup x=some c->∀ v,s.heap.IsCell c v->h'.IsCell c v:=fun x c e v ⟨o,aX,hd⟩=>by
  have vq:c ∉ ch:=fun z=>(mD c z).2.2.1 x c e rfl
  by_cases aq:c ∈ X.a_
  .obtain ⟨dv,q⟩:=slot c o (J.p5 x c e) aq vq aX (J.jU x c e);exact ⟨_,q,hd⟩
  .exact ⟨o,keep c o (J.p5 x c e) aq vq aX (J.jU x c e),hd⟩
 refine ⟨J.ok,J.os,a9,⟨fun b o e n af ao=>?_,fun b o e n af ao=>?_,fun b o e n ao=>?_,fun b o e ao=>?_,fun b xs e=>l2 b xs (J.base.l2 b xs e),fun b o xs e=>kN b o xs (J.base.kN b o xs e),fun b ps e=>?_⟩,?_,fun x c e=>?_,?_,fun x c e=>?_,fun p aw=>?_,bz,J.len⟩
 .exact keep b o (Jf b o e) af (zo b o e ao) (J.base.keep b o e n af ao) (J.base.free b o e n ao)
 .obtain ⟨dv,ax⟩:=J.base.slot b o e n af ao;obtain ⟨VH,aD⟩:=slot b _ (Jf b o e) af (zo b o e ao) ax (J.base.free b o e n ao);exact ⟨VH,aD⟩
 .obtain ⟨cK,ax⟩:=J.base.there b o e ao;exact free b cK (zo b o e ao) ax (J.base.free b o e n ao)
 .obtain ⟨cK,ax⟩:=J.base.there b o e ao;exact there b cK (zo b o e ao) ax
 .obtain ⟨fc,ax⟩:=J.base.l1 b ps e;obtain ⟨ft,aD⟩:=l1 b _ ax;exact ⟨fc ++ ft,by rw [aD,Array.append_assoc]⟩
 .obtain ⟨m,a0,aB⟩:=J.loc;refine ⟨m,ns m a0,fun i x v ax aD cu=>?_⟩;obtain ⟨u,r,l⟩:=aB i x v ax aD cu;refine ⟨u,r,?_⟩;rcases l with l | ⟨k,c,e,z⟩
  .exact .inl l
  .exact .inr ⟨k,c,e,cellK x c e _ z⟩
 .obtain ⟨v,z⟩:=J.cell x c e;exact ⟨v,cellK x c e v z⟩
 .obtain ⟨m,⟨o,_,_,aX,_⟩,_⟩:=J.loc;exact free _ o (fun z=>(mD _ z).2.1 rfl) aX J.free
 .obtain ⟨v,o,aX,hd⟩:=J.cell x c e;exact free c o (fun z=>(mD c z).2.2.1 x c e rfl) aX (J.jU x c e)
 .obtain ⟨e,n,ne,iS,d⟩:=J.pin p aw;have vq:p.1 ∉ ch:=fun z=>(mD p.1 z).2.2.2 p aw rfl
  exact ⟨keep p.1 p.2 ne iS vq e n,free p.1 p.2 vq e n,ne,iS,d⟩
theorem Inv.un {t':Nat} (J:Inv X ae σ H s) (u:gh X.a_ [] H I s.heap h') (bz:eN X.prog X.w I h'):Inv X ae σ I { s with heap:=h',toks:=t' }:=by
 obtain ⟨m,⟨o,aL,cC,aX,r⟩,_⟩:=id J.loc;obtain ⟨dv,hI⟩:=u.any aX J.free (by simp);exact J.step (g':=s.gens) (d':=s.drawn) (ch:=[]) (fun _ z=>nomatch z) (fun b o _ af _ e n=>u.keep b o e n af (by simp)) (fun b o _ af _ e n=>u.slot b o e n af (by simp)) (fun b o _ e n=>u.free b o e n (by simp)) (fun b o _ e=>u.there b o e (by simp)) u.l2 u.kN u.l1 (fun dF hm=>by
  obtain ⟨cK,tW,FY,qm,fu⟩:=hm;rw [aX] at qm;cases qm;exact ⟨_,tW,FY,hI,fu⟩) bz J.bare
theorem Inv.call {g':Array GenState} {t':Nat} {d':Drawn} {ch:List Addr} (J:Inv X ae σ H s) (u:gh (kX X.stack) ch H I s.heap h') (bz:eN X.prog X.w I h') (a9:AllBare g')
  (mD:∀ b ∈ ch,(b ∈ X.ex\/X.eX.heap.objs.size <= b)/\b ≠ X.env.locals/\(∀ x c,X.env.cells.lookup x=some c->c ≠ b)/\∀ p ∈ X.d3 ++ ae,p.1 ≠ b) :
  Inv X ae σ I { s with heap:=h',gens:=g',drawn:=d',toks:=t' }:=by
 obtain ⟨m,⟨o,aL,cC,aX,r⟩,_⟩:=id J.loc;obtain ⟨dv,hI⟩:=u.any aX J.free fun z=>(mD _ z).2.1 rfl
 exact J.step (ch:=ch) mD (fun b o hI af aq e n=>u.keep b o e n (fun z=>(cP.mp (J.xB b z)).elim hI af) aq) (fun b o _ _ aq e n=>u.any e n aq) (fun b o aq e n=>u.free b o e n aq) (fun b o aq e=>u.there b o e aq) u.l2 u.kN u.l1 (fun dF hm=>by
  obtain ⟨cK,tW,FY,qm,fu⟩:=hm;rw [aX] at qm;cases qm;exact ⟨_,tW,FY,hI,fu⟩) bz a9
theorem Inv.turned {t':Nat} {it:Addr} (J:Inv X ae σ H s) (k:∀ b o,b ≠ it->s.heap.get? b=some o->h'.get? b=some o) (a0:H it=none) (hI:it ≠ X.env.locals)
  (ag:it ∈ X.ex\/X.eX.heap.objs.size <= it) (ar:∀ x c,X.env.cells.lookup x=some c->c ≠ it) (bc:∀ p ∈ X.d3 ++ ae,p.1 ≠ it):Inv X ae σ H { s with heap:=h',toks:=t' }:=by
 have tX:∀ b u,H b=some u->b ≠ it:=fun b u e z=>by rw [z,a0] at e;cases e
 refine J.step (g':=s.gens) (d':=s.drawn) (ch:=[it]) (fun b af=>?_) (fun b o _ _ aq e _=>k b o (fun z=>aq (by simp [z])) e) (fun b o _ _ aq e _=>⟨o.slots,k b o (fun z=>aq (by simp [z])) e⟩) (fun _ _ _ _ n=>n)
  (fun b o aq e=>⟨o,k b o (fun z=>aq (by simp [z])) e⟩) (fun _ _ e=>e) (fun _ _ _ e=>e) (fun b ps e=>⟨#[],by rw [e];simp⟩) (fun m hm=>?_) (fun b u e=>?_) J.bare
 .have e:b=it:=by simpa using af
  subst e;exact ⟨ag,hI,ar,bc⟩
 .obtain ⟨o,aL,cC,aX,r⟩:=hm;exact ⟨o,aL,cC,k _ o (eY hI) aX,r⟩
 .refine (J.bz b u e).ml (fun c v aq q=>k c v ?_ q) (fun _ q=>q) fun _ _ q=>q
  rcases aq with z | z
  .rw [z];exact tX b u e
  .exact tX c _ z
theorem Inv.tok (J:Inv X ae σ H s) (t:Nat):Inv X ae σ H { s with toks:=t }:=J.un (h':=s.heap) (t':=t) gh.refl J.bz
theorem Inv.kept (J:Inv X ae σ H s) (k:∀ b u,s.heap.get? b=some u->h'.get? b=some u):Inv X ae σ H { s with heap:=h',toks:=t' }:=J.un (gh.kept k) (J.bz.kept k)
theorem Inv.laid (J:Inv X ae σ H s) (k:∀ b u,s.heap.get? b=some u->h'.get? b=some u) (aw:s.heap.objs.size <= a) (new:fo X.prog X.w (upd H a o) h' a o) :
  Inv X ae σ (upd H a o) { s with heap:=h',toks:=t' }:=J.un (gh.laid k aw (J.bz.fresh aw)) (J.bz.laid k aw new)
theorem Inv.write {x e:Addr} {o:dY} {t':Nat} (J:Inv X ae σ H s) (iv:r_ (H x)) (he:e=x\/H e=some (.own x)) (k:∀ b u,b ≠ e->s.heap.get? b=some u->h'.get? b=some u) (rn:∃ u,h'.get? e=some u)
  (new:fo X.prog X.w (upd H x o) h' x o):Inv X ae σ (upd H x o) { s with heap:=h',toks:=t' }:=J.un (gh.write iv he k rn) (J.bz.write iv he k rn new)
theorem Inv.weak (J:Inv X ae σ H s) (aB:aQ.length=σ.length) (w:∀ (i:Nat) v,aQ[i]? = some (some v)->σ[i]? = some (some v)):Inv X ae aQ H s:=
 ⟨J.ok,J.os,J.bare,J.base,let ⟨m,a0,rE⟩:=J.loc;⟨m,a0,fun i x v ax aD cu=>rE i x v ax (w i v aD) cu⟩,J.cell,J.free,J.jU,J.pin,J.bz,aB.trans J.len⟩
theorem Inv.uK (J:Inv X ae σ H s) (h:∀ p ∈ QB,s.heap.get? p.1=some p.2/\H p.1=none/\p.1 ≠ X.env.locals/\p.1 ∉ X.a_/\∀ v,p.2.data ≠ .cell v):Inv X QB σ H s:=
 ⟨J.ok,J.os,J.bare,J.base,J.loc,J.cell,J.free,J.jU,fun p aw=>(r7.mp aw).elim (fun z=>J.pin p (aag _ z)) (h p),J.bz,J.len⟩
theorem L' {N:List Str} (bl:N.Nodup) {i j:Nat} {x:Str} (a:N[i]? = some x) (b:N[j]? = some x):i=j:=by
 obtain ⟨ag,ax⟩:=cW.mp a;obtain ⟨ar,aD⟩:=cW.mp b;exact (WW bl).mp (ax.trans aD.symm)
theorem NP {M:Model} {A:Around} {E:Value->Shared->Prop} {i:Nat} {x:Str} {v:V} {u:Value} {Q:Unit->Shared->Prop} (J:Inv X ae σ H s) (bl:X.N.Nodup) (ak:X.N[i]? = some x) (ao:Loc X.env.scope x) (r:bx v u)
  (h:∀ aO,Inv X ae (σ.set i (some v)) H aO->(∃ a,sG a s.heap aO.heap/\(a=X.env.locals\/X.env.cells.lookup x=some a))->Q () aO) (hf:X.fn x=true\/X.env.scope.names.lookup x=some .local:=by first | exact .inl rfl | exact .inr rfl | assumption):wpAny M A (storeName X.env x u) Q E s:=by
 obtain ⟨m,a0,aB⟩:=id J.loc;have aa':(X.env.scope.kind == .class || (X.env.scope.kind == .module && X.env.locals != X.env.globals))=false:=by rw [J.ok.kind];rfl
 have MB:i < σ.length:=by rw [J.len];exact (cW.mp ak).1
 have p5:=J.p5;have tracked:∀ {a:Addr} {h':Heap},(∃ o,s.heap.get? a=some o/\H a=none)->sG a s.heap h'->eN X.prog X.w H h':=fun {a h'} aS aC b b6 e=>by
  obtain ⟨_,_,JE⟩:=aS;refine (J.bz b b6 e).ml (fun c hl aq q=>(aC.2 c ?_).trans q) (fun _ q=>q) fun _ _ q=>q
  rintro rfl;rcases aq with rfl | aq
  .rw [JE] at e;cases e
  .rw [JE] at aq;cases aq
 rcases ao with aI | aI
 .refine wpAny_storeName_local aI a0 (fun h' V_ aC=>?_) aa';obtain ⟨QV,_,_,Xq,_⟩:=id a0;refine h _ ⟨J.ok,J.os,J.bare,⟨fun b o e n af ao=>?_,fun b o e n af ao=>?_,J.base.free,fun b o e ao=>?_,J.base.l2,J.base.kN,J.base.l1⟩,⟨_,V_,fun j y iI ax aD cu=>?_⟩,fun y c e=>?_,J.free,J.jU,fun p aw=>?_,tracked ⟨QV,Xq,J.free⟩ aC,by simpa using J.len⟩ ⟨_,aC,.inl rfl⟩
  .exact (aC.2 b (e9 (ih (dt e) J.ok.above))).trans (J.base.keep b o e n af ao)
  .obtain ⟨dv,ax⟩:=J.base.slot b o e n af ao;exact ⟨dv,(aC.2 b (e9 (ih (dt e) J.ok.above))).trans ax⟩
  .obtain ⟨cK,ax⟩:=J.base.there b o e ao;exact ⟨cK,(aC.2 b (e9 (ih (dt e) J.ok.above))).trans ax⟩
  .by_cases bb:j=i
   .subst bb;rw [ak] at ax;cases ax;rw [Nx MB] at aD;cases aD;exact ⟨u,r,.inl ⟨aI,by simp⟩⟩
   .rw [Mw (eY bb)] at aD;obtain ⟨iR,fu,q⟩:=aB j y iI ax aD cu;refine ⟨iR,fu,?_⟩;rcases q with ⟨k,e⟩ | ⟨k,c,e,z⟩
    .refine .inl ⟨k,?_⟩;have:y ≠ x:=fun e=>bb (L' bl ax (e ▸ ak))
     simp [this,e]
    .exact .inr ⟨k,c,e,z.sameBut aC (p5 y c e)⟩
  .obtain ⟨hl,z⟩:=J.cell y c e;exact ⟨hl,z.sameBut aC (p5 y c e)⟩
  .obtain ⟨e,n,ne,iS,d⟩:=J.pin p aw;exact ⟨(aC.2 p.1 ne).trans e,n,ne,iS,d⟩
 .have D1:X.fn x=true:=by
   rcases hf with z | z
   .exact z
   .rw [z] at aI;cases aI
  obtain ⟨c,aq⟩:=J.ok.has x (.inl aI);obtain ⟨hl,z⟩:=J.cell x c aq;refine wpAny_storeName_cell J.ok.kind aI aq z (fun h' qY aC=>?_);obtain ⟨mc,NY,Yl⟩:=id z;refine h { s with heap:=h' } ⟨J.ok,J.os,J.bare,⟨fun b o e n af ao=>?_,fun b o e n af ao=>?_,J.base.free,fun b o e ao=>?_,J.base.l2,J.base.kN,J.base.l1⟩,⟨m,a0.sameBut aC (eY (p5 x c aq)),fun j y iI ax aD cu=>?_⟩,fun y ho e=>?_,J.free,J.jU,fun p aw=>?_,tracked ⟨mc,NY,J.jU x c aq⟩ aC,by simpa using J.len⟩ ⟨c,aC,.inr aq⟩
  .exact (aC.2 b (e9 (ih (dt e) (J.ok.r4 x c D1 aq)))).trans (J.base.keep b o e n af ao)
  .obtain ⟨dv,ax⟩:=J.base.slot b o e n af ao;exact ⟨dv,(aC.2 b (e9 (ih (dt e) (J.ok.r4 x c D1 aq)))).trans ax⟩
  .obtain ⟨cK,ax⟩:=J.base.there b o e ao;exact ⟨cK,(aC.2 b (e9 (ih (dt e) (J.ok.r4 x c D1 aq)))).trans ax⟩
  .by_cases bb:j=i
   .subst bb;rw [ak] at ax;cases ax;rw [Nx MB] at aD;cases aD;exact ⟨u,r,.inr ⟨.inl aI,c,aq,qY⟩⟩
   .rw [Mw (eY bb)] at aD;obtain ⟨iR,fu,q⟩:=aB j y iI ax aD cu;refine ⟨iR,fu,?_⟩;rcases q with q | ⟨k,ho,e,ey⟩
    .exact .inl q
    .refine .inr ⟨k,ho,e,ey.sameBut aC ?_⟩;rintro rfl;exact bb (L' bl ax (J.ok.inj _ _ _ e aq ▸ ak))
  .by_cases KN:ho=c
   .subst KN;exact ⟨_,qY⟩
   .obtain ⟨dI,e3⟩:=J.cell y ho e;exact ⟨dI,e3.sameBut aC KN⟩
  .obtain ⟨e,n,ne,iS,d⟩:=J.pin p aw;refine ⟨(aC.2 p.1 ?_).trans e,n,ne,iS,d⟩;intro q;rw [q,NY] at e;have ef:mc=p.2:=dZ e;exact d hl (by rw [<- ef];exact Yl)
theorem PN {A:Around} {x:Str} (J:Inv X ae σ H s) (bl:X.N.Nodup) (ak:X.N[i]? = some x) (ao:Loc X.env.scope x) (r:bx v u)
  (h:∀ aO,Inv X ae (σ.set i (some v)) H aO->Q () aO) (hf:X.fn x=true\/X.env.scope.names.lookup x=some .local:=by first | exact .inl rfl | exact .inr rfl | assumption):wpAny M A (storeName X.env x u) Q E s:=
 NP J bl ak ao r (fun aO jO _=>h aO jO) hf
theorem Inv.WO (J:Inv X ae σ H s) (aX:aO.os=s.os) (u:gh (kX X.stack) ch H I s.heap aO.heap) (bz:eN X.prog X.w I aO.heap) (a9:AllBare aO.gens)
  (mD:∀ b ∈ ch,(b ∈ X.ex\/X.eX.heap.objs.size <= b)/\b ≠ X.env.locals/\(∀ x c,X.env.cells.lookup x=some c->c ≠ b)/\∀ p ∈ X.d3 ++ ae,p.1 ≠ b):Inv X ae σ I aO:=by
 obtain ⟨h',g',d',t',cK⟩:=aO;have e:cK=s.os:=aX;subst e;exact J.call (g':=g') (t':=t') (d':=d') u bz a9 mD
end
noncomputable abbrev eU:=Value->Option Addr->ah->Prop
noncomputable abbrev St:=List (Option V)
noncomputable abbrev cm:=V->ah->Prop
noncomputable abbrev TE:=St->ah->cm->Prop
noncomputable abbrev TT:=St->ah->(Bool->ah->Prop)->Prop
noncomputable abbrev eI:=St->ah->(List V->ah->Prop)->Prop
structure gu where
 cF:St->ah->Prop
 kW:cm
 bw:St->ah->Prop:=fun _ _=>False
 e1:St->ah->Prop:=fun _ _=>False
noncomputable abbrev en:=gu->St->ah->Prop
noncomputable def gs (X:a6) (ae:List (Addr × Obj)) (σ:St) (Q:cm) (u:Value) (aO:Shared):Prop:=∃ v I,Inv X ae σ I aO/\bx v u/\Q v I
theorem d2 {X:a6} {ae:List (Addr × Obj)} {σ:St} {Q:cm} {u:Value} {aO:Shared} {C:Prop} (h:gs X ae σ Q u aO) (k:∀ v I,Inv X ae σ I aO->bx v u->Q v I->C):C:=by
 obtain ⟨v,I,J,r,q⟩:=h;exact k v I J r q
noncomputable def yM (X:a6) (ae:List (Addr × Obj)) (σ:St) (Q:Bool->ah->Prop) (b:Bool) (aO:Shared):Prop:=∃ I,Inv X ae σ I aO/\Q b I
noncomputable def aeA (X:a6) (ae:List (Addr × Obj)) (σ:St) (Q:List V->ah->Prop) (us:List Value) (aO:Shared):Prop:=∃ vs I,Inv X ae σ I aO/\bS vs us/\Q vs I
noncomputable def oX (X:a6) (ae:List (Addr × Obj)) (D:gu) (f:Flow) (aO:Shared):Prop:=
 match f with
 | .next=>∃ aQ I,Inv X ae aQ I aO/\D.cF aQ I
 | .brk=>∃ aQ I,Inv X ae aQ I aO/\D.bw aQ I
 | .cont=>∃ aQ I,Inv X ae aQ I aO/\D.e1 aQ I
 | .ret u=>∃ v aQ I,Inv X ae aQ I aO/\bx v u/\D.kW v I
noncomputable def bD (X:a6) (e:Expr) (t:TE):Prop:=
 ∀ (ae:List (Addr × Obj)) (s:Shared) (σ:St) (H:ah) (Q:cm),Inv X ae σ H s->t σ H Q->wpAny (model X.prog X.w) X.A (eval e X.env) (gs X ae σ Q) X.dj s
noncomputable def hN (X:a6) (e:Expr) (t:TT):Prop:=
 ∀ (ae:List (Addr × Obj)) (s:Shared) (σ:St) (H:ah) (Q:Bool->ah->Prop),Inv X ae σ H s->t σ H Q->wpAny (model X.prog X.w) X.A (isTrue e X.env (eval e X.env)) (yM X ae σ Q) X.dj s
noncomputable def gy (X:a6) (e:Expr) (t:TT):Prop:=
 ∀ (whole:Sem Value) (ae:List (Addr × Obj)) (s:Shared) (σ:St) (H:ah) (Q:Bool->ah->Prop),Inv X ae σ H s->t σ H Q->wpAny (model X.prog X.w) X.A (isTrue e X.env whole) (yM X ae σ Q) X.dj s
theorem gy.pt {e:Expr} {t:TT} (h:gy X e t):hN X e t:=h _
noncomputable def ck (X:a6) (aL:List Expr) (t:eI):Prop:=
 ∀ (pos:Pos) (ae:List (Addr × Obj)) (s:Shared) (σ:St) (H:ah) (Q:List V->ah->Prop),Inv X ae σ H s->t σ H Q->wpAny (model X.prog X.w) X.A (spliced (backTo pos (starEach aL X.env))) (aeA X ae σ Q) X.dj s
noncomputable def gS (X:a6) (st:Stmt) (t:en):Prop:=
 ∀ (ae:List (Addr × Obj)) (s:Shared) (σ:St) (H:ah) (D:gu),Inv X ae σ H s->t D σ H->wpAny (model X.prog X.w) X.A (exec st X.env) (oX X ae D) X.dj s
noncomputable def ij (X:a6) (st:List Stmt) (t:en):Prop:=
 ∀ (ae:List (Addr × Obj)) (s:Shared) (σ:St) (H:ah) (D:gu),Inv X ae σ H s->t D σ H->wpAny (model X.prog X.w) X.A (execs st X.env) (oX X ae D) X.dj s
theorem bM {t:Sem α} {A:Around} (h:wpAny M A t Q E s) (aN:∀ a s,Q a s->fY a s):wpAny M A t fY E s:=wpAny_mono h aN fun _ _ x=>x
section
variable {X:a6}
noncomputable def qt (H:ah) (Q:cm):Option (Option V)->Prop
 | some (some v)=>Q v H
 | _=>False
theorem M6 (H:ah) (Q:cm) (v:V):qt H Q (some (some v))=Q v H:=rfl
theorem qt.out:∀ {o:Option (Option V)},qt H Q o->∃ v,o=some (some v)/\Q v H
 | some (some v),h=>⟨v,rfl,h⟩
 | some none,h=>h.elim
 | none,h=>h.elim
theorem RL (H:ah) (Q:cm) (o:Option (Option V)):qt H Q o = ∃ v,o=some (some v)/\Q v H:=propext ⟨qt.out,fun ⟨_,e,h⟩=>e ▸ h⟩
noncomputable def fb (x:V) (k:Int->Prop):Prop:=match x with
 | .int i=>k i
 | _=>False
theorem KJ (i:Int) (k:Int->Prop):fb (.int i) k=k i:=rfl
theorem fb.out {x:V} {k:Int->Prop} (h:fb x k):∃ i,x=.int i/\k i:=by
 cases x with
 | int i=>exact ⟨i,rfl,h⟩
 | _=>exact h.elim
theorem UZ (x:V) (k:Int->Prop):fb x k = ∃ i,x=.int i/\k i:=propext ⟨fb.out,fun ⟨_,e,h⟩=>e ▸ h⟩
noncomputable def jF (x:V) (k:Bool->Prop):Prop:=match x with
 | .bk i=>k i
 | _=>False
theorem KK (i:Bool) (k:Bool->Prop):jF (.bk i) k=k i:=rfl
theorem jF.out {x:V} {k:Bool->Prop} (h:jF x k):∃ i,x=.bk i/\k i:=by
 cases x with
 | bk i=>exact ⟨i,rfl,h⟩
 | _=>exact h.elim
theorem IN (x:V) (k:Bool->Prop):jF x k = ∃ i,x=.bk i/\k i:=propext ⟨jF.out,fun ⟨_,e,h⟩=>e ▸ h⟩
noncomputable def ed (x:V) (k:Addr->Prop):Prop:=match x with
 | .ref i=>k i
 | _=>False
theorem LL (i:Addr) (k:Addr->Prop):ed (.ref i) k=k i:=rfl
theorem ed.out {x:V} {k:Addr->Prop} (h:ed x k):∃ i,x=.ref i/\k i:=by
 cases x with
 | ref i=>exact ⟨i,rfl,h⟩
 | _=>exact h.elim
theorem WR (x:V) (k:Addr->Prop):ed x k = ∃ i,x=.ref i/\k i:=propext ⟨ed.out,fun ⟨_,e,h⟩=>e ▸ h⟩
noncomputable def kI (xs:List V) (k:V->Prop):Prop:=match xs with
 | [y]=>k y
 | _=>False
theorem Ja (y:V) (k:V->Prop):kI [y] k=k y:=rfl
theorem kI.out:∀ {xs:List V} {k:V->Prop},kI xs k->∃ y,xs=[y]/\k y
 | [y],_,h=>⟨y,rfl,h⟩
 | [],_,h=>h.elim
 | _ :: _ :: _,_,h=>h.elim
theorem VF (xs:List V) (k:V->Prop):kI xs k = ∃ y,xs=[y]/\k y:=propext ⟨kI.out,fun ⟨_,e,h⟩=>e ▸ h⟩
noncomputable def yv (i:Nat):TE:=fun σ H Q=>qt H Q σ[i]?
noncomputable def ql (v:V):TE:=fun _ H Q=>Q v H
theorem YN {x:Str} (bl:X.N[i]? = some x) (aK:zl X.env.scope x) (hd:(x == ("__debug__" : Str))=false:=by decide) (lq:(x == ("__classdict__" : Str))=false:=by decide):bD X (.Name x pos) (yv i):=by
 intro ae s σ H Q J h;obtain ⟨v,e,h⟩:=qt.out h;obtain ⟨m,a0,aB⟩:=J.loc;obtain ⟨u,r,l⟩:=aB i x v bl e aK;have fin:gs X ae σ Q u s:=⟨v,H,J,r,h⟩;rcases l with ⟨aI,hm⟩ | ⟨aI,c,aq,AR⟩
 .exact wpAny_Name (wpAny_loadName_local J.ok.kind aI a0 hm fin) hd
 .rcases aI with aI | aI
  .exact wpAny_Name (wpAny_loadName_cell J.ok.kind aI aq AR fin) hd
  .exact wpAny_Name (wpAny_loadName_free J.ok.kind aI aq AR fin lq) hd
theorem aJ {i j pos}:bD X (.Constant (.int i) j pos) (ql (.int i)):=fun _ _ _ H _ J h=>wpAny_Constant_int ⟨.int i,H,J.tok _,⟨_,rfl⟩,h⟩
theorem jp {b j pos}:bD X (.Constant (.bool b) j pos) (ql (.bk b)):=fun _ _ _ H _ J h=>Constant_bool ⟨.bk b,H,J,rfl,h⟩
theorem wV {j pos}:bD X (.Constant .none j pos) (ql .b4):=fun _ _ _ H _ J h=>Constant_none ⟨.b4,H,J,rfl,h⟩
theorem bG {x j pos}:bD X (.Constant (.str x) j pos) (ql (.str x)):=fun _ _ _ H _ J h=>afZ ⟨.str x,H,J.tok _,⟨_,rfl⟩,h⟩
noncomputable def ip (X:a6) (x:Str):Prop:=X.env.kindOf x=some .globalImplicit
theorem sW {x:Str} (J:Inv X ae σ H s) (a9:ip X x) (hm:X.ai x=some u) (h:Q u s)
  (hd:(x == ("__debug__" : Str))=false:=by decide):wpAny (model X.prog X.w) X.A (eval (.Name x pos) X.env) Q E s:=
 Ud J.ok.kind a9 (Calls.loadGlobal_global (by rw [J.ok.glob];exact J.mod.glob.keeps J.bw) hm h) hd
theorem ss {x:Str} (J:Inv X ae σ H s) (a9:ip X x) (hm:X.ai x=none) (aK:bootBuiltins x=some u) (h:Q u s)
  (a0:x ≠ "__name__" := by decide) (hd:(x == ("__debug__" : Str))=false:=by decide):wpAny (model X.prog X.w) X.A (eval (.Name x pos) X.env) Q E s:=by
 obtain ⟨kr,ag,ar⟩:=J.mod.blt;exact Ud J.ok.kind a9 (Calls.loadGlobal_builtin (by rw [J.ok.glob];exact J.mod.glob.keeps J.bw) hm (by rw [J.ok.blt];exact ag.keeps J.bw) ((ar x a0).trans aK) h) hd
theorem hJ {x:Str} (a9:ip X x) (hm:X.ai x=some u) (r:bx v u) (hd:(x == ("__debug__" : Str))=false:=by decide):bD X (.Name x pos) (ql v):=
 fun _ _ _ H _ J h=>sW J a9 hm ⟨v,H,J,r,h⟩ hd
variable {a b:Expr} {aZ cB:TE} {pos:Pos}
noncomputable def NL (X:a6) (op:CmpOp) (a b:Expr) (t:TE):Prop:=
 ∀ (ae:List (Addr × Obj)) (s:Shared) (σ:St) (H:ah) (Q:cm),Inv X ae σ H s->t σ H Q ->
  wpAny (model X.prog X.w) X.A (eval a X.env) (fun v cN=>wpAny (model X.prog X.w) X.A (eval b X.env) (fun u df=>wpAny (model X.prog X.w) X.A (compareOp op v u) (gs X ae σ Q) X.dj df) X.dj cN) X.dj s
theorem S1 (b:Expr) (h:op ≠ .In) (ar:op ≠ .NotIn):behindInMarks op b=false:=by
 have ax:(op == CmpOp.In)=false:=by cases op <;> first | rfl | exact absurd rfl h
 have aD:(op == RA)=false:=by cases op <;> first | rfl | exact absurd rfl ar
 cases b <;> simp [behindInMarks,ax,aD]
noncomputable def yW (t:TE):TT:=fun σ H Q=>t σ H fun x H1=>jF x fun c=>Q c H1
theorem JR {t:TE} (h:NL X op a b t) (ag:behindInMarks op b=false:=by first | exact S1 _ (by decide) (by decide) | rfl):hN X (.Compare a [op] [b] pos) (yW t):=by
 intro ae s σ H Q J hw;refine wpAny_isTrue_Compare1 (bM (h ae s σ H _ J hw) fun v s1 ag=>bM ag fun u s2 ar=>bM ar fun c s3 b7=>d2 b7 fun x H1 aY bO bQ=>?_) ag;obtain ⟨d,rfl,q⟩:=jF.out bQ;cases bO;exact wpAny_truthy_bool ⟨H1,aY,q⟩
theorem nj {e:Expr} {t:TE} (h:bD X e t) (he:∀ whole,isTrue e X.env whole=(do let v <- whole;standAt e.pos;holding [v] (truthy v)):=by intro _;rfl):hN X e (yW t):=by
 intro ae s σ H Q J hw;refine isTrue_plain (bM (h ae s σ H _ J hw) fun v s1 b7=>d2 b7 fun x H1 aY bO bQ=>?_) (he _);obtain ⟨d,rfl,q⟩:=jF.out bQ;cases bO;exact wpAny_truthy_bool ⟨H1,aY,q⟩
variable {kx Af:TT} {jL:List Expr}
noncomputable def H3 (t u:TT):TT:=fun σ H Q=>t σ H fun c H1=>if c=true then u σ H1 Q else Q false H1
noncomputable def Ez (t u:TT):TT:=fun σ H Q=>t σ H fun c H1=>if c=true then Q true H1 else u σ H1 Q
noncomputable def C5 (t:TT):TT:=fun σ H Q=>t σ H fun c H1=>Q (!c) H1
theorem vi (aS:hN X a kx):gy X (.BoolOp .And [a] pos) kx:=by
 intro tm ae s σ H Q J h;refine isTrue_and (bM (aS ae s σ H Q J h) fun c s1 e=>?_);cases c with
 | true=>exact isTrue_and_nil e
 | false=>exact e
theorem ym (aS:hN X a kx):gy X (.BoolOp .Or [a] pos) kx:=by
 intro tm ae s σ H Q J h;refine isTrue_or (bM (aS ae s σ H Q J h) fun c s1 e=>?_);cases c with
 | false=>exact isTrue_or_nil e
 | true=>exact e
theorem xe (aS:hN X a kx) (af:gy X (.BoolOp .And (b :: jL) pos) Af):gy X (.BoolOp .And (a :: b :: jL) pos) (H3 kx Af):=by
 intro tm ae s σ H Q J h;refine isTrue_and (bM (aS ae s σ H _ J h) fun c s1 ct=>?_);obtain ⟨H1,aY,bQ⟩:=ct;cases c with
 | true=>exact af tm ae s1 σ H1 Q aY bQ
 | false=>exact ⟨H1,aY,bQ⟩
theorem zU (aS:hN X a kx) (af:gy X (.BoolOp .Or (b :: jL) pos) Af):gy X (.BoolOp .Or (a :: b :: jL) pos) (Ez kx Af):=by
 intro tm ae s σ H Q J h;refine isTrue_or (bM (aS ae s σ H _ J h) fun c s1 ct=>?_);obtain ⟨H1,aY,bQ⟩:=ct;cases c with
 | true=>exact ⟨H1,aY,bQ⟩
 | false=>exact af tm ae s1 σ H1 Q aY bQ
theorem ou (aS:hN X a kx):hN X (.UnaryOp .Not a pos) (C5 kx):=by
 intro ae s σ H Q J h;exact isTrue_not (aS ae s σ H (fun c H1=>Q (!c) H1) J h)
noncomputable def B5 (aZ cB:TE):TE:=fun σ H Q=>aZ σ H fun x H1=>jF x fun c=>if c=true then cB σ H1 Q else Q (.bk false) H1
noncomputable def DP (aZ cB:TE):TE:=fun σ H Q=>aZ σ H fun x H1=>jF x fun c=>if c=true then Q (.bk true) H1 else cB σ H1 Q
theorem xl {op} {t:TE} (h:bD X a t):bD X (.BoolOp op [a] pos) t:=fun ae s σ H Q J hw=>BoolOp_one (h ae s σ H Q J hw)
theorem PV (aS:bD X a aZ) (af:bD X (.BoolOp .And (b :: jL) pos) cB):bD X (.BoolOp .And (a :: b :: jL) pos) (B5 aZ cB):=by
 intro ae s σ H Q J h;refine BoolOp_and (bM (aS ae s σ H _ J h) fun v s1 b7=>d2 b7 fun x H1 aY bO bQ=>?_);obtain ⟨c,rfl,gq⟩:=jF.out bQ;cases bO;refine wpAny_truthy_bool ?_;cases c with
 | true=>exact af ae s1 σ H1 Q aY gq
 | false=>exact ⟨.bk false,H1,aY,rfl,gq⟩
theorem E6 (aS:bD X a aZ) (af:bD X (.BoolOp .Or (b :: jL) pos) cB):bD X (.BoolOp .Or (a :: b :: jL) pos) (DP aZ cB):=by
 intro ae s σ H Q J h;refine BoolOp_or (bM (aS ae s σ H _ J h) fun v s1 b7=>d2 b7 fun x H1 aY bO bQ=>?_);obtain ⟨c,rfl,gq⟩:=jF.out bQ;cases bO;refine wpAny_truthy_bool ?_;cases c with
 | false=>exact af ae s1 σ H1 Q aY gq
 | true=>exact ⟨.bk true,H1,aY,rfl,gq⟩
noncomputable def Cu (t:TT) (aZ cB:TE):TE:=fun σ H Q=>t σ H fun c H1=>if c=true then aZ σ H1 Q else cB σ H1 Q
theorem wH (aq:hN X c kx) (aS:bD X a aZ) (af:bD X b cB):bD X (.IfExp c a b pos) (Cu kx aZ cB):=by
 intro ae s σ H Q J h;refine wpAny_IfExp (bM (aq ae s σ H _ J h) fun d s1 ct=>?_);obtain ⟨H1,aY,bQ⟩:=ct;cases d with
 | true=>exact aS ae s1 σ H1 Q aY bQ
 | false=>exact af ae s1 σ H1 Q aY bQ
end
noncomputable def aH (K:a') (H:ah) (a:Addr) (xs:List V):Prop:=
 j5 H a (.lst xs) \/
  ∃ (o:Obj) (aV:Array Value) (n:Nat),K.lookup a=some o/\o.cls=.type "list" /\ o.dict=none/\o.data=.seq aV n/\aV.size <= sizeLine/\bS xs aV.toList
noncomputable def cU (K:a') (H:ah) (a:Addr) (xs:List V):Prop:=
 j5 H a (.tup xs) \/
  ∃ (o:Obj) (aV:Array Value) (n:Nat),K.lookup a=some o/\o.cls=.type "tuple" /\ o.data=.seq aV n/\aV.size <= sizeLine/\bS xs aV.toList
noncomputable def R2:Value->Option V
 | .none=>some .b4
 | .bool b=>some (.bk b)
 | .int i _=>some (.int i)
 | .str x _=>some (.str x)
 | .bytes b _=>some (.jB b)
 | .float b _=>some (.sJ b)
 | .ref a=>some (.ref a)
 | .type n=>some (.ty n)
 | _=>none
theorem bx.abs {x:V} (r:bx x u):R2 u=some x:=by
 cases x with
 | b4=>cases r;rfl
 | bk _=>cases r;rfl
 | int _=>obtain ⟨t,rfl⟩:=r;rfl
 | str _=>obtain ⟨t,rfl⟩:=r;rfl
 | jB _=>obtain ⟨t,rfl⟩:=r;rfl
 | sJ _=>obtain ⟨t,rfl⟩:=r;rfl
 | ref _=>cases r;rfl
 | ty _=>cases r;rfl
theorem bx.inj {x y:V} (r:bx x u) (q:bx y u):x=y:=dZ (r.abs.symm.trans q.abs)
theorem bS.inj:∀ {xs ys:List V} {us:List Value},bS xs us->bS ys us->xs=ys
 | _,_,_,.nil,.nil=>rfl
 | _,_,_,.cons r t,.cons fu t'=>by rw [r.inj fu,bS.inj t t']
section
variable {X:a6} {ae:List (Addr × Obj)} {σ:St} {H:ah} {s:Shared} {a:Addr} {xs ys:List V}
theorem aH.of {K:a'} (h:H a=some (.lst xs)):aH K H a xs:=.inl (.inl h)
theorem cU.of {K:a'} (h:H a=some (.tup xs)):cU K H a xs:=.inl (.inl h)
theorem Inv.list (J:Inv X ae σ H s) (h:aH X.K H a xs):∃ aV:List Value,bS xs aV/\PlainL s.heap a aV.toArray/\xs.length <= sizeLine:=by
 rcases h with h | ⟨o,aV,n,aI,aq,hd,aC,ay,r⟩
 .obtain ⟨z,aV,n,r,e⟩:=h.ok J.bz;exact ⟨aV,r,⟨_,n,e,rfl,rfl,rfl⟩,z⟩
 .refine ⟨aV.toList,r,⟨o,n,J.gU a o aI,aq,hd,by simpa using aC⟩,?_⟩;have e:=r.length;simp only [oI] at e;omega
theorem Inv.tuple (J:Inv X ae σ H s) (h:cU X.K H a xs):∃ aV:List Value,bS xs aV/\IsTup s.heap a aV.toArray/\xs.length <= sizeLine:=by
 rcases h with h | ⟨o,aV,n,aI,aq,aC,ay,r⟩
 .obtain ⟨z,aV,r,p⟩:=h.ok J.bz;exact ⟨aV,r,p,z.1⟩
 .refine ⟨aV.toList,r,⟨o,J.gU a o aI,aq,n,by simpa using aC⟩,?_⟩;have e:=r.length;simp only [oI] at e;omega
theorem Inv.Nz (J:Inv X ae σ H s) (h:aH X.K H a xs) (h':aH X.K H a ys):xs=ys:=by
 obtain ⟨aV,r,⟨o,n,e,_,_,d⟩,_⟩:=J.list h;obtain ⟨its',fu,⟨cK,eB,b5,_,_,d'⟩,_⟩:=J.list h';rw [e] at b5;cases b5;rw [d] at d';injection d' with bY _;have:aV=its':=by simpa using congrArg ZR bY
 subst this;exact r.inj fu
theorem Inv.ago (J:Inv X ae σ H s) (h:cU X.K H a xs) (h':cU X.K H a ys):xs=ys:=by
 obtain ⟨aV,r,⟨o,e,_,n,d⟩,_⟩:=J.tuple h;obtain ⟨its',fu,⟨cK,b5,_,eB,d'⟩,_⟩:=J.tuple h';rw [e] at b5;cases b5;rw [d] at d';injection d' with bY _;have:aV=its':=by simpa using congrArg ZR bY
 subst this;exact r.inj fu
end
noncomputable abbrev a6.jS (X:a6) (E:Value->Shared->Prop):a6:={ X with dj:=E }
noncomputable abbrev a6.w5 (X:a6):a6:=X.jS fun _ _=>False
theorem a6.Ok.jS {X:a6} (ok:X.Ok) (E:Value->Shared->Prop):(X.jS E).Ok:=
 ⟨ok.mod,ok.kind,ok.glob,ok.blt,ok.above,ok.inj,ok.has,ok.r4,ok.hd,ok.frames,ok.vN,ok.CS,ok.bs,ok.kq,ok.sd,ok.qO,ok.jD,ok.mH⟩
theorem a6.Ok.oC {X:a6} {E:Value->Shared->Prop} (ok:(X.jS E).Ok):X.Ok:=
 ⟨ok.mod,ok.kind,ok.glob,ok.blt,ok.above,ok.inj,ok.has,ok.r4,ok.hd,ok.frames,ok.vN,ok.CS,ok.bs,ok.kq,ok.sd,ok.qO,ok.jD,ok.mH⟩
section
variable {X:a6} {ae:List (Addr × Obj)} {σ:St} {H:ah} {s:Shared} {E:Value->Shared->Prop}
theorem Inv.jS (J:Inv X ae σ H s) (E:Value->Shared->Prop):Inv (X.jS E) ae σ H s:=⟨J.ok.jS E,J.os,J.bare,J.base,J.loc,J.cell,J.free,J.jU,J.pin,J.bz,J.len⟩
theorem Inv.oC (J:Inv (X.jS E) ae σ H s):Inv X ae σ H s:=⟨J.ok.oC,J.os,J.bare,J.base,J.loc,J.cell,J.free,J.jU,J.pin,J.bz,J.len⟩
theorem oX.oC (h:oX (X.jS E) ae D f aO):oX X ae D f aO:=by
 cases f with
 | next=>obtain ⟨aQ,I,J,q⟩:=h;exact ⟨aQ,I,J.oC,q⟩
 | brk=>obtain ⟨aQ,I,J,q⟩:=h;exact ⟨aQ,I,J.oC,q⟩
 | cont=>obtain ⟨aQ,I,J,q⟩:=h;exact ⟨aQ,I,J.oC,q⟩
 | ret u=>obtain ⟨v,aQ,I,J,r,q⟩:=h;exact ⟨v,aQ,I,J.oC,r,q⟩
theorem ij.w5 {st:List Stmt} {t:en} (h:ij X.w5 st t):ij X st t:=fun ae s σ H D J hw=>
 wpAny_mono (h ae s σ H D (J.jS _) hw) (fun _ _ q=>q.oC) fun _ _ z=>kG z
end
section
variable {X:a6} {st:Stmt} {jL:List Stmt} {t u:en} {e:Expr} {bJ:TE} {pos:Pos}
noncomputable def eH:en:=fun D σ H=>D.cF σ H
noncomputable def mO:Nat:=0
noncomputable def iK:Nat:=mO
noncomputable def nV:Nat:=iK
noncomputable def Fq:Nat:=nV
noncomputable def Q4:Nat:=Fq
noncomputable def ad6:Nat:=Q4
noncomputable def YH:Nat:=ad6
noncomputable def VG:Nat:=YH
noncomputable def aeQ:Nat:=VG
noncomputable def QS:Nat:=aeQ
noncomputable def acF:Nat:=QS
noncomputable def Zt:Nat:=acF
noncomputable def S9:Nat:=Zt
noncomputable def EQ (t u:en):en:=fun D σ H=>(fun _:Nat=>t { D with cF:=u D } σ H) S9
theorem cM:ij X [] eH:=fun _ _ σ H _ J h=>wpAny_execs_nil ⟨σ,H,J,h⟩
theorem aE (ag:gS X st t) (ar:ij X jL u):ij X (st :: jL) (EQ t u):=by
 intro ae s σ H D J h;refine wpAny_execs_cons (bM (ag ae s σ H { D with cF:=u D } J h) fun f s1 q=>?_);cases f with
 | next=>
  obtain ⟨aQ,I,jO,q⟩:=q;exact ar ae s1 aQ I D jO q
 | ret v=>exact q
 | brk=>exact q
 | cont=>exact q
theorem aU (ag:gS X st t):ij X [st] t:=by
 intro ae s σ H D J h;refine wpAny_execs_cons (bM (ag ae s σ H D J h) fun f s1 q=>?_);cases f with
 | next=>exact wpAny_execs_nil q
 | ret v=>exact q
 | brk=>exact q
 | cont=>exact q
theorem Inv.quiet (J:Inv X ae σ H s):interactive X.env=false:=by simp [interactive,J.ok.kind]
noncomputable def Du (bJ:TE):en:=fun D σ H=>bJ σ H fun _ H1=>D.cF σ H1
theorem d_ (he:bD X e bJ) (aC:swapsWith e none pos.line X.env=pure false:=by rfl):gS X (.Expr e pos) (Du bJ):=by
 intro ae s σ H D J h;exact wpAny_Expr_any (bM (he ae s σ H _ J h) fun v s1 b7=>d2 b7 fun x H1 aY bO bQ=>⟨σ,H1,aY,bQ⟩) J.quiet aC
noncomputable def BD (bJ:TE):en:=fun D σ H=>bJ σ H D.kW
theorem bL (he:bD X e bJ):gS X (.Return (some e) pos) (BD bJ):=by
 intro ae s σ H D J h;exact wpAny_Return_some (bM (he ae s σ H _ J h) fun v s1 b7=>d2 b7 fun x H1 aY bO bQ=>⟨x,σ,H1,aY,bO,bQ⟩)
noncomputable def CA:en:=fun D _ H=>D.kW .b4 H
theorem TL:gS X (.Return none pos) CA:=fun _ _ σ H _ J h=>wpAny_Return_none ⟨.b4,σ,H,J,rfl,h⟩
noncomputable def II (c:TT) (t u:en):en:=fun D σ H=>c σ H fun b H1=>if b=true then t D σ H1 else u D σ H1
theorem cI (aq:hN X c c2) (aS:ij X a t) (af:ij X b u):gS X (.If c a b pos) (II c2 t u):=by
 intro ae s σ H D J h;refine wpAny_If (bM (aq ae s σ H _ J h) fun d s1 ct=>?_);obtain ⟨H1,aY,bQ⟩:=ct;cases d with
 | true=>exact aS ae s1 σ H1 D aY bQ
 | false=>exact af ae s1 σ H1 D aY bQ
noncomputable def EL:en:=fun _ _ _=>False
theorem iE:gS X st EL:=fun _ _ _ _ _ _ h=>h.elim
end
noncomputable abbrev fS:=V->St->ah->(St->ah->Prop)->Prop
noncomputable abbrev pf:=List V->St->ah->(St->ah->Prop)->Prop
noncomputable def ll (X:a6) (wj:Expr) (t:fS):Prop:=
 ∀ (ae:List (Addr × Obj)) (s:Shared) (σ:St) (H:ah) (v:V) (u:Value) (Q:St->ah->Prop),Inv X ae σ H s->bx v u->t v σ H Q ->
  wpAny (model X.prog X.w) X.A (assign wj X.env u) (fun _ aO=>∃ aQ I,Inv X ae aQ I aO/\Q aQ I) X.dj s
noncomputable def uI (X:a6) (yK:List Expr) (t:pf):Prop:=
 ∀ (ae:List (Addr × Obj)) (s:Shared) (σ:St) (H:ah) (vs:List V) (us:List Value) (Q:St->ah->Prop),Inv X ae σ H s->bS vs us->t vs σ H Q ->
  wpAny (model X.prog X.w) X.A (assignInOrder ((assignEach yK X.env).map (·.2)) us) (fun _ aO=>∃ aQ I,Inv X ae aQ I aO/\Q aQ I) X.dj s
noncomputable abbrev Gr:=V->V->V->ah->(ah->Prop)->Prop
noncomputable def Ln (X:a6) (t:Gr):Prop:=
 ∀ (ae:List (Addr × Obj)) (s:Shared) (σ:St) (H:ah) (o i v:V) (dz iu u:Value) (Q:ah->Prop),Inv X ae σ H s->bx o dz->bx i iu->bx v u->t o i v H Q ->
  wpAny (model X.prog X.w) X.A (setItem dz iu u) (fun _ aO=>∃ I,Inv X ae σ I aO/\Q I) X.dj s
section
variable {X:a6} {pos:Pos}
noncomputable def i7 (i:Nat):fS:=fun v σ H Q=>Q (σ.set i (some v)) H
theorem Ms {x:Str} (bl:X.N.Nodup) (ak:X.N[i]? = some x) (ao:Loc X.env.scope x) (hf:X.fn x=true\/X.env.scope.names.lookup x=some .local:=by first | exact .inl rfl | exact .inr rfl | assumption):ll X (.Name x pos) (i7 i):=by
 intro ae s σ H v u Q J r h;exact wpAny_assign_Name (PN J bl ak ao r (fun aO jO=>⟨_,H,jO,h⟩) hf)
noncomputable def w9:pf:=fun vs σ H Q=>vs=[]/\Q σ H
noncomputable def pb (t:fS) (u:pf):pf:=fun vs σ H Q=>∃ v r,vs=v :: r/\t v σ H fun aQ I=>u r aQ I Q
theorem hV:uI X [] w9:=by
 intro ae s σ H vs us Q J r h;obtain ⟨e,h⟩:=h;subst e;cases r;exact assignInOrder_nil ⟨σ,H,J,h⟩
theorem dp {e:Expr} {t:fS} (ag:ll X e t) (ar:uI X aL u)
  (aC:(assignEach (e :: aL) X.env).map (·.2)=assign e X.env :: (assignEach aL X.env).map (·.2):=by rfl):uI X (e :: aL) (pb t u):=by
 intro ae s σ H vs us Q J r h;obtain ⟨v,ag3,ax,h⟩:=h;subst ax;cases r with
 | cons r jd=>
  rw [aC];refine assignInOrder_cons (bM (ag ae s σ H _ _ _ J r h) fun _ s1 ct=>?_);obtain ⟨nD,H1,aY,bQ⟩:=ct;exact ar ae s1 nD H1 _ _ Q aY jd bQ
noncomputable def qZ (K:a') (n:Nat) (t:pf):fS:=fun v σ H Q=>∃ a xs,v=.ref a/\cU K H a xs/\xs.length=n/\t xs σ H Q
theorem Wv {k:Nat} {t:pf} (aq:X.calm=true) (h:uI X aL t)
  (a0:(assignEach aL X.env).length=n:=by rfl) (gk:(assignEach aL X.env).findIdx? (·.1)=none:=by rfl):ll X (.Tuple aL k pos) (qZ X.K n t):=by
 intro ae s σ H v u Q J r hw;obtain ⟨a,xs,ax,a4,aB,hw⟩:=hw;subst ax;cases r;obtain ⟨aV,b8,c_,ay⟩:=J.tuple a4;refine assign_Tuple_tuple (J.ok.hd aq) c_ (by simp [a0,<- aB,b8.length]) gk fun h' ao=>?_
 have aY:Inv X ae σ H { s with heap:=h' }:=J.kept (t':=s.toks) fun b o e=>ao b o (e9 (dt e)) e
 exact h ae _ σ H xs _ Q aY (by simpa using b8) hw
noncomputable def Ho (to Bv:TE) (t:Gr):fS:=fun v σ H Q=>to σ H fun o H1=>Bv σ H1 fun i az=>t o i v az fun cj=>Q σ cj
theorem yg {to Bv:TE} {t:Gr} (aX:bD X o to) (ak:bD X i Bv) (aC:Ln X t)
  (aS:∀ v,assign (.Subscript o i pos) X.env v=(do
   let dz <- holding [v] (eval o X.env)
   let iu <- holding [v,dz] (eval i X.env)
   standAt pos
   holding [v,dz,iu] (setItem dz iu v)
   release [v,dz,iu] []):=by intro _;rfl):ll X (.Subscript o i pos) (Ho to Bv t):=by
 intro ae s σ H v u Q J r h;rw [aS];refine wpAny_bind (wpAny_holding (bM (aX ae s σ H _ J h) fun dz s1 b7=>d2 b7 fun x H1 aY bO bQ=>?_));refine wpAny_bind (wpAny_holding (bM (ak ae s1 σ H1 _ aY bQ) fun iu s2 b7=>d2 b7 fun y az bX dn eK=>?_));refine wpAny_bind (wpAny_standAt (wpAny_bind (wpAny_holding (bM (aC ae s2 σ az x y v dz iu u _ bX bO dn r eK) fun _ s3 ct=>?_))));obtain ⟨cj,gH,kT⟩:=ct;exact wpAny_release ⟨σ,cj,gH,kT⟩
noncomputable def rL (bJ:TE) (g:fS):en:=fun D σ H=>bJ σ H fun x H1=>g x σ H1 D.cF
theorem l6 {cH e:Expr} (he:bD X e bJ) (a9:ll X cH g) (aC:swapsWithSole [cH] e pos.line X.env=pure false:=by rfl) (hw:swappedStores [cH] e X.env=pure none:=by rfl)
  (ag:(assignEach [cH] X.env).map (·.2)=[assign cH X.env]:=by rfl):gS X (.Assign [cH] e pos) (rL bJ g):=by
 intro ae s σ H D J h;refine wpAny_Assign_stores (bM (he ae s σ H _ J h) fun v s1 b7=>d2 b7 fun x H1 aY bO bQ=>?_) aC hw;rw [ag];exact bM (a9 ae s1 σ H1 x v _ aY bO bQ) fun _ s2 q=>q
theorem rA {x:Str} {e:Expr} (bl:X.N.Nodup) (ak:X.N[i]? = some x) (ao:Loc X.env.scope x) (he:bD X e bJ) (aC:swapsWith e (some (.Name x pos')) pos.line X.env=pure false:=by rfl) (hf:X.fn x=true\/X.env.scope.names.lookup x=some .local:=by first | exact .inl rfl | exact .inr rfl | assumption) :
  gS X (.Assign [.Name x pos'] e pos) (rL bJ (i7 i)):=by
 intro ae s σ H D J h;refine wpAny_Assign_Name (bM (he ae s σ H _ J h) fun v s1 b7=>d2 b7 fun y H1 aY bO bQ=>?_) aC;exact PN aY bl ak ao bO (fun s2 bX=>⟨_,H1,bX,bQ⟩) hf
end
structure hU where
 go:Nat->ah->Prop
 oy:Nat->ah->V->ah->Prop
 stop:Nat->ah->Prop
noncomputable def h_ (X:a6) (ae:List (Addr × Obj)) (H:ah) (b:Addr):Prop:=
 H b=none/\b ≠ X.env.locals/\b ∉ X.a_/\(b ∈ X.ex\/X.eX.heap.objs.size <= b)/\(∀ x c,X.env.cells.lookup x=some c->c ≠ b)/\∀ p ∈ X.d3 ++ ae,p.1 ≠ b
theorem Inv.kD (J:Inv X ae σ H s) (af:s.heap.objs.size <= b) (a0:I b=none):h_ X ae I b:=by
 refine ⟨a0,NT (ih J.lt af),J.Mo af,.inr (cp J.tR af),fun x c e z=>?_,fun p aw z=>?_⟩
 .obtain ⟨v,q⟩:=J.cell x c e;exact absurd (ih q.lt (by rw [z];exact af)) (pa _)
 .exact absurd (ih (dt (J.pin p aw).1) (by rw [z];exact af)) (pa _)
structure lW (P:Program) (w:World) (K:a') (cH:Expr) (cE:hU) (bP:List Addr) (it:Addr) (gL:Nat->Heap->Prop):Prop where
 mem:it ∈ bP
 obj:∀ i h,gL i h->∀ b ∈ bP,∃ o,h.get? b=some o/\∀ v,o.data ≠ .cell v
 keep:∀ i h h',gL i h->(∀ b ∈ bP,∀ o,h.get? b=some o->h'.get? b=some o)->gL i h'
 item:∀ (X:a6),X.prog=P->X.w=w->X.K=K->X.calm=true->∀ (i:Nat) (ae:List (Addr × Obj)) (s:Shared) (σ:St) (H:ah) (E:Value->Shared->Prop),Inv X ae σ H s->(∀ b ∈ bP,h_ X ae H b)->gL i s.heap->cE.go i H ->
  wpAny (model P w) X.A (pyNext (.ref it)) (fun r s1=>∃ u,r=some u /\
   wpAny (model P w) X.A (letOwnedTupleGo cH (.ref it) u) (fun _ s2=>∃ x I,Inv X ae σ I s2/\bx x u/\cE.oy i H x I/\gL (i + 1) s2.heap/\∀ b ∈ bP,I b=none) E s1) E s
 done:∀ (X:a6),X.prog=P->X.w=w->X.K=K->X.calm=true->∀ (i:Nat) (ae:List (Addr × Obj)) (s:Shared) (σ:St) (H:ah) (E:Value->Shared->Prop),Inv X ae σ H s->(∀ b ∈ bP,h_ X ae H b)->gL i s.heap->cE.stop i H ->
  wpAny (model P w) X.A (pyNext (.ref it)) (fun r s1=>r=none/\Inv X ae σ H s1) E s
 self:∀ (A:Around) (i:Nat) (s:Shared) (Q:Value->Shared->Prop) (E:Value->Shared->Prop),gL i s.heap->Q (.ref it) s->wpAny (model P w) A (pyIter (.ref it)) Q E s
noncomputable abbrev TI:=St->ah->(hU->ah->Prop)->Prop
noncomputable def ML (X:a6) (ae:List (Addr × Obj)) (σ:St) (cH:Expr) (R:hU->ah->Prop) (yR:Value) (s2:Shared):Prop:=
 ∃ (it:Addr) (bP:List Addr) (gL:Nat->Heap->Prop) (cE:hU) (I:ah),yR=.ref it/\Inv X ae σ I s2/\lW X.prog X.w X.K cH cE bP it gL/\gL 0 s2.heap/\(∀ b ∈ bP,h_ X ae I b)/\R cE I
noncomputable def k4 (X:a6) (cH iter:Expr) (hr:TI):Prop:=
 ∀ (ae:List (Addr × Obj)) (s:Shared) (σ:St) (H:ah) (R:hU->ah->Prop),Inv X ae σ H s->hr σ H R ->
  wpAny (model X.prog X.w) X.A (eval iter X.env) (fun v s1=>wpAny (model X.prog X.w) X.A (pyIter v) (ML X ae σ cH R) X.dj s1) X.dj s
theorem qM {A:Around} {it:Addr} (aX:s.heap.get? it=some o) (aq:o.cls=.type n) (hd:o.data=.fields vs)
    (a0:["enumerate","zip","dict_itemiterator","dict_reverseitemiterator","odict_iterator","itertools.zip_longest","itertools.pairwise"].contains n=false) (aN:Q () s):wpAny M A (letOwnedTupleGo cH (.ref it) u) Q E s:=by
  unfold letOwnedTupleGo;cases cH <;> first
    | exact wpAny_pure aN
    | (cases u <;> first
        | exact wpAny_pure aN
        | (refine wpAny_bind (wpAny_load aX ?_)
           rw [aq,hd];show wpAny M A (if (["enumerate","zip","dict_itemiterator","dict_reverseitemiterator","odict_iterator","itertools.zip_longest","itertools.pairwise"].contains n && vs[0]? == some (rawInt _))=true then _ else _) Q E s;rw [if_neg (by intro h;rw [a0,q0] at h;cases h)];exact wpAny_pure aN))
noncomputable def mE (K:a') (a:Addr):hU:=
 ⟨fun i H=>∃ xs x,aH K H a xs/\xs[i]? = some x,fun i H x I=>I=H/\∀ xs,aH K H a xs->xs[i]? = some x,fun i H=>∃ xs,aH K H a xs/\xs.length <= i⟩
noncomputable def zG (K:a') (a:Addr):hU:=
 ⟨fun i H=>∃ xs x,cU K H a xs/\xs[i]? = some x,fun i H x I=>I=H/\∀ xs,cU K H a xs->xs[i]? = some x,fun i H=>∃ xs,cU K H a xs/\xs.length <= i⟩
noncomputable def lA (lo:Int) (n:Nat):hU:=⟨fun i _=>i < n,fun i H x I=>I=H/\x=.int (lo + i),fun i _=>n <= i⟩
theorem aeq {w:World} {K:a'} (a it:Addr):lW P w K cH (mE K a) [it] it (fun i h=>h.IsListIter it a i) where
 mem:=by simp
 obj:=fun i h st b af=>by
  have e:b=it:=by simpa using af
  subst e;obtain ⟨o,e,c,d⟩:=st;exact ⟨o,e,fun v z=>by rw [d] at z;cases z⟩
 keep:=fun i h h' st k=>st.at fun o e=>k it (by simp) o e
 item:=by
  intro X di hw d9 aq i ae s σ H E J hf st a9;subst di hw d9;obtain ⟨xs,x,a4,ao⟩:=a9;obtain ⟨aV,b8,p,ay⟩:=J.list a4;obtain ⟨u,bE,dU⟩:=b8.get ao;obtain ⟨f0,f1,f2,e_,f4,eP⟩:=hf it (by simp);refine wpAny_pyNext_list_item st p.isList (x:=u) (by simpa using bE) fun h' iC mu=>?_
  have aY:Inv X ae σ H { s with heap:=h' }:=J.turned (t':=s.toks) (fun b o af e=>(mu.2 b af).trans e) f0 f1 e_ f4 eP;obtain ⟨o,e,c,d⟩:=id iC;exact ⟨u,rfl,qM (s:={ s with heap:=h' }) e c d (by decide) ⟨x,H,aY,dU,⟨rfl,fun ys bj=>by rw [J.Nz bj a4];exact ao⟩,iC,fun b af=>(hf b af).1⟩⟩
 done:=by
  intro X di hw d9 aq i ae s σ H E J hf st a9;subst di hw d9;obtain ⟨xs,a4,ao⟩:=a9;obtain ⟨aV,b8,p,ay⟩:=J.list a4;obtain ⟨f0,f1,f2,e_,f4,eP⟩:=hf it (by simp);have aB:=b8.length;exact wpAny_pyNext_list_end (J.ok.hd aq) st p.isList (by simp;omega) fun h' e8=>⟨rfl,J.turned (t':=s.toks) (fun b o af e=>e8 b o af e) f0 f1 e_ f4 eP⟩
 self:=fun _ _ _ _ _ st h=>wpAny_pyIter_listiter st h
theorem aad {w:World} {K:a'} (a it:Addr):lW P w K cH (zG K a) [it] it (fun i h=>h.IsTupleIter it a i) where
 mem:=by simp
 obj:=fun i h st b af=>by
  have e:b=it:=by simpa using af
  subst e;obtain ⟨o,e,c,d⟩:=st;exact ⟨o,e,fun v z=>by rw [d] at z;cases z⟩
 keep:=fun i h h' st k=>st.at fun o e=>k it (by simp) o e
 item:=by
  intro X di hw d9 aq i ae s σ H E J hf st a9;subst di hw d9;obtain ⟨xs,x,a4,ao⟩:=a9;obtain ⟨aV,b8,p,ay⟩:=J.tuple a4;obtain ⟨u,bE,dU⟩:=b8.get ao;obtain ⟨f0,f1,f2,e_,f4,eP⟩:=hf it (by simp);refine wpAny_pyNext_tuple_item st (show s.heap.IsTuple a aV.toArray from p) (x:=u) (by simpa using bE) fun h' iC mu=>?_
  have aY:Inv X ae σ H { s with heap:=h' }:=J.turned (t':=s.toks) (fun b o af e=>(mu.2 b af).trans e) f0 f1 e_ f4 eP;obtain ⟨o,e,c,d⟩:=id iC;exact ⟨u,rfl,qM (s:={ s with heap:=h' }) e c d (by decide) ⟨x,H,aY,dU,⟨rfl,fun ys bj=>by rw [J.ago bj a4];exact ao⟩,iC,fun b af=>(hf b af).1⟩⟩
 done:=by
  intro X di hw d9 aq i ae s σ H E J hf st a9;subst di hw d9;obtain ⟨xs,a4,ao⟩:=a9;obtain ⟨aV,b8,p,ay⟩:=J.tuple a4;obtain ⟨f0,f1,f2,e_,f4,eP⟩:=hf it (by simp);have aB:=b8.length;exact wpAny_pyNext_tuple_end (J.ok.hd aq) st (show s.heap.IsTuple a aV.toArray from p) (by simp;omega) fun h' e8=>⟨rfl,J.turned (t':=s.toks) (fun b o af e=>e8 b o af e) f0 f1 e_ f4 eP⟩
 self:=fun _ _ _ _ _ st h=>wpAny_pyIter_tupleiter st h
theorem aes {w:World} {K:a'} (it:Addr) (lo:Int) (n:Nat):lW P w K cH (lA lo n) [it] it (fun i h=>IsRangeIter h it (lo + (i:Nat) * 1) ((n:Int) - (i:Nat)) 1) where
 mem:=by simp
 obj:=fun i h st b af=>by
  have e:b=it:=by simpa using af
  subst e;exact ⟨_,st,fun v z=>by
   have ey:G6 _=D2 v:=z;cases ey⟩
 keep:=fun i h h' st k=>k it (by simp) _ st
 item:=by
  intro X di hw d9 aq i ae s σ H E J hf st a9;subst di hw d9;obtain ⟨f0,f1,f2,e_,f4,eP⟩:=hf it (by simp);have W:=acH (prog:=X.prog) (w:=X.w) (J.ok.hd aq) it lo 1 n;refine W.item i s _ _ a9 st fun v h' cY aK iC kh=>?_
  obtain ⟨t,rfl⟩:=aK;have aY:Inv X ae σ H { s with heap:=h',toks:=cY }:=J.turned (fun b o af e=>kh b o (by simpa using af) e) f0 f1 e_ f4 eP;refine ⟨_,rfl,qM (s:={ s with heap:=h',toks:=cY }) (n := "range_iterator") iC rfl rfl (by decide) ⟨.int (lo + i),H,aY,⟨t,?_⟩,⟨rfl,rfl⟩,iC,fun b af=>(hf b af).1⟩⟩;rw [Int.mul_one]
 done:=by
  intro X di hw d9 aq i ae s σ H E J hf st a9;subst di hw d9;obtain ⟨f0,f1,f2,e_,f4,eP⟩:=hf it (by simp);exact wpAny_pyNext_range_end (J.ok.hd aq) st (by have:n <= i:=a9;omega) fun h' e8=>⟨rfl,J.turned (t':=s.toks) (fun b o af e=>e8 b o af e) f0 f1 e_ f4 eP⟩
 self:=fun _ _ _ _ _ st h=>wpAny_pyIter_rangeiter st h
section
variable {X:a6} {cH:Expr}
noncomputable def CM (K:a') (c9:TE):TI:=fun σ H R=>c9 σ H fun x H1=>ed x fun a=>(∃ xs,aH K H1 a xs)/\R (mE K a) H1
noncomputable def Ht (K:a') (c9:TE):TI:=fun σ H R=>c9 σ H fun x H1=>ed x fun a=>(∃ xs,cU K H1 a xs)/\R (zG K a) H1
theorem gv (aB:bD X l c9):k4 X cH l (CM X.K c9):=by
 intro ae s σ H R J h;refine bM (aB ae s σ H _ J h) fun v s1 b7=>d2 b7 fun x H1 aY bO bQ=>?_
 obtain ⟨a,e,⟨xs,a4⟩,q⟩:=ed.out bQ;subst e;cases bO;obtain ⟨aV,b8,p,ay⟩:=aY.list a4;refine wpAny_pyIter_list p.isList ?_;refine ⟨s1.heap.objs.size,[s1.heap.objs.size],_,_,H1,rfl,aY.kept (t':=s1.toks) fun b o e=>er _ e,aeq a _,⟨_,e6 _ rfl,rfl,rfl⟩,fun b af=>?_,q⟩;have e:b=s1.heap.objs.size:=by simpa using af
 subst e;exact aY.kD (bW _) (aY.bz.fresh (bW _))
theorem Oh (aB:bD X l c9):k4 X cH l (Ht X.K c9):=by
 intro ae s σ H R J h;refine bM (aB ae s σ H _ J h) fun v s1 b7=>d2 b7 fun x H1 aY bO bQ=>?_
 obtain ⟨a,e,⟨xs,a4⟩,q⟩:=ed.out bQ;subst e;cases bO;obtain ⟨aV,b8,p,ay⟩:=aY.tuple a4;refine wpAny_pyIter_tuple (show s1.heap.IsTuple a aV.toArray from p) ?_;refine ⟨s1.heap.objs.size,[s1.heap.objs.size],_,_,H1,rfl,aY.kept (t':=s1.toks) fun b o e=>er _ e,aad a _,⟨_,e6 _ rfl,rfl,rfl⟩,fun b af=>?_,q⟩;have e:b=s1.heap.objs.size:=by simpa using af
 subst e;exact aY.kD (bW _) (aY.bz.fresh (bW _))
theorem R5 {ae:List (Addr × Obj)} {σ:St} {H:ah} {s:Shared} {R:hU->ah->Prop} {E:Value->Shared->Prop} {lo ak:Int} {t u v:Tok} {cY:Nat} (J:Inv X ae σ H s) (ag:-(2 ^ 62) <= lo) (ar:lo < 2 ^ 62) (bc:-(2 ^ 62) <= ak) (cb:ak < 2 ^ 62)
  (q:R (lA lo (ak - lo).toNat) H):wpAny (model X.prog X.w) X.A (pyIter (.ref s.heap.objs.size)) (ML X ae σ cH R) E { s with heap:=s.heap.push { cls:=.type "range",data:=.fields #[.int lo t,.int ak u,.int 1 v] },toks:=cY }:=by
 refine wpAny_pyIter_range (Y2 ..) (small_one ag ar bc cb) ?_;have aY:Inv X ae σ H { s with heap:=s.heap.push { cls:=.type "range",data:=.fields #[.int lo t,.int ak u,.int 1 v] },toks:=cY }:=J.kept fun b o e=>er _ e
 refine ⟨(s.heap.push { cls:=.type "range",data:=.fields #[.int lo t,.int ak u,.int 1 v] }).objs.size,[(s.heap.push { cls:=.type "range",data:=.fields #[.int lo t,.int ak u,.int 1 v] }).objs.size],_,_,H,rfl,
  aY.kept (t':=cY) fun b o e=>er _ e,aes _ lo (ak - lo).toNat,?_,fun b af=>?_,q⟩
 .have ax:lo + ((0:Nat):Int) * 1=lo:=by simp
  have aD:(((ak - lo).toNat:Nat):Int) - ((0:Nat):Int)=CB lo ak 1:=by rw [rangeSize_one];split <;> omega
  show IsRangeIter _ _ (lo + ((0:Nat):Int) * 1) ((((ak - lo).toNat:Nat):Int) - ((0:Nat):Int)) 1;rw [ax,aD];exact e6 _ rfl
 .have e:b=(s.heap.push { cls:=.type "range",data:=.fields #[.int lo t,.int ak u,.int 1 v] }).objs.size:=by simpa using af
  subst e;exact aY.kD (bW _) (aY.bz.fresh (bW _))
noncomputable def Le (aZ:eI):TI:=fun σ H R=>aZ σ H fun vs H1=>kI vs fun x=>fb x fun j=>-(2 ^ 62) <= j/\j < 2 ^ 62/\R (lA 0 j.toNat) H1
theorem ja {a:Expr} {aZ:eI} {p pos:Pos} (a9:ip X "range") (hm:X.ai "range"=none) (aS:ck X [a] aZ) (aC:starEach [a] X.env=[(false,eval a X.env)]:=by rfl):k4 X cH (.Call (.Name "range" p) [a] [] pos) (Le aZ):=by
 intro ae s σ H R J h;refine Call_ (ss J a9 hm boot_range (u1 (bM (aS pos ae s σ H _ J h) fun us s1 ct=>?_) aC rfl));obtain ⟨vs,H1,aY,bO,bQ⟩:=ct;obtain ⟨agp,VN,gq⟩:=kI.out bQ;obtain ⟨j,Qn,TB,eK,q⟩:=fb.out gq;have e:=VN.trans (congrArg (fun z=>[z]) Qn);subst e;cases bO with
 | cons r jd=>
  cases jd;obtain ⟨t,rfl⟩:=r;exact call_range_1 (R5 aY (by omega) (by omega) TB eK (by simpa using q))
noncomputable def Pq (hr:TI) (g:fS) (cB:en):en:=fun D σ H=>hr σ H fun cE H1=>∃ W:Nat->Nat->St->ah->Prop,(∃ m,W 0 m σ H1)/\∀ i m σ H,W i m σ H ->
 (cE.stop i H/\D.cF σ H)\/(cE.go i H/\∃ N:St->ah->Prop,(∀ aQ I,N aQ I->∃ dF,dF < m/\W (i + 1) dF aQ I)/\∀ x I,cE.oy i H x I->g x σ I fun c5 az=>cB { D with cF:=N,e1:=N,bw:=D.cF } c5 az)
noncomputable def vV (bP:List Addr) (h:Heap):List (Addr × Obj):=bP.filterMap fun b=>(h.get? b).map fun o=>(b,o)
theorem yC {h:Heap} (af:b ∈ bP) (e:h.get? b=some o):(b,o) ∈ vV bP h:=abu.mpr ⟨b,af,by rw [e];rfl⟩
theorem WB {h:Heap} {p:Addr × Obj} (aw:p ∈ vV bP h):p.1 ∈ bP/\h.get? p.1=some p.2:=by
 obtain ⟨b,af,e⟩:=abu.mp aw;cases q:h.get? b with
 | none=>rw [q] at e;cases e
 | some o=>
  rw [q] at e;have b5:(b,o)=p:=dZ e;subst b5;exact ⟨af,q⟩
theorem Inv.pinned (J:Inv X ae σ H s) (hf:∀ b ∈ bP,h_ X ae H b) (aX:∀ b ∈ bP,∃ o,s.heap.get? b=some o/\∀ v,o.data ≠ .cell v):Inv X (ae ++ vV bP s.heap) σ H s:=
 J.uK fun p aw=>(r7.mp aw).elim (fun z=>J.pin p (nL _ z)) fun z=>by
  obtain ⟨af,e⟩:=WB z;obtain ⟨f0,f1,f2,_⟩:=hf p.1 af;obtain ⟨o,b5,d⟩:=aX p.1 af;rw [e] at b5;cases b5;exact ⟨e,f0,f1,f2,d⟩
theorem Inv.x8 (J:Inv X (ae ++ pl) σ H s):Inv X ae σ H s:=J.uK fun p aw=>J.pin p (nL _ (aag _ aw))
theorem fN (aw:PassesOwn (model X.prog X.w) X.A X.env X.dj) (aq:X.calm=true) (ak:k4 X cH iter hr) (a9:ll X cH g) (af:ij X body cB)
  (aC:∀ x,foldedSetIterable iter X.env x=pure x:=by intro _;rfl):gS X (.For cH iter body [] pos) (Pq hr g cB):=by
 intro ae s σ H D J h;refine wpAny_For (bM (ak ae s σ H _ J h) fun v s1 ag=>bM ag fun yR s2 ar=>?_) aC;obtain ⟨it,bP,gL,cE,az,e,bX,T,oD,f2,W,⟨m0,mQ⟩,turn⟩:=ar;subst e;have stat:∀ {I:ah},(∀ b ∈ bP,I b=none)->∀ b ∈ bP,h_ X ae I b:=fun a0 b af=>⟨a0 b af,(f2 b af).2⟩
 refine codeAny_forLoop_any (fun n aO=>∃ i aQ I,Inv X ae aQ I aO/\gL i aO.heap/\(∀ b ∈ bP,I b=none)/\W i n aQ I) ?_ m0 ⟨0,σ,az,bX,oD,fun b af=>(f2 b af).1,mQ⟩;rintro n s3 ⟨i,lD,cj,gH,KA,N',iP⟩;rcases turn i n lD cj iP with ⟨stop,D4⟩ | ⟨go,N,bl,step⟩
 .refine wpAny_passesOwn aw (bM (T.done X rfl rfl rfl aq i ae s3 lD cj X.dj gH (stat N') KA stop) fun r s4 ct=>?_);obtain ⟨aj,gO⟩:=ct;subst aj;exact wpAny_execs_nil ⟨lD,cj,gO,D4⟩
 .refine wpAny_passesOwn aw (bM (T.item X rfl rfl rfl aq i ae s3 lD cj X.dj gH (stat N') KA go) fun r s4 ct=>?_);obtain ⟨u,aj,cb⟩:=ct;subst aj;refine wpAny_passesOwn aw (bM cb fun _ s5 ct=>?_);obtain ⟨x,dV,t9,Fe,GR,qu,FI⟩:=ct;have E3:=t9.pinned (stat FI) (T.obj _ _ qu);refine wpAny_passesOwn aw (bM (a9 _ s5 lD dV x u _ E3 Fe (step x dV GR)) fun _ gx ct=>?_);obtain ⟨nq,ib,IT,Gg⟩:=ct;refine wpAny_passesOwn aw (bM (af _ gx nq ib _ IT Gg) fun f eT k3=>?_);have again:∀ {jb:St} {gC:ah},Inv X (ae ++ vV bP s5.heap) jb gC eT->N jb gC->∃ m,m < n/\∃ i aQ I,Inv X ae aQ I eT/\gL i eT.heap/\(∀ b ∈ bP,I b=none)/\W i m aQ I:=fun {jb gC} jq iQ=>by
   obtain ⟨dF,hm,kJ⟩:=bl jb gC iQ;refine ⟨dF,hm,i + 1,jb,gC,jq.x8,T.keep _ _ _ qu fun b af o e=>(jq.pin (b,o) (nL _ (nL _ (yC af e)))).1,fun b af=>?_,kJ⟩;obtain ⟨o,e,d⟩:=T.obj _ _ qu b af;exact (jq.pin (b,o) (nL _ (nL _ (yC af e)))).2.1
  cases f with
  | next=>obtain ⟨jb,gC,jq,iQ⟩:=k3;exact again jq iQ
  | cont=>obtain ⟨jb,gC,jq,iQ⟩:=k3;exact again jq iQ
  | brk=>obtain ⟨jb,gC,jq,k3⟩:=k3;exact ⟨jb,gC,jq.x8,k3⟩
  | ret v=>obtain ⟨hi,jb,gC,jq,ack,k3⟩:=k3;exact ⟨hi,jb,gC,jq.x8,ack,k3⟩
end
theorem aeC {K:a'} {a:Addr} {xs:List V} {g:fS} {cB:en} {D:gu} {σ:St} {H:ah} (Pv:Nat->St->ah->Prop) (h0:Pv 0 σ H) (aB:∀ i σ H,i <= xs.length->Pv i σ H->aH K H a xs)
  (aC:∀ i x σ H,xs[i]? = some x->Pv i σ H->g x σ H fun c5 az=>cB { D with cF:=Pv (i + 1),e1:=Pv (i + 1),bw:=D.cF } c5 az) (hd:∀ σ H,Pv xs.length σ H->D.cF σ H) :
  ∃ W:Nat->Nat->St->ah->Prop,(∃ m,W 0 m σ H)/\∀ i m σ H,W i m σ H ->
   ((mE K a).stop i H/\D.cF σ H)\/((mE K a).go i H/\∃ N:St->ah->Prop,(∀ aQ I,N aQ I->∃ dF,dF < m/\W (i + 1) dF aQ I)/\∀ x I,(mE K a).oy i H x I->g x σ I fun c5 az=>cB { D with cF:=N,e1:=N,bw:=D.cF } c5 az):=by
 refine ⟨fun i m σ H=>m=xs.length - i/\i <= xs.length/\Pv i σ H,⟨xs.length,by simp,gi _,h0⟩,?_⟩;rintro i m σ H ⟨rfl,ak,p⟩;have q:=aB i σ H ak p;by_cases cL:i < xs.length
 .refine .inr ⟨⟨xs,xs[i],q,by simp [cL]⟩,Pv (i + 1),fun aQ I uf=>⟨xs.length - (i + 1),by omega,rfl,cL,uf⟩,fun x I y=>?_⟩;obtain ⟨e,y⟩:=y;subst e;exact aC i x σ _ (y xs q) p
 .have e:i=xs.length:=by omega
  subst e;exact .inl ⟨⟨xs,q,bW _⟩,hd σ H p⟩
theorem aeU {lo:Int} {n:Nat} {g:fS} {cB:en} {D:gu} {σ:St} {H:ah} (Pv:Nat->St->ah->Prop) (h0:Pv 0 σ H)
  (aC:∀ i σ H,i < n->Pv i σ H->g (.int (lo + i)) σ H fun c5 az=>cB { D with cF:=Pv (i + 1),e1:=Pv (i + 1),bw:=D.cF } c5 az) (hd:∀ σ H,Pv n σ H->D.cF σ H) :
  ∃ W:Nat->Nat->St->ah->Prop,(∃ m,W 0 m σ H)/\∀ i m σ H,W i m σ H ->
   ((lA lo n).stop i H/\D.cF σ H)\/((lA lo n).go i H/\∃ N:St->ah->Prop,(∀ aQ I,N aQ I->∃ dF,dF < m/\W (i + 1) dF aQ I)/\∀ x I,(lA lo n).oy i H x I->g x σ I fun c5 az=>cB { D with cF:=N,e1:=N,bw:=D.cF } c5 az):=by
 refine ⟨fun i m σ H=>m=n - i/\i <= n/\Pv i σ H,⟨n,by simp,gi _,h0⟩,?_⟩;rintro i m σ H ⟨rfl,ak,p⟩;by_cases cL:i < n
 .refine .inr ⟨cL,Pv (i + 1),fun aQ I uf=>⟨n - (i + 1),by omega,rfl,cL,uf⟩,fun x I y=>?_⟩;obtain ⟨e,y⟩:=y;subst e y;exact aC i σ _ cL p
 .have e:i=n:=by omega
  subst e;exact .inl ⟨bW _,hd σ H p⟩
noncomputable abbrev fV:=V->V->ah->cm->Prop
noncomputable def gE (X:a6) (f:Value->Value->Sem Value) (r:fV):Prop:=
 ∀ (ae:List (Addr × Obj)) (s:Shared) (σ:St) (H:ah) (x y:V) (v u:Value) (Q:cm),Inv X ae σ H s->bx x v->bx y u->r x y H Q ->
  wpAny (model X.prog X.w) X.A (f v u) (gs X ae σ Q) X.dj s
noncomputable def Ex (X:a6) (f:Value->Sem Value) (r:V->ah->cm->Prop):Prop:=
 ∀ (ae:List (Addr × Obj)) (s:Shared) (σ:St) (H:ah) (x:V) (v:Value) (Q:cm),Inv X ae σ H s->bx x v->r x H Q ->
  wpAny (model X.prog X.w) X.A (f v) (gs X ae σ Q) X.dj s
noncomputable def mw (X:a6) (f:Value) (r:List V->ah->cm->Prop):Prop:=
 ∀ (ae:List (Addr × Obj)) (s:Shared) (σ:St) (H:ah) (xs:List V) (us:List Value) (Q:cm),Inv X ae σ H s->bS xs us->r xs H Q ->
  wpAny (model X.prog X.w) X.A (call f us) (gs X ae σ Q) X.dj s
noncomputable def YX (X:a6) (r:V->ah->(Bool->ah->Prop)->Prop):Prop:=
 ∀ (ae:List (Addr × Obj)) (s:Shared) (σ:St) (H:ah) (x:V) (v:Value) (Q:Bool->ah->Prop),Inv X ae σ H s->bx x v->r x H Q ->
  wpAny (model X.prog X.w) X.A (truthy v) (yM X ae σ Q) X.dj s
noncomputable def pw (r:fV) (aZ cB:TE):TE:=fun σ H Q=>aZ σ H fun x H1=>cB σ H1 fun y az=>r x y az Q
noncomputable def EN (r:V->ah->cm->Prop) (aZ:TE):TE:=fun σ H Q=>aZ σ H fun x H1=>r x H1 Q
noncomputable def rI (C:Int->Int->Prop) (g:Int->Int->V):fV:=fun x y H Q=>fb x fun i=>fb y fun j=>C i j/\Q (g i j) H
noncomputable def nB (g:Int->Int->V):fV:=fun x y H Q=>fb x fun i=>fb y fun j=>Q (g i j) H
noncomputable def yy (g:Int->V):V->ah->cm->Prop:=fun x H Q=>fb x fun i=>Q (g i) H
section
variable {X:a6} {a b c:Expr} {aZ cB c2:TE} {pos:Pos}
theorem E2 (aS:bD X a aZ) (af:bD X b cB) {ae:List (Addr × Obj)} {s:Shared} {σ:St} {H:ah} {R:V->V->ah->Prop} (J:Inv X ae σ H s)
  (h:aZ σ H fun x H1=>cB σ H1 fun y az=>R x y az) {Q:Value->Shared->Prop} {f:Value->Value->Sem Value}
  (hf:∀ v u s2 x y az,Inv X ae σ az s2->bx x v->bx y u->R x y az->wpAny (model X.prog X.w) X.A (f v u) Q X.dj s2) :
  wpAny (model X.prog X.w) X.A (eval a X.env) (fun v cN=>wpAny (model X.prog X.w) X.A (eval b X.env) (fun u df=>wpAny (model X.prog X.w) X.A (f v u) Q X.dj df) X.dj cN) X.dj s:=by
 refine bM (aS ae s σ H _ J h) fun v s1 b7=>d2 b7 fun x H1 aY bO bQ=>?_
 refine bM (af ae s1 σ H1 _ aY bQ) fun u s2 b7=>d2 b7 fun y az bX dn eK=>?_
 exact hf v u s2 x y az bX bO dn eK
theorem Db {op:Operator} {r:fV} (aX:gE X (binaryOp op) r) (aS:bD X a aZ) (af:bD X b cB):bD X (.BinOp a op b pos) (pw r aZ cB):=by
 intro ae s σ H Q J h;exact wpAny_BinOp (E2 aS af J h fun v u s2 x y az bX bp bH q=>aX ae s2 σ az x y v u Q bX bp bH q)
theorem P_ (aX:Ex X (unaryOp op) r) (aS:bD X a aZ):bD X (.UnaryOp op a pos) (EN r aZ):=by
 intro ae s σ H Q J h;exact UnaryOp_ (bM (aS ae s σ H _ J h) fun v s1 b7=>d2 b7 fun x H1 aY bO bQ=>aX ae s1 σ H1 x v Q aY bO bQ)
theorem C8 {f:Value->Value->Sem Value} {C:Int->Int->Prop} {g:Int->Int->Int}
  (rule:∀ (i j:Int) (t u:Tok) (s:Shared) (Q:Value->Shared->Prop) (E:Value->Shared->Prop),C i j->Q (.int (g i j) s.toks) { s with toks:=s.toks + 1 }->wpAny (model X.prog X.w) X.A (f (.int i t) (.int j u)) Q E s) :
  gE X f (rI C fun i j=>.int (g i j)):=by
 intro ae s σ H x y v u Q J bp bH h;obtain ⟨i,rfl,fM⟩:=fb.out h;obtain ⟨j,rfl,aq,q⟩:=fb.out fM;obtain ⟨t,rfl⟩:=bp;obtain ⟨t',rfl⟩:=bH;exact rule i j t t' s _ _ aq ⟨.int (g i j),H,J.tok _,⟨_,rfl⟩,q⟩
theorem QH {f:Value->Value->Sem Value} {g:Int->Int->Int}
  (rule:∀ (i j:Int) (t u:Tok) (s:Shared) (Q:Value->Shared->Prop) (E:Value->Shared->Prop),Q (.int (g i j) s.toks) { s with toks:=s.toks + 1 }->wpAny (model X.prog X.w) X.A (f (.int i t) (.int j u)) Q E s) :
  gE X f (nB fun i j=>.int (g i j)):=by
 intro ae s σ H x y v u Q J bp bH h;obtain ⟨i,rfl,fM⟩:=fb.out h;obtain ⟨j,rfl,q⟩:=fb.out fM;obtain ⟨t,rfl⟩:=bp;obtain ⟨t',rfl⟩:=bH;exact rule i j t t' s _ _ ⟨.int (g i j),H,J.tok _,⟨_,rfl⟩,q⟩
theorem B7 {f:Value->Value->Sem Value} {g:Int->Int->Bool}
  (rule:∀ (i j:Int) (t u:Tok) (s:Shared) (Q:Value->Shared->Prop) (E:Value->Shared->Prop),Q (.bool (g i j)) s->wpAny (model X.prog X.w) X.A (f (.int i t) (.int j u)) Q E s) :
  gE X f (nB fun i j=>.bk (g i j)):=by
 intro ae s σ H x y v u Q J bp bH h;obtain ⟨i,rfl,fM⟩:=fb.out h;obtain ⟨j,rfl,q⟩:=fb.out fM;obtain ⟨t,rfl⟩:=bp;obtain ⟨t',rfl⟩:=bH;exact rule i j t t' s _ _ ⟨.bk (g i j),H,J,rfl,q⟩
noncomputable def Qa (i j:Int):Prop:=0 <= j/\j <= 1000000/\i.natAbs < 2 ^ 64
noncomputable def oo (i j:Int):Prop:=(-(2 ^ 64) < i/\i < 2 ^ 64)\/(-(2 ^ 64) < j/\j < 2 ^ 64)
theorem oo.ok (h:oo i j):IntMulOk i j:=by
 rcases h with ⟨ag,ar⟩ | ⟨ag,ar⟩
 .exact .of_left (intBits_le_64 ag ar)
 .exact .of_right (intBits_le_64 ag ar)
theorem cO:gE X (binaryOp .Add) (nB fun i j=>.int (i + j)):=QH fun _ _ _ _ _ _ _ q=>add_int q
theorem ol:gE X (binaryOp .Sub) (nB fun i j=>.int (i - j)):=QH fun _ _ _ _ _ _ _ q=>sub_int q
theorem hW:gE X (binaryOp .Mult) (rI oo fun i j=>.int (i * j)):=C8 fun _ _ _ _ _ _ _ aq q=>mul_int q aq.ok
theorem gz:gE X (binaryOp .Mod) (rI (fun _ j=>0 < j) fun i j=>.int (i % j)):=C8 fun i j _ _ _ _ _ aq q=>by
 have ag:(0:Int) < j:=aq;exact mod_int' (by omega) (by rw [Int.fmod_eq_emod_of_nonneg i (by omega)];exact q)
theorem UH:gE X (binaryOp .Pow) (rI Qa fun i j=>.int (i ^ j.toNat)):=C8 fun _ _ _ _ _ _ _ aq q=>pow_int_small aq.1 aq.2.1 aq.2.2 q
theorem R4 {f:Value->Sem Value} {g:Int->Int}
  (rule:∀ (i:Int) (t:Tok) (s:Shared) (Q:Value->Shared->Prop) (E:Value->Shared->Prop),Q (.int (g i) s.toks) { s with toks:=s.toks + 1 }->wpAny (model X.prog X.w) X.A (f (.int i t)) Q E s) :
  Ex X f (yy fun i=>.int (g i)):=by
 intro ae s σ H x v Q J bp h;obtain ⟨i,rfl,q⟩:=fb.out h;obtain ⟨t,rfl⟩:=bp;exact rule i t s _ _ ⟨.int (g i),H,J.tok _,⟨_,rfl⟩,q⟩
theorem Pf:Ex X (unaryOp .USub) (yy fun i=>.int (-i)):=R4 fun _ _ _ _ _ q=>neg_int q
end
noncomputable def Hb:V->V->Bool
 | .b4,.b4=>true | .b4,.int _=>true | .int _,.b4=>true | .b4,.bk _=>true | .bk _,.b4=>true | .b4,.str _=>true | .str _,.b4=>true
 | .int _,.int _=>true | .bk _,.bk _=>true | .str _,.str _=>true | .jB _,.jB _=>true
 | .int _,.str _=>true | .str _,.int _=>true | .bk _,.str _=>true | .str _,.bk _=>true
 | _,_=>false
noncomputable def E5:fV:=fun x y H Q=>Hb x y=true/\Q (.bk (decide (x=y))) H
noncomputable def Hs:fV:=fun x y H Q=>Hb x y=true/\Q (.bk (!decide (x=y))) H
theorem Ph:decide (V.int i=V.int j)=(i == j):=by
 rw [nP];simp
theorem M_:decide (V.bk i=V.bk j)=(i == j):=by
 rw [nP];simp
theorem Qj:decide (V.str i=V.str j)=(i == j):=by
 rw [nP];simp
theorem PD:decide (V.jB i=V.jB j)=(i.toList == j.toList):=by
 rw [nP];cases i;cases j;simp
section
variable {X:a6} {a b c:Expr} {aZ cB c2:TE} {pos:Pos}
theorem eD {k Ji:Bool} (J:Inv X ae σ H s) (q:Q (.bk k) H) (e:k=Ji):gs X ae σ Q (.bool Ji) s:=by
 subst e;exact ⟨.bk k,H,J,rfl,q⟩
theorem dE:gE X (compareOp .Eq) E5:=by
 intro ae s σ H x y v u Q J bp bH h;obtain ⟨aC,q⟩:=h;cases x with
 | b4=>
  cases bp;cases y with
  | b4=>cases bH;exact aij (eD J q (by simp))
  | bk j=>cases bH;exact ahz (eD J q (by simp))
  | int j=>obtain ⟨t',rfl⟩:=bH;exact agO (eD J q (by simp))
  | str j=>obtain ⟨t',rfl⟩:=bH;exact agD (eD J q (by simp))
  | _=>exact absurd (show false=true from aC) gp
 | bk i=>
  cases bp;cases y with
  | b4=>cases bH;exact ahQ (eD J q (by simp))
  | bk j=>cases bH;exact eq_bool (eD J q M_)
  | str j=>obtain ⟨t',rfl⟩:=bH;exact aib (eD J q (by simp))
  | _=>exact absurd (show false=true from aC) gp
 | int i=>
  obtain ⟨t,rfl⟩:=bp;cases y with
  | b4=>cases bH;exact agV (eD J q (by simp))
  | int j=>obtain ⟨t',rfl⟩:=bH;exact eq_int (eD J q Ph)
  | str j=>obtain ⟨t',rfl⟩:=bH;exact ahJ (eD J q (by simp))
  | _=>exact absurd (show false=true from aC) gp
 | str i=>
  obtain ⟨t,rfl⟩:=bp;cases y with
  | b4=>cases bH;exact agE (eD J q (by simp))
  | bk j=>cases bH;exact ah3 (eD J q (by simp))
  | int j=>obtain ⟨t',rfl⟩:=bH;exact aiB (eD J q (by simp))
  | str j=>obtain ⟨t',rfl⟩:=bH;exact eq_str (eD J q Qj)
  | _=>exact absurd (show false=true from aC) gp
 | jB i=>
  obtain ⟨t,rfl⟩:=bp;cases y with
  | jB j=>obtain ⟨t',rfl⟩:=bH;exact PySem.W.eq_bytes (eD J q PD)
  | _=>exact absurd (show false=true from aC) gp
 | _=>cases y <;> exact absurd (show false=true from aC) gp
theorem jj:gE X (compareOp .NotEq) Hs:=by
 intro ae s σ H x y v u Q J bp bH h;obtain ⟨aC,q⟩:=h;cases x with
 | b4=>
  cases bp;cases y with
  | b4=>cases bH;exact ail (eD J q (by simp))
  | bk j=>cases bH;exact ahc (eD J q (by simp))
  | int j=>obtain ⟨t',rfl⟩:=bH;exact agM (eD J q (by simp))
  | str j=>obtain ⟨t',rfl⟩:=bH;exact aho (eD J q (by simp))
  | _=>exact absurd (show false=true from aC) gp
 | bk i=>
  cases bp;cases y with
  | b4=>cases bH;exact aiV (eD J q (by simp))
  | bk j=>cases bH;exact ne_bool (eD J q (congrArg not M_))
  | str j=>obtain ⟨t',rfl⟩:=bH;exact aiQ (eD J q (by simp))
  | _=>exact absurd (show false=true from aC) gp
 | int i=>
  obtain ⟨t,rfl⟩:=bp;cases y with
  | b4=>cases bH;exact ah6 (eD J q (by simp))
  | int j=>obtain ⟨t',rfl⟩:=bH;exact ne_int (eD J q (congrArg not Ph))
  | str j=>obtain ⟨t',rfl⟩:=bH;exact agu (eD J q (by simp))
  | _=>exact absurd (show false=true from aC) gp
 | str i=>
  obtain ⟨t,rfl⟩:=bp;cases y with
  | b4=>cases bH;exact agU (eD J q (by simp))
  | bk j=>cases bH;exact aiu (eD J q (by simp))
  | int j=>obtain ⟨t',rfl⟩:=bH;exact ahZ (eD J q (by simp))
  | str j=>obtain ⟨t',rfl⟩:=bH;exact ne_str (eD J q (congrArg not Qj))
  | _=>exact absurd (show false=true from aC) gp
 | jB i=>
  obtain ⟨t,rfl⟩:=bp;cases y with
  | jB j=>obtain ⟨t',rfl⟩:=bH;exact PySem.W.ne_bytes (eD J q (congrArg not PD))
  | _=>exact absurd (show false=true from aC) gp
 | _=>cases y <;> exact absurd (show false=true from aC) gp
theorem oO:gE X (compareOp .Lt) (nB fun i j=>.bk (decide (i < j))):=B7 fun _ _ _ _ _ _ _ q=>lt_int q
theorem RD:gE X (compareOp .LtE) (nB fun i j=>.bk (decide (i <= j))):=B7 fun _ _ _ _ _ _ _ q=>le_int q
theorem zL:gE X (compareOp .Gt) (nB fun i j=>.bk (decide (j < i))):=B7 fun _ _ _ _ _ _ _ q=>gt_int q
theorem afq:gE X (compareOp .In) (fun x y H Q=>∃ i j,x=.str i/\y=.str j/\Q (.bk (!(lb j i 0 j.length 1).isEmpty)) H):=by
 intro ae s σ H x y v u Q J bp bH h;obtain ⟨i,j,rfl,rfl,q⟩:=h;obtain ⟨t,rfl⟩:=bp;obtain ⟨t',rfl⟩:=bH;exact in_str (eD J q rfl)
theorem KS:gE X (compareOp .IsNot) (fun x y H Q=>y=.b4/\Q (.bk (!decide (x=.b4))) H):=by
 intro ae s σ H x y v u Q J bp bH h;obtain ⟨rfl,q⟩:=h;cases bH;refine isnot_none_gen (eD J q ?_);cases x <;> first
  | (cases bp;rfl)
  | (obtain ⟨t,rfl⟩:=bp;rfl)
theorem cc (b:Expr) (h:op ≠ .In:=by decide) (ar:op ≠ .NotIn:=by decide):behindInMarks op b=false:=by
 have ax:(op == CmpOp.In)=false:=by cases op <;> first | rfl | exact absurd rfl h
 have aD:(op == RA)=false:=by cases op <;> first | rfl | exact absurd rfl ar
 cases b <;> simp [behindInMarks,ax,aD]
theorem hb (aX:gE X (compareOp op) r) (aS:bD X a aZ) (af:bD X b cB) (hm:behindInMarks op b=false):bD X (.Compare a [op] [b] pos) (pw r aZ cB):=by
 intro ae s σ H Q J h;exact wpAny_Compare1 (E2 aS af J h fun v u s2 x y az bX bp bH q=>aX ae s2 σ az x y v u Q bX bp bH q) hm
noncomputable def EH (t:TE):TT:=fun σ H Q=>t σ H fun x I=>jF x fun k=>Q k I
theorem cy (aX:gE X (compareOp op) r) (aS:bD X a aZ) (af:bD X b cB) (hm:behindInMarks op b=false):hN X (.Compare a [op] [b] pos) (EH (pw r aZ cB)):=by
 intro ae s σ H Q J h;refine wpAny_isTrue_Compare1 (bM (aS ae s σ H _ J h) fun v s1 b7=>d2 b7 fun x H1 aY bO bQ=>bM (af ae s1 σ H1 _ aY bQ) fun u s2 ⟨y,az,bX,dn,eK⟩=>
  bM (aX ae s2 σ az x y v u _ bX bO dn eK) fun c s3 b7=>d2 b7 fun z cj gH j6 gq=>?_) hm
 obtain ⟨k,e,kT⟩:=jF.out gq;subst e;cases j6;exact wpAny_truthy_bool ⟨cj,gH,kT⟩
noncomputable def PT (K:a') (x:V) (H:ah) (k:Bool):Prop:=
 match x with
 | .b4=>k=false
 | .bk b=>k=b
 | .int i=>k=(i != 0)
 | .str y=>y.length <= sizeLine/\k=((y.length:Int) != 0)
 | .jB y=>y.size <= sizeLine/\k=((y.size:Int) != 0)
 | .ref p=>(∃ xs,aH K H p xs/\k = !xs.isEmpty)\/(∃ xs,cU K H p xs/\k = !xs.isEmpty)\/∃ kvs,H p=some (.bV kvs)/\k = !kvs.isEmpty
 | _=>False
theorem NE (r:fx kvs vs):(!vs.isEmpty) = !kvs.isEmpty:=by
 cases r <;> rfl
theorem Js {aV:List Value} (r:bS xs aV):(!aV.toArray.isEmpty) = !xs.isEmpty:=by
 cases r <;> simp
theorem qz:(sizeLine:Nat) < 2 ^ 63:=by rw [sizeLine_eq];decide
theorem Td:YX X (fun x H Q=>∃ k,PT X.K x H k/\Q k H):=by
 intro ae s σ H x v Q J bp h;obtain ⟨k,e,q⟩:=h;have aB:=qz;have aC:sizeLine=16777216:=sizeLine_eq;cases x with
 | b4=>
  cases bp;have b5:k=false:=e;subst b5;exact truthy_none ⟨H,J,q⟩
 | bk b=>
  cases bp;have b5:k=b:=e;subst b5;exact wpAny_truthy_bool ⟨H,J,q⟩
 | int i=>
  obtain ⟨t,rfl⟩:=bp;have b5:k=(i != 0):=e;subst b5;exact PySem.P.truthy_int ⟨H,J,q⟩
 | str y=>
  obtain ⟨t,rfl⟩:=bp;obtain ⟨bj,b5⟩:y.length <= sizeLine/\k=((y.length:Int) != 0):=e;subst b5;exact PySem.P.truthy_str (by omega) ⟨H,J.tok _,q⟩
 | jB y=>
  obtain ⟨t,rfl⟩:=bp;obtain ⟨bj,b5⟩:y.size <= sizeLine/\k=((y.size:Int) != 0):=e;subst b5;exact PySem.W.truthy_bytes (by omega) ⟨H,J.tok _,q⟩
 | ref p=>
  cases bp;have b5:(∃ xs,aH X.K H p xs/\k = !xs.isEmpty)\/(∃ xs,cU X.K H p xs/\k = !xs.isEmpty)\/∃ kvs,H p=some (.bV kvs)/\k = !kvs.isEmpty:=e;rcases b5 with ⟨xs,ao,b5⟩ | ⟨xs,ao,b5⟩ | ⟨kvs,ao,b5⟩
  .subst b5;obtain ⟨aV,r,pl,ay⟩:=J.list ao;have hlen:=r.length;exact wpAny_truthy_list pl.isList (by simp only [eR];omega) ⟨H,J.tok _,by rw [Js r];exact q⟩
  .subst b5;obtain ⟨aV,r,pl,ay⟩:=J.tuple ao;have hlen:=r.length;exact truthy_tuple pl (by simp only [eR];omega) ⟨H,J.tok _,by rw [Js r];exact q⟩
  .subst b5;obtain ⟨ay,fi,vs,r,m⟩:kvs.length <= sizeLine/\(p == sysModules)=false/\∃ vs,fx kvs vs/\s.heap.DictOf (hy X.prog X.w) p vs:=J.bz p _ ao;have hlen:kvs.length=vs.length:=Hk r;exact wpAny_truthy_dict fi m (by omega) ⟨H,J.tok _,by rw [NE r];exact q⟩
 | _=>exact (show False from e).elim
theorem EO (aS:bD X a aZ) (he:∀ whole,isTrue a X.env whole=(do let v <- whole;standAt a.pos;holding [v] (truthy v))) :
  hN X a (fun σ H Q=>aZ σ H fun x I=>∃ k,PT X.K x I k/\Q k I):=by
 intro ae s σ H Q J h;exact isTrue_plain (bM (aS ae s σ H _ J h) fun v s1 b7=>d2 b7 fun x H1 aY bO bQ=>Td ae s1 σ H1 x v Q aY bO bQ) (he _)
theorem cS:gE X (binaryOp .Add) (fun x y H Q=>∃ i j,x=.str i/\y=.str j/\i.length + j.length <= sizeLine/\Q (.str (i ++ j)) H):=by
 intro ae s σ H x y v u Q J bp bH h;obtain ⟨i,j,rfl,rfl,ay,q⟩:=h;obtain ⟨t,rfl⟩:=bp;obtain ⟨t',rfl⟩:=bH;exact add_str (fun t' cY=>⟨.str (i ++ j),H,J.tok _,⟨_,rfl⟩,q⟩) ay
theorem ks {x:V} (r:bS [x] us):∃ u,us=[u]/\bx x u:=by
 cases r with
 | cons bO dn=>cases dn;exact ⟨_,rfl,bO⟩
theorem aaO {x y:V} (r:bS [x,y] us):∃ u hl,us=[u,hl]/\bx x u/\bx y hl:=by
 cases r with
 | cons bO dn=>
  cases dn with
  | cons j6 vT=>cases vT;exact ⟨_,_,rfl,bO,j6⟩
theorem Uz (aq:X.calm=true):mw X (.builtin "max") (fun xs H Q=>∃ i j,xs=[.int i,.int j]/\Q (.int (if j > i then j else i)) H):=by
 intro ae s σ H xs us Q J r h;obtain ⟨i,j,rfl,q⟩:=h;obtain ⟨u,hl,rfl,⟨t,rfl⟩,⟨t',rfl⟩⟩:=aaO r;refine max_two_ints (J.ok.hd aq) fun h' cY k=>⟨_,H,J.kept k,?_,q⟩
 by_cases bb:j > i
 .rw [if_pos bb,if_pos bb];exact ⟨_,rfl⟩
 .rw [if_neg bb,if_neg bb];exact ⟨_,rfl⟩
theorem i9:mw X (.type "str") (fun xs H Q=>∃ i,xs=[.int i]/\i.natAbs.log2 < 1920/\Q (.str (toString i)) H):=by
 intro ae s σ H xs us Q J r h;obtain ⟨i,rfl,ay,q⟩:=h;obtain ⟨u,rfl,t,rfl⟩:=ks r;exact PySem.P.str_of_int ay ⟨.str _,H,J.tok _,⟨_,rfl⟩,q⟩
end
structure qf (h:Heap) (x av C:Addr) (d0:Str->Option Value):Prop where
 obj:h.get? x=some (p3 C av)
 ns:h.Ns1 av d0
 ne:av ≠ x
theorem aaq {h:Heap} (n:h.Ns1 av d0):∃ ez,h.get? av=some ez/\∀ name,Ei name ez=some (d0 name):=by
 obtain ⟨o,aL,cC,aX,hd,aI,_,hm⟩:=n;refine ⟨o,aX,fun name=>?_⟩;have e:=hm name;unfold nsFind findBy at e;rw [<- Array.find?_toList] at e;unfold Ei;rw [hd];dsimp only;split
 .rename_i y q;rw [q] at e;exact congrArg some e
 .rename_i q;rw [q] at e;have a:aL.toList.any (·.refKey)=false:=by
   rw [Hv];intro y bj;obtain ⟨z,t,DX⟩:=aI y (Ws.mp bj);simp [DictEntry.refKey,DX]
  have hq:¬ aL.toList.any (·.refKey)=true:=by rw [a];exact gp
  rw [if_neg hq];exact congrArg some e
theorem qf.look {h:Heap} {x av C:Addr} (J:qf h x av C d0):∃ ez,PySem.W.InstAt h x (p3 C av) C (some ez)/\∀ name,Ei name ez=some (d0 name):=
 let ⟨ez,aX,aB⟩:=aaq J.ns
 ⟨ez,⟨J.obj,rfl,rfl,aX⟩,aB⟩
section
variable {prog:Program} {w:World} {A:Around} {E:Value->Shared->Prop} {s:Shared} {K:a'} {x av C f:Addr} {d0:Str->Option Value} {name:Str} {v:Value}
theorem R_ (X:K.In s.heap) (J:qf s.heap x av C d0) (a9:GL K C name=true) (e':AX K C=true)
  (aS:dg K (.ref C) name=some none) (aK:d0 name=some v) (qB:adp v=true) (h:Q v { s with toks:=s.toks + 1 }) :
  wpAny (model prog w) A (getAttr (.ref x) name expr) Q E s:=by
 obtain ⟨ez,cE,aB⟩:=J.look;exact PySem.W.get_value X cE (Jo a9).1 (PySem.W.findObj_own e' aS rfl (by rw [aB,aK])) qB h
theorem SY (X:K.In s.heap) (J:qf s.heap x av C d0) (a9:GL K C name=true)
  (hf:dg K (.ref C) name=some (some (.ref f))) (c_:Ls K (.ref f)=true) (aK:d0 name=none) (h:Q (.ref f,[.ref x]) s) :
  wpAny (model prog w) A (getMethod (.ref x) name pl) Q E s:=by
 obtain ⟨ez,cE,aB⟩:=J.look;exact PySem.W.method_fn X cE (Jo a9).1 (Jo a9).2 hf (beq_iff_eq.mp c_) (by show (Ei name ez).map (·.isSome)=some false;rw [aB,aK];rfl) h
theorem adT {ns:List Str} (X:K.In s.heap) (J:qf s.heap x av C d0)
  (aC:dg K (.ref C) "__setattr__"=some (some (.builtin "object.__setattr__"))) (aw:afr K C=true) (c_:Nl K C name=some none) (e':AX K C=true)
  (hw:Pd d0 ns) (hsz:ns.length <= sizeLine)
  (h:∀ h',qf h' x av C (fun y=>if y=name then some v else d0 y)->sG av s.heap h'->Q () { s with heap:=h',toks:=s.toks + 2 }) :
  wpAny (model prog w) A (setAttr (.ref x) name v) Q E s:=by
 obtain ⟨ez,cE,aB⟩:=J.look;refine PySem.W.set_plain X cE aC (PySem.W.osa_open (s:={ s with toks:=s.toks + 1 }) (r:=none) X cE aw c_ fun b=>?_);obtain ⟨cd,aq,sI⟩:=PySem.W.any_some e';have ao:s.heap.get? x=some ⟨.ref C,some av,.plain,#[]⟩:=J.obj;refine wpAny_bind (wpAny_pure (wpAny_bind (wpAny_bind (wpAny_loadPart ao (wpAny_bind (ahr (s:={ s with toks:=s.toks + 1 }) (PySem.W.looks_clsIn X aq) ?_))))));rw [sI];refine wpAny_pure (a:=some av) (wpAny_bind (wpAny_pure (wpAny_bind ?_)));refine wpAny_nsSet1 (s:={ s with toks:=s.toks + 1 }) J.ns fun h' qX gc=>?_
 obtain ⟨ahf,ah8,agR,V3,aeP,adB⟩:=qX.count (aii name v hw);refine wpAny_bind (wpAny_lookBehind V3 (by rw [aeP];exact pastItsLine_dict (cp adB (by rw [fp];omega))) ?_);exact wpAny_pure (h _ ⟨(gc.2 _ (eY J.ne)).trans J.obj,qX,J.ne⟩ gc)
theorem TH (X:K.In s.heap) (hm:ad4 K C=true)
  (ak:dg K (.ref C) "__init__"=some (some (.ref f))) (hf:YR K (.ref f)=some (.type "function"))
  (h:codeAny (model prog w) (A.under (.builtin "type.__call__" ⟨.ref C :: vs,kw⟩)) (.call (.ref f) ⟨.ref (s.heap.objs.size + 1) :: vs,kw⟩) (PySem.W.InitBack (s.heap.objs.size + 1) R)
   { s with heap:=(s.heap.push n2).push (p3 C s.heap.objs.size) }) :
  codeAny (model prog w) A (.call (.ref C) ⟨vs,kw⟩) R s:=by
 obtain ⟨e',g,d,t,os⟩:=s;exact PySem.W.make_core (PySem.W.makes_of X hm) (PySem.W.looks_findIn X ak) (fun self=>PySem.W.bind_fn X self hf) (.inl rfl) h
end
noncomputable def dk (f:Str) (v:V):List (Str × V)->List (Str × V)
 | []=>[(f,v)]
 | (g,x) :: r=>if g=f then (g,v) :: r else (g,x) :: dk f v r
theorem L3 (f g:Str) (v:V):∀ a_:List (Str × V),(dk f v a_).lookup g=if g=f then some v else a_.lookup g
 | []=>by
  show mS g [(f,v)]=_;by_cases h:g=f
  .have af:(g == f)=true:=beq_iff_eq.mpr h;simp only [mS,af,if_pos h]
  .have af:(g == f)=false:=beq_eq_false_iff_ne.mpr h;simp only [mS,af,if_neg h]
 | (k,x) :: r=>by
  have b2:=L3 f g v r;rw [show dk f v ((k,x) :: r)=(if k=f then (k,v) :: r else (k,x) :: dk f v r) from rfl];by_cases aI:k=f
  .rw [if_pos aI];by_cases h:g=k
   .have af:(g == k)=true:=beq_iff_eq.mpr h;simp only [mS,af,if_pos (h.trans aI)]
   .have af:(g == k)=false:=beq_eq_false_iff_ne.mpr h;simp only [mS,af,if_neg (fun e:g=f=>h (e.trans aI.symm))]
  .rw [if_neg aI];by_cases h:g=k
   .have af:(g == k)=true:=beq_iff_eq.mpr h;simp only [mS,af,if_neg (fun e:g=f=>aI (h.symm.trans e))]
   .have af:(g == k)=false:=beq_eq_false_iff_ne.mpr h;simp only [mS,af];exact b2
theorem Fw (f:Str) (v:V):∀ a_:List (Str × V),f ∈ (dk f v a_).map (·.1)/\∀ g,g ∈ a_.map (·.1)->g ∈ (dk f v a_).map (·.1)
 | []=>⟨by simp [dk],fun g h=>by simp at h⟩
 | (k,x) :: r=>by
  obtain ⟨FL,O0⟩:=Fw f v r;rw [show dk f v ((k,x) :: r)=(if k=f then (k,v) :: r else (k,x) :: dk f v r) from rfl];by_cases aI:k=f
  .rw [if_pos aI];subst aI;exact ⟨by simp,fun g h=>by simpa using h⟩
  .rw [if_neg aI];refine ⟨?_,fun g h=>?_⟩
   .rw [dP];exact hP _ FL
   .rw [dP] at h ⊢;rcases cP.mp h with e | e
    .exact cP.mpr (.inl e)
    .exact hP _ (O0 g e)
theorem Hu (f:Str) (v:V):∀ a_:List (Str × V),(dk f v a_).length <= a_.length + 1
 | []=>by simp [dk]
 | (k,x) :: r=>by
  have b2:=Hu f v r;rw [show dk f v ((k,x) :: r)=(if k=f then (k,v) :: r else (k,x) :: dk f v r) from rfl];by_cases aI:k=f
  .rw [if_pos aI,fp,fp];omega
  .rw [if_neg aI,fp,fp];omega
theorem i0.some_of (r:i0 (some v) o):∃ u,o=some u/\bx v u:=by
 cases o with
 | none=>exact (show False from r).elim
 | some u=>exact ⟨u,rfl,r⟩
theorem i0.none_of (r:i0 none o):o=none:=by
 cases o with
 | none=>rfl
 | some u=>exact (show False from r).elim
theorem ab2 (r:bx v u):adp u=true:=by
 cases v with
 | b4=>cases (show u=pB from r);rfl
 | bk b=>cases (show u=k6 b from r);rfl
 | int i=>obtain ⟨t,e⟩:=(show ∃ t,u=mL i t from r);cases e;rfl
 | str x=>obtain ⟨t,e⟩:=(show ∃ t,u=tK x t from r);cases e;rfl
 | jB b=>obtain ⟨t,e⟩:=(show ∃ t,u=Z2 b t from r);cases e;rfl
 | sJ b=>obtain ⟨t,e⟩:=(show ∃ t,u=acZ b t from r);cases e;rfl
 | ref a=>cases (show u=fC a from r);rfl
 | ty n=>cases (show u=t8 n from r);rfl
section
variable {P:Program} {w:World} {H I:ah} {h h':Heap} {a C av:Addr} {a_ l7:List (Str × V)}
theorem FG (bz:eN P w H h) (e:H a=some (.ins C av a_)):∃ d0,qf h a av C d0/\(∀ f,i0 (a_.lookup f) (d0 f))/\Pd d0 (a_.map (·.1))/\a_.length <= 1000/\H av=some (.own a):=by
 obtain ⟨d,z,ne,b6,d0,n,r,q⟩:=(show fo P w H h a (.ins C av a_) from bz a _ e);exact ⟨d0,⟨b6,n,ne⟩,r,q,z,d⟩
end
structure eg (K:a') (C:Addr):Prop where
 adb:GL K C lp=true
 hd:AX K C=true
 po:afr K C=true
 FJ:dg K (.ref C) "__setattr__"=some (some (.builtin "object.__setattr__"))
theorem eg.get {K:a'} (c:eg K C) (f:Str):GL K C f=true:=c.adb
noncomputable def bB (K:a') (C:Addr) (f:Str):Prop:=dg K (.ref C) f=some none
theorem bB.agf {K:a'} (n:bB K C f):Nl K C f=some none:=by
 unfold Nl;rw [show dg K (.ref C) f=some none from n];rfl
structure ahB (K:a') (C:Addr) (f:Str) (v:V) (u:Value):Prop where
 at_:dg K (.ref C) f=some (some u)
 rel:bx v u
 get:rJ K u "__get__"=some none
 k9:PySem.W.copiedNames.contains f=false
structure dD (K:a') (C:Addr) (m:Str) (f:Addr):Prop where
 at_:dg K (.ref C) m=some (some (.ref f))
 fn:Ls K (.ref f)=true
 bg:qG K (.ref f)=true
section
variable {X:a6} {ae:List (Addr × Obj)} {σ:St} {H:ah} {s:Shared} {a C av:Addr} {a_:List (Str × V)} {f:Str} {v:V} {A:Around} {E:Value->Shared->Prop}
theorem OO (J:Inv X ae σ H s) (e:H a=some (.ins C av a_)) (c:eg X.K C) (n:bB X.K C f) (l:a_.lookup f=some v)
  (h:∀ u aO,Inv X ae σ H aO->bx v u->Q u aO):wpAny (model X.prog X.w) A (getAttr (.ref a) f b) Q E s:=by
 obtain ⟨d0,O,r,_,_,_⟩:=FG J.bz e;obtain ⟨u,bE,dU⟩:=i0.some_of (v:=v) (o:=d0 f) (by rw [<- l];exact r f);exact R_ J.gU O (c.get f) c.hd n bE (ab2 dU) (h u _ (J.tok _) dU)
theorem F9 (J:Inv X ae σ H s) (e:H a=some (.ins C av a_)) (c:eg X.K C) (k:dD X.K C m g) (l:a_.lookup m=none)
  (h:Q (.ref g,[.ref a]) s):wpAny (model X.prog X.w) A (getMethod (.ref a) m pl) Q E s:=by
 obtain ⟨d0,O,r,_,_,_⟩:=FG J.bz e;have a0:d0 m=none:=i0.none_of (by rw [<- l];exact r m);exact SY J.gU O (c.get m) k.at_ k.fn a0 h
theorem JP (J:Inv X ae σ H s) (e:H a=some (.ins C av a_)) (c:eg X.K C) (n:bB X.K C f) (aB:a_.length < 1000) (bH:bx y u)
  (h:∀ aO,Inv X ae σ (upd H a (.ins C av (dk f y a_))) aO->Q () aO):wpAny (model X.prog X.w) A (setAttr (.ref a) f u) Q E s:=by
 obtain ⟨d0,O,r,hr,_,aX⟩:=FG J.bz e;have ay:(a_.map (·.1)).length <= sizeLine:=by rw [a8,sizeLine_eq];omega
 refine adT J.gU O c.FJ c.po n.agf c.hd hr ay fun h' CJ mu=>h _ ?_
 have hd:∃ o,h'.get? av=some o:=let ⟨o,_,_,b5,_⟩:=CJ.ns;⟨o,b5⟩;refine J.write (x:=a) (e:=av) (by rw [e];exact q6) (.inr aX) (fun b q af z=>(mu.2 b af).trans z) hd ?_;refine ⟨by rw [aW O.ne];exact aX,?_,O.ne,CJ.obj,_,CJ.ns,fun g=>?_,fun g a9=>?_⟩
 .have:=Hu f y a_;omega
 .show i0 ((dk f y a_).lookup g) (if g=f then some u else d0 g);rw [L3];by_cases q:g=f
  .rw [if_pos q,if_pos q];exact bH
  .rw [if_neg q,if_neg q];exact r g
 .by_cases q:g=f
  .rw [q];exact (Fw f y a_).1
  .refine (Fw f y a_).2 g (hr g fun z=>a9 ?_);show (if g=f then some u else d0 g)=none;rw [if_neg q];exact z
theorem Inv.made (J:Inv X ae σ H s):Inv X ae σ (upd (upd H s.heap.objs.size (.own (s.heap.objs.size + 1))) (s.heap.objs.size + 1) (.ins C s.heap.objs.size []))
  { s with heap:=(s.heap.push n2).push (p3 C s.heap.objs.size) }:=by
 have ax:(s.heap.push n2).get? s.heap.objs.size=some n2:=e6 s.heap rfl;have aD:((s.heap.push n2).push (p3 C s.heap.objs.size)).get? (s.heap.objs.size + 1)=some (p3 C s.heap.objs.size):=by
  have:=e6 (s.heap.push n2) (o:=p3 C s.heap.objs.size) rfl;rwa [uA] at this
 have cu:(s.heap.push n2).Ns s.heap.objs.size (fun _=>none):=⟨n2,#[],_,ax,rfl,(fun e he=>absurd he (by simp)),fun _=>rfl⟩;have aY:=J.laid (a:=s.heap.objs.size) (o:=.own (s.heap.objs.size + 1)) (h':=s.heap.push n2) (t':=s.toks) (fun b u q=>er _ q) (bW _) ⟨_,ax⟩;refine aY.laid (a:=s.heap.objs.size + 1) (o:=.ins C s.heap.objs.size []) (t':=s.toks) (fun b u q=>er _ q) (ab8 (uA _ _)) ?_;have ne:s.heap.objs.size ≠ s.heap.objs.size + 1:=e9 (MQ _);refine ⟨by rw [aW ne,aR],gi _,ne,aD,fun _=>none,(Heap.Ns1.of_empty cu).at fun o q=>er _ q,fun _=>q6,fun y bj=>absurd rfl bj⟩
theorem RN {prog:Program} {w:World} {env:Env} {e:Expr} (af:attributeBase e f env (eval e env)=eval e env)
  (h:wpAny (model prog w) A (eval e env) (fun o cN=>wpAny (model prog w) A (getAttr o f true) Q E cN) E s):wpAny (model prog w) A (eval (.Attribute e f pos) env) Q E s:=
 Attribute_any_ h (by rw [arm_eval_Attribute,af])
end
noncomputable def hB (K:a') (H:ah) (a:Addr) (f:Str) (v:V):Prop:=∃ C av a_,H a=some (.ins C av a_)/\eg K C/\bB K C f/\a_.lookup f=some v
noncomputable def IL (K:a') (aZ:TE) (f:Str):TE:=fun σ H Q=>aZ σ H fun x H1=>ed x fun a=>∃ v,hB K H1 a f v/\Q v H1
noncomputable def OG (K:a') (aZ gY:TE) (f:Str):en:=fun D σ H=>gY σ H fun y H1=>aZ σ H1 fun x az=>ed x fun a=>∃ C av a_,az a=some (.ins C av a_)/\eg K C/\bB K C f/\a_.length < 1000 /\
 D.cF σ (upd az a (.ins C av (dk f y a_)))
noncomputable def O7 (X:a6) (op:Operator) (dy:V->V->ah->cm->Prop):Prop:=
 ∀ (ae:List (Addr × Obj)) (s:Shared) (σ:St) (H:ah) (x y:V) (u v:Value) (Q:cm),Inv X ae σ H s->bx x u->bx y v->dy x y H Q->wpAny (model X.prog X.w) X.A (inplaceOp op u v) (gs X ae σ Q) X.dj s
noncomputable def Mf (K:a') (aZ gY:TE) (dy:V->V->ah->cm->Prop) (f:Str):en:=fun D σ H=>aZ σ H fun x H1=>∃ a C av a_ v,x=.ref a/\H1 a=some (.ins C av a_)/\eg K C/\bB K C f/\a_.lookup f=some v /\
 gY σ H1 fun y az=>dy v y az fun z cj=>∃ fm l7,cj a=some (.ins C fm l7)/\l7.length < 1000/\D.cF σ (upd cj a (.ins C fm (dk f z l7)))
section
variable {X:a6} {o e value:Expr} {f:Str} {pos pos' rO:Pos} {aZ gY:TE}
theorem c0 (he:bD X e aZ) (af:attributeBase e f X.env (eval e X.env)=eval e X.env):bD X (.Attribute e f pos) (IL X.K aZ f):=by
 intro ae s σ H Q J h;refine RN af (bM (he ae s σ H _ J h) fun u s1 b7=>d2 b7 fun x H1 aY bp gq=>?_);obtain ⟨a,ex,v,⟨C,av,a_,hH,c,n,l⟩,q⟩:=ed.out gq;subst ex;obtain rfl:u=fC a:=bp;exact OO aY hH c n l fun iR s2 bX dU=>⟨v,H1,bX,dU,q⟩
theorem gR (aS:bD X o aZ) (aK:bD X value gY) (aC:swapsWith value (some (.Attribute o f pos')) pos.line X.env=pure false):gS X (.Assign [.Attribute o f pos'] value pos) (OG X.K aZ gY f):=by
 intro ae s σ H D J h;refine plainObj_wpAny_Assign_Attribute (bM (aK ae s σ H _ J h) fun u s1 b7=>d2 b7 fun y H1 aY bH q=>bM (aS ae s1 σ H1 _ aY q) fun dz s2 b7=>d2 b7 fun x az bX bp gq=>?_) aC;obtain ⟨a,ex,C,av,a_,hH,c,n,l,eK⟩:=ed.out gq;subst ex;obtain rfl:dz=fC a:=bp;exact JP bX hH c n l bH fun s3 gH=>⟨σ,_,gH,eK⟩
theorem Su {dy:V->V->ah->cm->Prop} (aS:bD X o aZ) (aK:bD X value gY) (acQ:O7 X op dy):gS X (.AugAssign (.Attribute o f rO) op value pos) (Mf X.K aZ gY dy f):=by
 intro ae s σ H D J h;refine wpAny_AugAssign_AttributeAny (bM (aS ae s σ H _ J h) fun dz s1 ct=>?_);obtain ⟨x,H1,aY,bp,a,C,av,a_,v,ex,hH,c,n,l,q⟩:=ct;subst ex;obtain rfl:dz=fC a:=bp;refine OO aY hH c n l fun u s2 bX dU=>bM (aK ae s2 σ H1 _ bX q) fun iP s3 b7=>d2 b7 fun y az gH bH kT=>bM (acQ ae s3 σ az v y u iP _ gH dU bH kT) fun ahp s4 ct=>?_
 obtain ⟨z,cj,gO,aaP,fm,l7,aci,Xz,PM⟩:=ct;exact JP gO aci c n Xz aaP fun s5 t9=>⟨σ,_,t9,PM⟩
noncomputable def wP:V->V->ah->cm->Prop:=fun x y H Q=>∃ i j,x=.int i/\y=.int j/\Q (.int (i + j)) H
theorem adq:O7 X .Add wP:=by
 rintro ae s σ H x y u v Q J bp bH ⟨i,j,rfl,rfl,q⟩;obtain ⟨t,rfl⟩:=(show ∃ t,u=mL i t from bp);obtain ⟨t',rfl⟩:=(show ∃ t',v=mL j t' from bH);exact ais ⟨.int (i + j),H,J.tok _,⟨_,rfl⟩,q⟩
end
section
variable {X:a6} {ae:List (Addr × Obj)} {σ:St} {H:ah} {s:Shared} {A:Around} {E:Value->Shared->Prop} {Q:Value->Shared->Prop} {c:Value} {b:Bool}
inductive lh (K:a') (H:ah):V->Value->Prop where
 | b4:lh K H .b4 (.type "NoneType")
 | bk (x:Bool):lh K H (.bk x) (.type "bool")
 | int (i:Int):lh K H (.int i) (.type "int")
 | str (x:Str):lh K H (.str x) (.type "str")
 | sJ (x:UInt64):lh K H (.sJ x) (.type "float")
 | lst {a:Addr} {xs:List V} (e:H a=some (.lst xs)):lh K H (.ref a) (.type "list")
 | eb {a:Addr} {o:Obj} {xs:List V} (e:H a=some (.eb o (.lst xs))):lh K H (.ref a) (.type "list")
 | tup {a:Addr} {xs:List V} (e:H a=some (.tup xs)):lh K H (.ref a) (.type "tuple")
 | bV {a:Addr} {kvs:List (Key × V)} (e:H a=some (.bV kvs)):lh K H (.ref a) (.type "dict")
 | dw {a:Addr} {kvs:List (List Key × V)} (e:H a=some (.dw kvs)):lh K H (.ref a) (.type "dict")
 | ins {a C av:Addr} {a_:List (Str × V)} (e:H a=some (.ins C av a_)) (cl:eg K C) (aS:dg K (.ref C) "__class__"=some (some (.builtin "object.__class__")))
   (a0:rJ K (.builtin "object.__class__") "__get__"=some (some (.builtin "getset_descriptor.__get__"))) (FX:Cs K (.builtin "object.__class__")=some true)
   (hm:H' K C (.type "object")=some true):lh K H (.ref a) (.ref C)
end
structure eM (k:Nat) (A:Around):Prop where
 hd:A.handled=none
 jc:A.depth + 3 * k + 5 < recursionLimit
 un:A.units + 16 * k + 200 < cLine
theorem eM.mono {j k:Nat} {A:Around} (r:eM k A) (h:j <= k):eM j A:=⟨r.hd,by have:=r.jc;omega,by have:=r.un;omega⟩
theorem eM.deeper {k:Nat} {A:Around} (r:eM (k + 1) A) (env:Env):eM k (A.deeper env):=
 ⟨r.hd,by have:=r.jc;show A.depth + 1 + 3 * k + 5 < _;omega,by have:=r.un;show A.units + 3 + 16 * k + 200 < _;omega⟩
theorem ac2 {A:Around}:(A.under (.builtin "type.__call__" ⟨.ref C :: us,kw⟩)).depth=A.depth + 1:=by
 first | rfl | simp [O6,Code.weight,Code.isCreation,Code.isGuard,Code.isCaller,abG,KY,guardIds]
theorem agc {A:Around}:(A.under (.builtin "type.__call__" ⟨.ref C :: us,kw⟩)).units=A.units + 1:=by
 first | rfl | simp [O6,Code.cUnits,abG,KY]
theorem eM.make {k:Nat} {A:Around} (r:eM (k + 1) A) (C:Addr) (us:List Value) (kw:List (Str × Value)):eM k (A.under (.builtin "type.__call__" ⟨.ref C :: us,kw⟩)):=
 ⟨r.hd,by have:=r.jc;rw [ac2];omega,by have:=r.un;rw [agc];omega⟩
theorem eM.depth {k:Nat} {A:Around} (r:eM k A):A.depth < recursionLimit:=by have:=r.jc;omega
theorem eM.units {k:Nat} {A:Around} (r:eM k A):A.units + 64 < cLine:=by have:=r.un;omega
noncomputable def rP:eI:=fun _ H Q=>Q [] H
noncomputable def EG (aZ:TE) (U':eI):eI:=fun σ H Q=>aZ σ H fun x H1=>U' σ H1 fun xs az=>Q (x :: xs) az
section
variable {X:a6} {e:Expr} {aL:List Expr} {bJ:TE} {t:eI} {pos:Pos}
theorem au:ck X [] rP:=fun _ _ _ _ H Q J h=>Uy ⟨[],H,J,.nil,h⟩
theorem ab (aS:bD X e bJ) (aj:ck X aL t) (aC:starEach (e :: aL) X.env=(false,eval e X.env) :: starEach aL X.env:=by rfl):ck X (e :: aL) (EG bJ t):=by
 intro pos ae s σ H Q J h;rw [aC];show wpAny _ _ (spliced ((false,eval e X.env) :: backTo pos (starEach aL X.env))) _ _ s;refine VT (bM (aS ae s σ H _ J h) fun u s1 b7=>d2 b7 fun x H1 aY bO bQ=>?_);exact bM (aj pos ae s1 σ H1 _ aY bQ) fun us s2 ⟨xs,az,bX,dn,eK⟩=>⟨x :: xs,az,bX,.cons bO dn,eK⟩
noncomputable def Df (t:eI):TE:=fun σ H Q=>t σ H fun xs H1=>xs.length <= sizeLine/\∀ p,H1 p=none->Q (.ref p) (upd H1 p (.tup xs))
noncomputable def D6 (t:eI):TE:=fun σ H Q=>t σ H fun xs H1=>xs.length <= sizeLine/\∀ p,H1 p=none->Q (.ref p) (upd H1 p (.lst xs))
theorem ox {hO} (h:ck X aL t):bD X (.Tuple aL hO pos) (Df t):=by
 intro ae s σ H Q J a4;refine wpAny_Tuple_spliced (bM (h pos ae s σ H _ J a4) fun us s1 ⟨xs,H1,aY,r,z,q⟩=>⟨by rw [<- r.length];exact z,?_⟩);have hf:H1 s1.heap.objs.size=none:=aY.bz.fresh (bW _);refine ⟨.ref s1.heap.objs.size,upd H1 s1.heap.objs.size (.tup xs),aY.laid (t':=s1.toks) (fun b u e=>er _ e) (bW _) ?_,rfl,q _ hf⟩;exact ⟨⟨z,_,e6 _ rfl,rfl⟩,us,r,⟨_,e6 _ rfl,rfl,_,rfl⟩⟩
theorem gD (h:ck X aL t):bD X (.List aL pos) (D6 t):=by
 intro ae s σ H Q J a4;refine wpAny_List_spliced (bM (h pos ae s σ H _ J a4) fun us s1 ⟨xs,H1,aY,r,z,q⟩=>⟨by rw [<- r.length];exact z,?_⟩);have hf:H1 s1.heap.objs.size=none:=aY.bz.fresh (bW _);refine ⟨.ref s1.heap.objs.size,upd H1 s1.heap.objs.size (.lst xs),aY.laid (t':=s1.toks) (fun b u e=>er _ e) (bW _) ?_,rfl,q _ hf⟩;exact ⟨z,us,0,r,e6 _ rfl⟩
end
noncomputable abbrev bF:=List V->ah->cm->eU->Prop
noncomputable abbrev h7:=List Env->ah->Shared->eU->Value->Shared->Prop
structure mU (P:Program) (w:World) (K:a') (ai:Str->Option Value) (base:Heap) (A:Around) (outer:List Env) (s:Shared) (H:ah):Prop where
 frames:A.frames=some outer
 mod:Mod K ai base
 bs:∀ b o,base.get? b=some o->s.heap.get? b=some o/\H b=none
 kq:base.objs.size <= s.heap.objs.size
 jD:s.heap.FunFrames base outer
 mH:∀ b ∈ kX outer,H b=none
 bz:eN P w H s.heap
 bare:AllBare s.gens
noncomputable def Fi (outer:List Env) (P:Program) (w:World) (H:ah) (s:Shared) (Q:cm) (u:Value) (aO:Shared):Prop:=
 ∃ v I,aO.os=s.os/\AllBare aO.gens/\gh (kX outer) [] H I s.heap aO.heap/\eN P w I aO.heap/\bx v u/\Q v I
noncomputable def Ly (CX:h7) (outer:List Env) (P:Program) (w:World) (H:ah) (s:Shared) (Q:cm) (E:eU) (r:Result) (aO:Shared):Prop:=
 match r with
 | .ok (.ret u)=>Fi outer P w H s Q u aO
 | .ok _=>False
 | .error e=>CX outer H s E e aO
structure cg (P:Program) (w:World) (K:a') (ai:Str->Option Value) (base:Heap) (CX:h7) (k:Nat) (f:Addr) (fd:FuncData) (ps:List Str) (sp:bF):Prop where
 len:∀ vs H Q E,sp vs H Q E->vs.length=ps.length
 run:∀ (A:Around) (outer:List Env) (s:Shared) (H:ah) (args:Args) (us:List Value) (vs:List V) (Q:cm) (E:eU),eM k A->mU P w K ai base A outer s H->BindsTo s fd args (ps.zip us)->bS vs us->sp vs H Q E ->
  codeAny (model P w) A (.call (.ref f) args) (Ly CX outer P w H s Q E) s
theorem cg.mono {w:World} {K:a'} {ai:Str->Option Value} {base:Heap} {j k:Nat} {fd:FuncData} (F:cg P w K ai base CX j f fd ps sp) (h:j <= k) :
  cg P w K ai base CX k f fd ps sp:=⟨F.len,fun A outer s H args us vs Q E aj=>F.run A outer s H args us vs Q E (aj.mono h)⟩
theorem mU.make {w:World} {K:a'} {ai:Str->Option Value} {base:Heap} {A:Around} {outer:List Env} (e:mU P w K ai base A outer s H) (C:Addr) (us:List Value) (kw:List (Str × Value)) :
  mU P w K ai base (A.under (.builtin "type.__call__" ⟨.ref C :: us,kw⟩)) outer s H:=⟨by first | exact e.frames | (simpa [O6,Code.envs,KY,pushEnvs] using e.frames),e.mod,e.bs,e.kq,e.jD,e.mH,e.bz,e.bare⟩
section
variable {X:a6} {ae:List (Addr × Obj)} {σ:St} {H:ah} {s aO:Shared}
theorem Inv.IZ (J:Inv X ae σ H s):mU X.prog X.w X.K X.ai X.base X.A X.stack s H:=
 ⟨J.ok.frames,J.ok.mod,J.bs,cp J.ok.kq J.tR,J.stack,J.P2,J.bz,J.bare⟩
theorem Inv.after (J:Inv X ae σ H s) (h:Fi X.stack X.prog X.w H s Q u aO):gs X ae σ Q u aO:=by
 obtain ⟨v,I,os,bare,un,bz,r,q⟩:=h;obtain ⟨e',g,d,t,BH⟩:=aO;obtain rfl:BH=s.os:=os;exact ⟨v,I,J.call (h':=e') (g':=g) (d':=d) (t':=t) (ch:=[]) un bz bare (fun b z=>absurd z (by simp)),r,q⟩
end
noncomputable def tx (sp:bF) (dvs:List V) (E:eU) (t:eI):TE:=fun σ H Q=>t σ H fun vs H1=>sp (vs ++ dvs) H1 Q E
noncomputable def Hq (C:Addr) (m:Str) (sp:bF) (dvs:List V) (E:eU) (aZ:TE) (t:eI):TE:=fun σ H Q=>aZ σ H fun x H1=>ed x fun a=>∃ av a_,H1 a=some (.ins C av a_)/\a_.lookup m=none /\
 t σ H1 fun vs az=>sp (x :: (vs ++ dvs)) az Q E
noncomputable def XL (C:Addr) (sp:bF) (dvs:List V) (E:eU) (t:eI):TE:=fun σ H Q=>t σ H fun vs H1=>∀ x av,H1 x=none->H1 av=none->av ≠ x ->
 sp (.ref x :: (vs ++ dvs)) (upd (upd H1 av (.own x)) x (.ins C av [])) (fun v az=>v=.b4/\Q (.ref x) az) E
noncomputable def ac (K:a') (fd:FuncData) (ps:List Str) (ds:List Value):Prop:=
 ∀ (s:Shared) (us:List Value),K.In s.heap->(us ++ ds).length=ps.length->BindsTo s fd ⟨us,[]⟩ (ps.zip (us ++ ds))
theorem ac.all {K:a'} {fd:FuncData} (h:∀ us:List Value,us.length=ps.length->bindArgs fd ⟨us,[]⟩=pure (ps.zip us)):ac K fd ps []:=fun s us _ aB=>by
 rw [G0] at aB ⊢;exact .of_eq (h us aB)
noncomputable def lZ (CX:h7) (X:a6) (E:eU):Prop:=∀ (ae:List (Addr × Obj)) (σ:St) (H:ah) (s:Shared) (e:Value) (aO:Shared),Inv X ae σ H s->CX X.stack H s E e aO->X.dj e aO
section
variable {X:a6} {CX:h7} {k:Nat} {f C:Addr} {fd:FuncData} {ps:List Str} {sp:bF} {dvs:List V} {ds:List Value} {E:eU} {x m:Str} {p pos fh:Pos} {e o:Expr} {aL:List Expr} {aZ:TE} {t:eI}
theorem vl (F:cg X.prog X.w X.K X.ai X.base CX k f fd ps sp) (aj:eM k X.A) (af:ac X.K fd ps ds) (hd:bS dvs ds) (ao:lZ CX X E)
  (J:Inv X ae σ H s) (r:bS vs us) (h:sp (vs ++ dvs) H Q E):wpAny (model X.prog X.w) X.A (call (.ref f) us) (gs X ae σ Q) X.dj s:=by
 have dn:bS (vs ++ dvs) (us ++ ds):=r.append hd;have aB:(us ++ ds).length=ps.length:=by rw [<- dn.length];exact F.len _ _ _ _ h
 refine wpAny_call (codeAny_mono (F.run X.A X.stack s H ⟨us,[]⟩ (us ++ ds) (vs ++ dvs) Q E aj J.IZ (af s us J.gU aB) dn h) fun r aO a4=>?_);cases r with
 | error e=>exact ao ae σ H s e aO J a4
 | ok iH=>
  cases iH with
  | ret u=>exact J.after a4
  | next=>exact kG a4
  | brk=>exact kG a4
  | cont=>exact kG a4
theorem Yo (F:cg X.prog X.w X.K X.ai X.base CX k f fd ps sp) (aj:eM k X.A) (a9:ip X x) (hm:X.ai x=some (.ref f)) (aI:qG X.K (.ref f)=true) (af:ac X.K fd ps ds) (hd:bS dvs ds) (ao:lZ CX X E)
  (aS:ck X (e :: aL) t) (f5:(x == ("__debug__" : Str))=false:=by decide) (he:starEach (e :: aL) X.env=(false,eval e X.env) :: starEach aL X.env:=by rfl) (d1:(backTo pos (starEach aL X.env)).any (·.1)=false:=by rfl) :
  bD X (.Call (.Name x p) (e :: aL) [] pos) (tx sp dvs E t):=by
 intro ae s σ H Q J h;refine wpAny_Call_Name_kw (sW J a9 hm ?_ f5);refine DM (h₀:=X.base) J.ok.mod.nF aI (bM (aS pos ae s σ H _ J h) fun us s1 ⟨vs,H1,aY,r,q⟩=>⟨aY.gU,?_⟩) he d1;exact vl F aj af hd ao aY r q
theorem dd (he:bD X o aZ) (c:eg X.K C) (hm:dD X.K C m f) (F:cg X.prog X.w X.K X.ai X.base CX k f fd ps sp) (aj:eM k X.A) (af:ac X.K fd ps ds) (hd:bS dvs ds) (ao:lZ CX X E) (aS:ck X (e :: aL) t)
  (gk:starEach (e :: aL) X.env=(false,eval e X.env) :: starEach aL X.env:=by rfl) (d1:(backTo pos (starEach aL X.env)).any (·.1)=false:=by rfl)
  (c_:eval (.Call (.Attribute o m fh) (e :: aL) [] pos) X.env=(do
   let dz <- eval o X.env
   standAt fh.atName
   let (f,first) <- holding [dz] (getMethod dz m pl)
   callWith pos f first (backTo pos (starEach (e :: aL) X.env)) (backToKw pos (keywordEach [] X.env))):=by rfl) :
  bD X (.Call (.Attribute o m fh) (e :: aL) [] pos) (Hq C m sp dvs E aZ t):=by
 intro ae s σ H Q J h;refine Gj (pl:=pl) (bM (he ae s σ H _ J h) fun u s1 b7=>d2 b7 fun x H1 aY bp gq=>?_) c_;obtain ⟨a,ex,av,a_,hH,l,q⟩:=ed.out gq;subst ex;obtain rfl:u=fC a:=bp;refine F9 aY hH c hm l ?_;refine DM (first:=[.ref a]) (h₀:=X.base) J.ok.mod.nF hm.bg (bM (aS pos ae s1 σ H1 _ aY q) fun us s2 ⟨vs,az,bX,r,eK⟩=>⟨bX.gU,?_⟩) gk d1;exact vl (us:=.ref a :: us) (vs:=.ref a :: vs) F aj af hd ao bX (.cons rfl r) eK
theorem hG (he:bD X o aZ) (c:eg X.K C) (hm:dD X.K C m f) (F:cg X.prog X.w X.K X.ai X.base CX k f fd ps sp) (aj:eM k X.A) (af:ac X.K fd ps ds) (hd:bS dvs ds) (ao:lZ CX X E)
  (c_:eval (.Call (.Attribute o m fh) [] [] pos) X.env=(do
   let dz <- eval o X.env
   standAt fh.atName
   let (f,first) <- holding [dz] (getMethod dz m pl)
   callWith pos f first (backTo pos (starEach [] X.env)) (backToKw pos (keywordEach [] X.env))):=by rfl) :
  bD X (.Call (.Attribute o m fh) [] [] pos) (Hq C m sp dvs E aZ rP):=by
 intro ae s σ H Q J h;refine Gj (pl:=pl) (bM (he ae s σ H _ J h) fun u s1 b7=>d2 b7 fun x H1 aY bp gq=>?_) c_;obtain ⟨a,ex,av,a_,hH,l,q⟩:=ed.out gq;subst ex;obtain rfl:u=fC a:=bp;refine F9 aY hH c hm l ?_;exact NK (first:=[.ref a]) aY.gU hm.bg (vl (us:=[.ref a]) (vs:=[.ref a]) F aj af hd ao aY (.cons rfl .nil) q)
structure iB (K:a') (C f:Addr):Prop where
 makes:ad4 K C=true
 init:dg K (.ref C) "__init__"=some (some (.ref f))
 fn:Ls K (.ref f)=true
 bg:qG K (.ref C)=true
theorem OX (M:iB X.K C f) (F:cg X.prog X.w X.K X.ai X.base CX k f fd ps sp) (aj:eM (k + 1) X.A) (af:ac X.K fd ps ds) (hd:bS dvs ds)
  (ao:lZ CX X E) (J:Inv X ae σ H s) (r:bS vs us)
  (h:∀ x av,H x=none->H av=none->av ≠ x->sp (.ref x :: (vs ++ dvs)) (upd (upd H av (.own x)) x (.ins C av [])) (fun v az=>v=.b4/\Q (.ref x) az) E) :
  wpAny (model X.prog X.w) X.A (call (.ref C) us) (gs X ae σ Q) X.dj s:=by
 have a4:=h (s.heap.objs.size + 1) s.heap.objs.size (J.bz.fresh (Ae _)) (J.bz.fresh (bW _)) (e9 (MQ _));have bX:=Inv.made (C:=C) J;have dn:bS (V.ref (s.heap.objs.size + 1) :: (vs ++ dvs)) (fC (s.heap.objs.size + 1) :: (us ++ ds)):=.cons rfl (r.append hd);have aB:(fC (s.heap.objs.size + 1) :: us ++ ds).length=ps.length:=by
  have e:=dn.length;rw [F.len _ _ _ _ a4] at e;exact e.symm
 refine wpAny_call (TH (f:=f) J.gU M.makes M.init (beq_iff_eq.mp M.fn) (codeAny_mono (F.run _ X.stack _ _ ⟨fC (s.heap.objs.size + 1) :: us,[]⟩ (fC (s.heap.objs.size + 1) :: (us ++ ds)) _ _ E (aj.make C us [])
  (bX.IZ.make C us []) (af _ (fC (s.heap.objs.size + 1) :: us) bX.gU aB) dn a4) fun r aO w8=>?_))
 cases r with
 | error e=>exact ao ae σ _ _ e aO bX w8
 | ok iH=>
  cases iH with
  | ret u=>
   obtain ⟨v,I,gH,b8,ev,kT⟩:=bX.after w8;subst ev;exact ⟨b8,⟨V.ref (s.heap.objs.size + 1),I,gH,rfl,kT⟩⟩
  | next=>exact kG w8
  | brk=>exact kG w8
  | cont=>exact kG w8
theorem qJ (M:iB X.K C f) (F:cg X.prog X.w X.K X.ai X.base CX k f fd ps sp) (aj:eM (k + 1) X.A) (a9:ip X x) (hm:X.ai x=some (.ref C)) (af:ac X.K fd ps ds) (hd:bS dvs ds) (ao:lZ CX X E)
  (aS:ck X (e :: aL) t) (f5:(x == ("__debug__" : Str))=false:=by decide) (he:starEach (e :: aL) X.env=(false,eval e X.env) :: starEach aL X.env:=by rfl) (d1:(backTo pos (starEach aL X.env)).any (·.1)=false:=by rfl) :
  bD X (.Call (.Name x p) (e :: aL) [] pos) (XL C sp dvs E t):=by
 intro ae s σ H Q J h;refine wpAny_Call_Name_kw (sW J a9 hm ?_ f5);refine DM (h₀:=X.base) J.ok.mod.nF M.bg (bM (aS pos ae s σ H _ J h) fun us s1 ⟨vs,H1,aY,r,q⟩=>⟨aY.gU,?_⟩) he d1;exact OX M F aj af hd ao aY r q
theorem UX (M:iB X.K C f) (F:cg X.prog X.w X.K X.ai X.base CX k f fd ps sp) (aj:eM (k + 1) X.A) (a9:ip X x) (hm:X.ai x=some (.ref C)) (af:ac X.K fd ps ds) (hd:bS dvs ds) (ao:lZ CX X E)
  (f5:(x == ("__debug__" : Str))=false:=by decide):bD X (.Call (.Name x p) [] [] pos) (XL C sp dvs E rP):=by
 intro ae s σ H Q J h;refine wpAny_Call_Name_kw (sW J a9 hm ?_ f5);exact NK J.gU M.bg (OX (us:=[]) M F aj af hd ao J .nil h)
end
section
variable {X:a6} {CX:h7} {k:Nat} {f C:Addr} {fd:FuncData} {ps bC:List Str} {sp:bF} {E:eU} {x m:Str} {p pos fh agG:Pos} {e o:Expr} {aL:List Expr} {agL:List Keyword} {bJ aZ:TE} {t cY:eI} {nm:Option Str}
structure aiT (K:a') (fd:FuncData) (ps bC:List Str) (g:List Value->List Value->List Value) (J7:List V->List V->List V):Prop where
 to:∀ (s:Shared) (us ws:List Value),K.In s.heap->(g us ws).length=ps.length->BindsTo s fd ⟨us,bC.zip ws⟩ (ps.zip (g us ws))
 rel:∀ {vs:List V} {us:List Value} {zs:List V} {ws:List Value},bS vs us->bS zs ws->bS (J7 vs zs) (g us ws)
variable {g:List Value->List Value->List Value} {J7:List V->List V->List V}
end
structure bU (N P:List Str) (sc:Scope):Prop where
 kind:sc.kind=.function
 co:sc.isCoroutine=false
 gen:sc.isGenerator=false
 aA:N.Nodup
 pre:N.take P.length=P
 par:∀ x ∈ P,sc.names.lookup x=some .local\/sc.names.lookup x=some .cell
 aed:∀ y ∈ sc.names,y.2 ≠ .free
theorem N3 {kindOf:Str->Option NameKind} {x:Str}:∀ {binds:List (Str × Value)} {m:Str->Option Value},(∀ v,(x,v) ∉ binds)->bindL kindOf binds m x=m x
 | [],_,_=>rfl
 | (n,v) :: r,m,h=>by
  unfold bindL;rw [N3 fun w hw=>h w (hP _ hw)];split
  .have:x ≠ n:=by rintro rfl;exact h v oY
   simp [this]
  .rfl
theorem Qt {kindOf:Str->Option NameKind} {x:Str}:∀ {binds:List (Str × Value)} {m:Str->Option Value},(∀ v,(x,v) ∉ binds)->bindC kindOf binds m x=m x
 | [],_,_=>rfl
 | (n,v) :: r,m,h=>by
  unfold bindC;rw [Qt fun w hw=>h w (hP _ hw)];split
  .rfl
  .have:x ≠ n:=by rintro rfl;exact h v oY
   simp [this]
theorem Lo {kindOf:Str->Option NameKind} {x:Str} {v:Value}:∀ {P:List Str} {vs:List Value} {i:Nat} {m:Str->Option Value},P.Nodup->P[i]? = some x->vs[i]? = some v->kindOf x=some .local ->
  bindL kindOf (P.zip vs) m x=some v
 | [],_,_,_,_,h,_,_=>by simp at h
 | _ :: _,[],_,_,_,_,h,_=>by simp at h
 | p :: P,w :: vs,0,m,aA,ag,ar,aI=>by
  simp at ag ar;subst ag;subst ar;show bindL kindOf ((p,w) :: P.zip vs) m p=_;unfold bindL;rw [N3 fun v aK=>(s9.mp aA).1 (O4 aK).1,if_pos aI];simp
 | p :: P,w :: vs,i + 1,m,aA,ag,ar,aI=>by
  show bindL kindOf ((p,w) :: P.zip vs) m x=_;unfold bindL;exact Lo (i:=i) (s9.mp aA).2 (by simpa using ag) (by simpa using ar) aI
theorem Ot {kindOf:Str->Option NameKind} {x:Str} {v:Value}:∀ {P:List Str} {vs:List Value} {i:Nat} {m:Str->Option Value},P.Nodup->P[i]? = some x->vs[i]? = some v->kindOf x ≠ some .local ->
  bindC kindOf (P.zip vs) m x=some v
 | [],_,_,_,_,h,_,_=>by simp at h
 | _ :: _,[],_,_,_,_,h,_=>by simp at h
 | p :: P,w :: vs,0,m,aA,ag,ar,aI=>by
  simp at ag ar;subst ag;subst ar;show bindC kindOf ((p,w) :: P.zip vs) m p=_;unfold bindC;rw [Qt fun v aK=>(s9.mp aA).1 (O4 aK).1,if_neg aI];simp
 | p :: P,w :: vs,i + 1,m,aA,ag,ar,aI=>by
  show bindC kindOf ((p,w) :: P.zip vs) m x=_;unfold bindC;exact Ot (i:=i) (s9.mp aA).2 (by simpa using ag) (by simpa using ar) aI
noncomputable def start (N:List Str) (vs:List V):St:=vs.map some ++ ni (N.length - vs.length) none
noncomputable def qD (CX:h7) (P:Program) (w:World) (K:a') (ai:Str->Option Value) (base:Heap) (N:List Str) (qual:Str) (scope:Scope) (f:Addr) (cd:Value) (A:Around) (outer:List Env) (s:Shared) (H:ah) (E:eU):a6 where
 prog:=P
 w:=w
 K:=K
 ai:=ai
 base:=base
 A:=A.deeper (envOfC qual scope s.heap.objs.size f cd)
 N:=N
 eX:=s
 pN:=H
 env:=envOfC qual scope s.heap.objs.size f cd
 outer:=outer
 stack:=envOfC qual scope s.heap.objs.size f cd :: outer
 ex:=[]
 calm:=true
 fn:=fun _=>true
 d3:=[]
 dj:=fun e aO=>wpAny (model P w) (A.deeper (envOfC qual scope s.heap.objs.size f cd)) (leaving (envOfC qual scope s.heap.objs.size f cd) e) (fun _ o4=>CX outer H s E e o4) (fun b5 o4=>CX outer H s E b5 o4) aO
theorem Pn {sc:Scope} {n:Nat} {x:Str} (h:sc.names.lookup x=some .cell):∃ c,(cellsFrom n sc.names []).lookup x=some c:=by
 have q:=abx sc.names n [] (.inl h);exact aet.mp q
theorem abR {CX:h7} {P:Program} {w:World} {K:a'} {ai:Str->Option Value} {base:Heap} {N ps:List Str} {qual:Str} {scope:Scope} {f:Addr} {cd:Value} {A:Around} {outer:List Env} {s s1:Shared} {H:ah} {E:eU} {us:List Value} {vs:List V}
  (S:bU N ps scope) (hd:A.handled=none) (da:mU P w K ai base A outer s H) (aB:vs.length=ps.length) (r:bS vs us)
  (x:InCallC s s.heap.objs.size (bindL (envOfC qual scope s.heap.objs.size f cd).kindOf (ps.zip us) fun _=>none) (cellsFrom (s.heap.objs.size + 1) scope.names []) (bindC (envOfC qual scope s.heap.objs.size f cd).kindOf (ps.zip us) fun _=>none) s1) :
  Inv (qD CX P w K ai base N qual scope f cd A outer s H E) [] (start N vs) H s1:=by
 have d1:ps.length <= N.length:=by have:=congrArg m8 S.pre;rw [fq] at this;omega
 obtain ⟨ag,cY,rfl,aI⟩:=x.done;have tn:∀ b:Addr,b ∉ (qD CX P w K ai base N qual scope f cd A outer s H E).ex:=fun b z=>absurd (show b ∈ ([]:List Addr) from z) (by simp)
 refine ⟨⟨da.mod,S.kind,rfl,rfl,bW _,fun y z c ag ar=>?_,fun y bj=>?_,fun y c _ h=>?_,fun _=>hd,Around.frames_deeper da.frames,.inr ⟨rfl,rfl⟩,fun b z=>absurd z (tn b),da.bs,da.kq,fun b _ _=>tn b,fun b z=>absurd z (tn b),da.jD,da.mH⟩,
  rfl,da.bare,gh.kept aI,⟨_,x.toInCall.ns,fun i y v ag ar bc=>?_⟩,fun y c h=>⟨_,x.cell y c h⟩,da.bz.fresh (bW _),fun y c h=>?_,fun p aw=>absurd (show p ∈ ([]:List (Addr × Obj)) from aw) (by simp),da.bz.kept aI,?_⟩
 .exact name_of_addr x.apart (yI ag) (yI ar)
 .have bj:scope.names.lookup y=some .cell\/scope.names.lookup y=some .free:=bj;rcases bj with bj | bj
  .exact Pn bj
  .exact absurd rfl (S.aed _ (yI bj))
 .exact om (x.above y c (yI h))
 .have ak:i < vs.length:=by
   unfold start at ar;by_cases ak:i < vs.length
   .exact ak
   .rw [se (by simpa using ak)] at ar;rw [Zx] at ar;split at ar <;> cases ar
  have aS:vs[i]? = some v:=by
   unfold start at ar;rw [uP (by simpa using ak),dS] at ar;cases e:vs[i]? with
   | none=>rw [e] at ar;cases ar
   | some a=>rw [e] at ar;cases ar;rfl
  obtain ⟨u,bE,b8⟩:=r.get aS;have aw:ps[i]? = some y:=by
   rw [<- S.pre,vM (by omega)];exact ag
  have JN:ps.Nodup:=by rw [<- S.pre];exact S.aA.sublist (List.take_sublist _ _)
  refine ⟨u,b8,?_⟩;rcases S.par y (c6 aw) with k | k
  .exact .inl ⟨k,Lo JN aw bE k⟩
  .obtain ⟨c,e⟩:=Pn (n:=s.heap.objs.size + 1) k;refine .inr ⟨.inl k,c,e,?_⟩;have q:=x.cell y c e;rw [Ot JN aw bE (by show scope.names.lookup y ≠ _;rw [k];decide)] at q;exact q
 .exact da.bz.fresh (om (x.above y c (yI h)))
 .unfold start;show _=N.length;rw [eV,a8,rZ];omega
theorem aeF {w:World} {K:a'} {ai:Str->Option Value} {base:Heap} {k:Nat} {name qual:Str} {zx dM doc pm gd e1 mc:Value}
 {N ps:List Str} (lk:K.lookup f=some ⟨mc,ez,.func (vY name qual params body scope zx dM doc pm an gd e1),sC⟩) (lq:M7 K gd qual=true) (S:bU N ps scope)
    (len:∀ vs H Q E,sp vs H Q E->vs.length=ps.length)
    (EY:∀ (A:Around) (outer:List Env) (s:Shared) (H:ah) (vs:List V) (Q:cm) (E:eU),eM k (A.deeper (envOfC qual scope s.heap.objs.size f gd))->sp vs H Q E ->
      ∃ t,ij (qD CX P w K ai base N qual scope f gd A outer s H E) body t/\t { cF:=fun _ I=>Q .b4 I,kW:=Q } (start N vs) H) :
    cg P w K ai base CX (k + 1) f (vY name qual params body scope zx dM doc pm an gd e1) ps sp:=by
  refine ⟨len,fun A outer s H args us vs Q E aj da af r jX=>?_⟩;have aB:=len _ _ _ _ jX;have ko:K.In s.heap:=da.mod.nF.keeps fun b o e=>(da.bs b o e).1
  have lim:s.heap.NoLimit:=da.mod.nolimit.keeps fun b o e=>(da.bs b o e).1
  have Rl:∀ y ∈ ps.zip us,scope.names.lookup y.1=some .local\/(scope.names.lookup y.1=some .cell/\((cellsFrom (s.heap.objs.size + 1) scope.names []).lookup y.1).isSome=true):=fun ⟨n,v⟩ bj=>by
    rcases S.par n (O4 bj).1 with q | q
    · exact .inl q
    · exact .inr ⟨q,abx _ _ _ (.inl q)⟩
  refine codeAny_call_function aj.depth (ko _ _ lk) rfl S.co S.gen rfl (PySem.W.codeRec_of ko lq) (af _ _ _ _ ?_);refine wpAny_newFunctionEnv_cells S.kind Rl fun env he s1 x=>?_
  subst he;refine ⟨lim.keeps x.toInCall.keep,codeAny_func ?_⟩;obtain ⟨t,c_,a4⟩:=EY A outer s H vs Q E (aj.deeper _) jX;have J:Inv (qD CX P w K ai base N qual scope f gd A outer s H E) [] (start N vs) H s1:=abR S aj.hd da aB r x;refine wpAny_mono (c_ [] s1 (start N vs) H _ J a4) (fun iH aO aC=>?_) fun e aO aC=>aC
  have fin:∀ {aQ:St} {I:ah} {v:V} {u:Value},Inv (qD CX P w K ai base N qual scope f gd A outer s H E) [] aQ I aO->bx v u->Q v I->Fi outer P w H s Q u aO:=
    fun {aQ I v u} cE b8 q=>⟨v,I,cE.os,cE.bare,cE.base,cE.bz,b8,q⟩
  cases iH with
  | ret u=>
    obtain ⟨v,aQ,I,cE,b8,q⟩:=aC;exact fin cE b8 q
  | next=>
    obtain ⟨aQ,I,cE,q⟩:=aC;exact fin (v:=V.b4) (u:=pB) cE rfl q
  | brk=>
    obtain ⟨_,_,_,q⟩:=aC;exact kG q
  | cont=>
    obtain ⟨_,_,_,q⟩:=aC;exact kG q
section
variable {X:a6} {x:Str} {p pos:Pos} {e:Expr} {aL:List Expr} {t:eI} {id T:String} {r:List V->ah->cm->Prop}
noncomputable def xS (r:List V->ah->cm->Prop) (t:eI):TE:=fun σ H Q=>t σ H fun vs H1=>r vs H1 Q
theorem hZ (aq:mw X (.builtin id) r) (a9:ip X x) (hm:X.ai x=none) (aK:bootBuiltins x=some (.builtin id)) (aS:ck X (e :: aL) t) (a0:x ≠ "__name__" := by decide) (f5:(x == ("__debug__" : Str))=false:=by decide)
  (he:starEach (e :: aL) X.env=(false,eval e X.env) :: starEach aL X.env:=by rfl) (d1:(backTo pos (starEach aL X.env)).any (·.1)=false:=by rfl):bD X (.Call (.Name x p) (e :: aL) [] pos) (xS r t):=by
 intro ae s σ H Q J h;refine wpAny_Call_Name_kw (ss J a9 hm aK ?_ a0 f5);exact aiC (bM (aS pos ae s σ H _ J h) fun us s1 ⟨vs,H1,aY,bO,bQ⟩=>aq ae s1 σ H1 vs us Q aY bO bQ) he d1
theorem ie (aq:mw X (.type T) r) (a9:ip X x) (hm:X.ai x=none) (aK:bootBuiltins x=some (.type T)) (aS:ck X (e :: aL) t) (a0:x ≠ "__name__" := by decide) (f5:(x == ("__debug__" : Str))=false:=by decide)
  (he:starEach (e :: aL) X.env=(false,eval e X.env) :: starEach aL X.env:=by rfl) (d1:(backTo pos (starEach aL X.env)).any (·.1)=false:=by rfl):bD X (.Call (.Name x p) (e :: aL) [] pos) (xS r t):=by
 intro ae s σ H Q J h;refine wpAny_Call_Name_kw (ss J a9 hm aK ?_ a0 f5);exact u1 (bM (aS pos ae s σ H _ J h) fun us s1 ⟨vs,H1,aY,bO,bQ⟩=>aq ae s1 σ H1 vs us Q aY bO bQ) he d1
end
end L2
namespace fa
open PySem PyProof.Rows
section
open PySem.SeqAt
open PySem.AutoSeq1 (wpAny_loadPart')
open PySem.MeetsSeq PySem.MeetsSeq2 PySem.MeetsSeq3
end
section
variable {prog:Program} {w:World} {A:Around} {E:Value->Shared->Prop} {s:Shared}
noncomputable def cA (n d:Nat):Option Int->Nat
 | none=>d
 | some v=>if v < 0 then (v + (n:Int)).toNat else min v.toNat n
theorem YJ (n d:Nat) (hd:d <= n) (o:Option Int):cA n d o <= n:=by
 cases o with
 | none=>exact hd
 | some v=>
  show (if v < 0 then (v + (n:Int)).toNat else min v.toNat n) <= n;by_cases aK:v < 0
  .rw [if_pos aK];omega
  .rw [if_neg aK];exact Nat.min_le_right _ _
theorem KF (v:Int) (n d:Nat):(if v < 0 then max (v + (n:Int)) 0 else min v (n:Int))=((cA n d (some v):Nat):Int):=by
 show (if v < 0 then max (v + (n:Int)) 0 else min v (n:Int))=(((if v < 0 then (v + (n:Int)).toNat else min v.toNat n):Nat):Int);by_cases aK:v < 0
 .simp only [if_pos aK];omega
 .simp only [if_neg aK];omega
theorem afm (lo ak:Option Int) (n:Nat):Lv lo ak 1 (n:Int)=(((cA n 0 lo:Nat):Int),((cA n n ak:Nat):Int)):=by
 have ag:¬ ((1:Int) < 0):=by omega
 unfold Lv;simp only [ag,if_false];refine Prod.ext ?_ ?_
 .cases lo with
  | none=>rfl
  | some v=>exact KF v n 0
 .cases ak with
  | none=>rfl
  | some v=>exact KF v n n
theorem Wj (i j:Nat):Gx (i:Int) (j:Int) 1=j - i:=by
 unfold Gx;have ag:(1:Int) > 0:=by omega
 simp only [ag,if_true,Sv];split <;> omega
theorem ww (p:IsPart v o) (h:Q o s):wpAny (model prog w) A (aiw v) Q E s:=by
 cases p with
 | none=>exact slicePart_none h
 | int i t=>exact slicePart_int h
theorem SO {dv:Addr} {ix iq:Value} {lo ak:Option Int} {n:Nat} {Q:Int × Int × Nat->Shared->Prop} (aC:s.heap.IsSliceOf dv ix iq .none) (pl:IsPart ix lo) (pu:IsPart iq ak)
  (h:Q (((cA n 0 lo:Nat):Int),1,cA n n ak - cA n 0 lo) s):wpAny (model prog w) A (ab7 (.ref dv) (pure (n:Int))) Q E s:=by
 obtain ⟨os,vm,uF,zO⟩:=id aC;unfold ab7 ah_;refine wpAny_bind (wpAny_bind (wpAny_field vm zO (x:=ix) rfl (wpAny_bind (wpAny_field vm zO (x:=iq) rfl (wpAny_bind (wpAny_field vm zO (x:=.none) rfl (wpAny_pure ?_)))))));refine wpAny_bind (slicePart_none ?_);show wpAny _ _ (if ((1:Int) == 0)=true then _ else _) _ _ s;rw [if_neg (by decide)];refine wpAny_bind (ww pl (wpAny_bind (ww pu (wpAny_bind (wpAny_pure ?_)))));show wpAny _ _ (match Lv lo ak 1 (n:Int) with | (lo,ak)=>pure (lo,(1:Int),Gx lo ak 1)) _ _ s;rw [afm lo ak n];show wpAny _ _ (pure (((cA n 0 lo:Nat):Int),(1:Int),Gx ((cA n 0 lo:Nat):Int) ((cA n n ak:Nat):Int) 1)) _ _ s;rw [Wj];exact wpAny_pure h
theorem Tw (xs:Array Value) (i k:Nat):((dG k).filterMap fun (m:Nat)=>xs[((i:Int) + (m:Int) * 1).toNat]?).toArray=((xs.toList.drop i).take k).toArray:=by
 have e:(fun (m:Nat)=>xs[((i:Int) + (m:Int) * 1).toNat]?)=fun m=>xs[i + m]?:=by
  funext m;have:((i:Int) + (m:Int) * 1).toNat=i + m:=by omega
  rw [this]
 rw [e];have:=pick_run xs i k;rw [List.filterMap_map] at this;have aD:((fun x=>xs[x]?) ∘ fun x=>i + x)=fun m=>xs[i + m]?:=rfl
 rw [aD] at this;rw [this]
theorem acu {t dv:Addr} {items:Array Value} {ix iq:Value} {lo ak:Option Int} {Q:Value->Shared->Prop} (c_:IsTup s.heap t items) (aC:s.heap.IsSliceOf dv ix iq .none) (pl:IsPart ix lo) (pu:IsPart iq ak)
  (hw:¬ (cA items.size 0 lo=0/\cA items.size items.size ak=items.size))
  (h:Q (.ref s.heap.objs.size) { s with heap:=s.heap.push { cls:=.type "tuple",data:=.seq ((items.toList.drop (cA items.size 0 lo)).take (cA items.size items.size ak - cA items.size 0 lo)).toArray } })
  (hsz:items.size <= sizeLine):wpAny (model prog w) A (getItem (.ref t) (.ref dv)) Q E s:=by
 have y_:sizeOk (.seq ((items.toList.drop (cA items.size 0 lo)).take (cA items.size items.size ak - cA items.size 0 lo)).toArray):=by
  show ((items.toList.drop (cA items.size 0 lo)).take (cA items.size items.size ak - cA items.size 0 lo)).toArray.size <= sizeLine;rw [eR,fq,Of,oI];omega
 have bb:cA items.size items.size ak <= items.size:=YJ _ _ (bW _) ak;obtain ⟨os,vm,uF,zO⟩:=id aC;have T6:s.TypeIs (.ref dv) "slice" := ⟨os,vm,uF⟩;unfold getItem
 try with_reducible refine wpAny_holding ?_
 first | refine wpAny_bind (wpAny_pure ?_) | skip
 refine wpAny_bind (wpAny_sequenceKey c_.typeIs (by decide) ?_);refine wpAny_bind (wpAny_callSpecial?_slot (name:=aa "__getitem__") c_.typeIs L0
  (wpAny_call_entry L0 c_.typeIs entry_tuple_getitem ?_ (args_tuple_getitem _ _)))
 show wpAny _ _ (ahg (.ref t) >>= _) _ _ s;refine wpAny_bind (tupleItemsOf_ c_ ?_);refine wpAny_bind (wpAny_typeOf T6 ?_);rw [if_pos (by decide)];refine wpAny_bind (SO aC pl pu ?_);have rh:¬ ((((cA items.size 0 lo:Nat):Int) == 0 && (1:Int) == 1 && (cA items.size items.size ak - cA items.size 0 lo) == items.size)=true):=by
  intro q;rw [iV,iV] at q;have bQ:((cA items.size 0 lo:Nat):Int)=0:=eq_of_beq q.1.1;have eK:cA items.size items.size ak - cA items.size 0 lo=items.size:=eq_of_beq q.2;exact hw ⟨by omega,by omega⟩
 show wpAny _ _ (if (((cA items.size 0 lo:Nat):Int) == 0 && (1:Int) == 1 && (cA items.size items.size ak - cA items.size 0 lo) == items.size)=true then _ else _) _ _ s;rw [if_neg rh,Tw]
 first
  | exact wpAny_bind (m:=CZ _) (wpAny_newObj_type (wpAny_pure ⟨_,rfl,wpAny_pure h⟩) y_)
  | exact wpAny_bind (m:=CZ _) (wpAny_newObj_type (wpAny_bind (wpAny_pure (wpAny_pure ⟨_,rfl,wpAny_pure h⟩))) y_)
  | exact wpAny_bind (wpAny_bind (m:=CZ _) (wpAny_newObj_type (wpAny_pure (wpAny_pure ⟨_,rfl,wpAny_pure h⟩)) y_))
  | exact wpAny_bind (wpAny_bind (m:=CZ _) (wpAny_newObj_type (wpAny_pure ⟨_,rfl,wpAny_pure h⟩) y_))
end
end fa
namespace L2
open PySem PySem.Spec PyProof.Rows
noncomputable abbrev tA:=St->ah->(Option Int->ah->Prop)->Prop
noncomputable def gm (X:a6) (e:Option Expr) (t:tA):Prop:=
 ∀ (ae:List (Addr × Obj)) (s:Shared) (σ:St) (H:ah) (Q:Option Int->ah->Prop),Inv X ae σ H s->t σ H Q ->
  wpAny (model X.prog X.w) X.A (evalPart e X.env) (fun u aO=>∃ o I,Inv X ae σ I aO/\IsPart u o/\Q o I) X.dj s
noncomputable def Ip:tA:=fun _ H Q=>Q none H
noncomputable def H0 (t:TE):tA:=fun σ H Q=>t σ H fun x H1=>fb x fun i=>Q (some i) H1
theorem Xp {ns:List Int}:∀ {us:List Value},bS (ns.map V.int) us->IntsAre us ns:=by
 induction ns with
 | nil=>intro us r;rw [hE] at r;cases r;exact .nil
 | cons n ns b2=>
  intro us r;rw [dP] at r;cases r with
  | cons bO dn=>
   obtain ⟨t,e⟩:=bO;subst e;exact .cons n t (b2 dn)
section
variable {X:a6} {e:Expr} {bJ:TE} {lo ak:Option Expr} {c9 tl:tA} {pos dQ:Pos}
theorem wX:gm X none Ip:=by
 intro ae s σ H Q J h;rw [evalPart_none];exact wpAny_pure ⟨none,H,J,.none,h⟩
theorem qx (h:bD X e bJ):gm X (some e) (H0 bJ):=by
 intro ae s σ H Q J hw;rw [evalPart_some];refine bM (h ae s σ H _ J hw) fun u s1 b7=>d2 b7 fun x H1 aY bO bQ=>?_
 obtain ⟨i,rfl,q⟩:=fb.out bQ;obtain ⟨t,rfl⟩:=bO;exact ⟨some i,H1,aY,.int i t,q⟩
noncomputable def zv (X:a6) (r:V->Option Int->Option Int->ah->cm->Prop):Prop:=
 ∀ (ae:List (Addr × Obj)) (s:Shared) (σ:St) (H:ah) (x:V) (v ix iq:Value) (lo ak:Option Int) (dv:Addr) (Q:cm),Inv X ae σ H s->bx x v->s.heap.IsSliceOf dv ix iq .none->IsPart ix lo->IsPart iq ak->r x lo ak H Q ->
  ∃ T id,typeLookup (.type T) "__getitem__"=pure (some (.builtin id))/\s.TypeIs v T/\wpAny (model X.prog X.w) X.A (getItem v (.ref dv)) (gs X ae σ Q) X.dj s
noncomputable def HF (r:V->Option Int->Option Int->ah->cm->Prop) (bJ:TE) (c9 tl:tA):TE:=fun σ H Q=>bJ σ H fun x H1=>c9 σ H1 fun l az=>tl σ az fun u cj=>r x l u cj Q
theorem rv (aj:zv X r) (he:bD X e bJ) (aB:gm X lo c9) (bE:gm X ak tl):bD X (.Subscript e (.Slice lo ak none dQ) pos) (HF r bJ c9 tl):=by
 intro ae s σ H Q J h;refine Subscript_ (bM (he ae s σ H _ J h) fun v s1 b7=>d2 b7 fun x H1 aY bO bQ=>?_);refine wpAny_Slice (bM (aB ae s1 σ H1 _ aY bQ) fun ix s2 ⟨l,az,bX,pl,eK⟩=>bM (bE ae s2 σ az _ bX eK) fun iq s3 ct=>?_);obtain ⟨u,cj,gH,pu,kT⟩:=ct;rw [evalPart_none];refine wpAny_pure ?_;have gO:Inv X ae σ cj { s3 with heap:=s3.heap.push { cls:=.type "slice",data:=.fields #[ix,iq,.none] } }:=gH.kept (t':=s3.toks) fun b b6 q=>er _ q
 obtain ⟨T,id,iY,c_,a9⟩:=aj ae { s3 with heap:=s3.heap.push { cls:=.type "slice",data:=.fields #[ix,iq,.none] } } σ cj x v ix iq l u s3.heap.objs.size Q gO bO (aic ..) pl pu kT;show wpAny (model X.prog X.w) X.A (subscriptTail e (.Slice lo ak none dQ) v (.ref s3.heap.objs.size)) (gs X ae σ Q) X.dj { s3 with heap:=s3.heap.push { cls:=.type "slice",data:=.fields #[ix,iq,.none] } };exact tail_any (ops:=[.ref s3.heap.objs.size,v]) c_ iY a9 (by with_unfolding_all rfl)
noncomputable def kK (xs:List V) (lo ak:Option Int):List V:=(xs.drop (fa.cA xs.length 0 lo)).take (fa.cA xs.length xs.length ak - fa.cA xs.length 0 lo)
theorem Ku (xs:List V) (lo ak:Option Int):(kK xs lo ak).length <= xs.length:=by
 unfold kK;rw [fq,Of];omega
noncomputable def NX (K:a'):V->Option Int->Option Int->ah->cm->Prop:=fun x lo ak H Q=>∃ a xs,x=.ref a/\cU K H a xs /\
 ¬ (fa.cA xs.length 0 lo=0/\fa.cA xs.length xs.length ak=xs.length)/\∀ p,H p=none->Q (.ref p) (upd H p (.tup (kK xs lo ak)))
theorem ae1:zv X (NX X.K):=by
 intro ae s σ H x v ix iq lo ak dv Q J bp aC pl pu h;obtain ⟨a,xs,rfl,ao,hw,q⟩:=h;cases bp;obtain ⟨aV,r,c_,ay⟩:=J.tuple ao;have hlen:aV.toArray.size=xs.length:=by rw [eR];exact r.length.symm
 refine ⟨"tuple",_,L0.lookup,c_.typeIs,?_⟩;refine fa.acu c_ aC pl pu (by rw [hlen];exact hw) ?_ (by rw [hlen];exact ay);rw [hlen];refine ⟨.ref s.heap.objs.size,_,J.laid (t':=s.toks) (o:=.tup (kK xs lo ak)) (fun b b6 q=>er _ q) (bW _) ?_,rfl,q _ (J.bz.fresh (bW _))⟩;exact ⟨⟨cp (Ku xs lo ak) ay,_,e6 _ rfl,rfl⟩,_,(r.drop (fa.cA xs.length 0 lo)).take (fa.cA xs.length xs.length ak - fa.cA xs.length 0 lo),IsTup.new _ _⟩
end
noncomputable def mg (n:Nat) (i:Int):Option Nat:=if 0 <= i then (if i < n then some i.toNat else none) else if -(n:Int) <= i then some (i + n).toNat else none
noncomputable def iZ {α:Type} (xs:List α) (i:Int):Option α:=(mg xs.length i).bind fun j=>xs[j]?
theorem LG (h:mg n i=some j):seqIndex? i n=some j/\j < n/\-(n:Int) <= i/\i < n:=by
 unfold mg at h;by_cases h0:0 <= i
 .rw [if_pos h0] at h;by_cases ag:i < n
  .rw [if_pos ag] at h;have e:i.toNat=j:=dZ h;exact ⟨by rw [seqIndex_of h0 ag,e],by omega,by omega,ag⟩
  .rw [if_neg ag] at h;cases h
 .rw [if_neg h0] at h;by_cases ag:-(n:Int) <= i
  .rw [if_pos ag] at h;have e:(i + n).toNat=j:=dZ h;exact ⟨by rw [seqIndex_neg (by omega) ag,e],by omega,ag,by omega⟩
  .rw [if_neg ag] at h;cases h
theorem EP (h:iZ xs i=some v):∃ j,seqIndex? i xs.length=some j/\xs[j]? = some v/\j < xs.length/\-(xs.length:Int) <= i/\i < xs.length:=by
 unfold iZ at h;cases e:mg xs.length i with
 | none=>rw [e] at h;cases h
 | some j=>
  rw [e] at h;obtain ⟨ag,ar,bc,cb⟩:=LG e;exact ⟨j,ag,h,ar,bc,cb⟩
theorem dh {α:Type} {xs:List α} {j:Nat} {v:α} (h:xs[j]? = some v):iZ xs (j:Int)=some v:=by
 have bb:j < xs.length:=(cW.mp h).1;have e:mg xs.length (j:Int)=some j:=by
  unfold mg;rw [if_pos (by omega),if_pos (by omega)];simp
 unfold iZ;rw [e];exact h
noncomputable def LV (b:Expr):Prop:=∀ o i,subscripted b false o i=operate [o,i] (getItem o i)
noncomputable def tp (X:a6) (r:fV):Prop:=
 ∀ (value slice:Expr) (ae:List (Addr × Obj)) (s:Shared) (σ:St) (H:ah) (x y:V) (v u:Value) (Q:cm),Inv X ae σ H s->bx x v->bx y u->r x y H Q ->
  subscripted slice false v u=operate [v,u] (getItem v u)->wpAny (model X.prog X.w) X.A (subscriptTail value slice v u) (gs X ae σ Q) X.dj s
noncomputable def n5 (X:a6) (id:String) (r:V->List V->ah->cm->Prop):Prop:=
 ∀ (ae:List (Addr × Obj)) (s:Shared) (σ:St) (H:ah) (x:V) (xs:List V) (v:Value) (us:List Value) (Q:cm),Inv X ae σ H s->bx x v->bS xs us->r x xs H Q ->
  wpAny (model X.prog X.w) X.A (call (.builtin id) (v :: us)) (gs X ae σ Q) X.dj s
section
variable {X:a6} {a b:Expr} {aZ cB:TE} {pos:Pos}
theorem Yp (aj:tp X r) (aS:bD X a aZ) (af:bD X b cB) (aC:LV b):bD X (.Subscript a b pos) (pw r aZ cB):=by
 intro ae s σ H Q J h;exact Subscript_ (E2 aS af J h fun v u s2 x y az bX bp bH q=>aj a b ae s2 σ az x y v u Q bX bp bH q (aC _ _))
noncomputable def Ia (K:a'):fV:=fun x y H Q=>ed x fun p=>∃ xs,fb y fun i=>aH K H p xs/\∃ v,iZ xs i=some v/\Q v H
noncomputable def IM (K:a'):fV:=fun x y H Q=>ed x fun p=>∃ xs,fb y fun i=>cU K H p xs/\∃ v,iZ xs i=some v/\Q v H
noncomputable def Iv:fV:=fun x y H Q=>∃ z i c,x=.str z/\y=.int i/\z.length <= sizeLine/\iZ z.cps.toList i=some c/\Q (.str ⟨#[c]⟩) H
theorem dm:tp X (Ia X.K):=by
 intro value slice ae s σ H x y v u Q J bp bH h aC;obtain ⟨p,rfl,xs,fM⟩:=ed.out h;obtain ⟨i,rfl,a4,z,he,q⟩:=fb.out fM;cases bp;obtain ⟨t,rfl⟩:=bH;obtain ⟨aV,r,pl,ay⟩:=J.list a4;obtain ⟨j,ag,ar,bc,cb,ej⟩:=EP he;obtain ⟨w,y3,jY⟩:=r.get ar;have aB:=r.length;have a0:=qz;have fin:gs X ae σ Q w s:=⟨z,H,J,jY,q⟩;by_cases h0:0 <= i
 .have bb:i.toNat=j:=by
   rw [seqIndex_of h0 ej] at ag;exact dZ ag
  exact item_listR pl.isList h0 (by omega) (by rw [bb];simpa using y3) fin aC
 .have bb:(i + (aV.toArray.size:Int)).toNat=j:=by
   rw [seqIndex_neg (by omega) cb] at ag;rw [eR,<- aB];exact dZ ag
  exact subscriptTail_builtinR (x:=w) pl.isList.typeIs slot_list_getitem.lookup
   (wpAny_getItem_list_neg (Q:=fun r aO=>r=w/\gs X ae σ Q r aO) pl.isList (by omega) (by rw [eR] <;> omega) (by omega) (by rw [bb];simpa using y3) ⟨rfl,fin⟩) aC
theorem wn:tp X (IM X.K):=by
 intro value slice ae s σ H x y v u Q J bp bH h aC;obtain ⟨p,rfl,xs,fM⟩:=ed.out h;obtain ⟨i,rfl,a4,z,he,q⟩:=fb.out fM;cases bp;obtain ⟨t,rfl⟩:=bH;obtain ⟨aV,r,pl,ay⟩:=J.tuple a4;obtain ⟨j,ag,ar,bc,cb,ej⟩:=EP he;obtain ⟨w,y3,jY⟩:=r.get ar;have aB:=r.length;have a0:=qz;have fin:gs X ae σ Q w s:=⟨z,H,J,jY,q⟩;exact subscriptTail_builtinR (x:=w) pl.typeIs slot_tuple_getitem.lookup
  (getItem_tuple (j:=j) (Q:=fun r aO=>r=w/\gs X ae σ Q r aO) pl (by omega) (by omega) (by rw [eR,<- aB];exact ag) (by simpa using y3) ⟨rfl,fin⟩) aC
theorem vK:tp X Iv:=by
 intro value slice ae s σ H x y v u Q J bp bH h aC;obtain ⟨z,i,c,rfl,rfl,ay,he,q⟩:=h;obtain ⟨t,rfl⟩:=bp;obtain ⟨t',rfl⟩:=bH;obtain ⟨j,ag,ar,bc,cb,ej⟩:=EP he;have aB:z.cps.toList.length=z.length:=by simp [lK]
 rw [aB] at ag cb ej;have a0:=qz;exact tail_any (typeIs_str s z t) slot_str_getitem.lookup (getItem_str (c:=c) (by
  have ax:decide (i < -(2 ^ 63:Int))=false:=decide_eq_false (by omega);have aD:decide (i ≥ 2 ^ 63)=false:=decide_eq_false (by omega);rw [ax,aD,Kh]) (by rw [ag];simpa using ar) ⟨.str ⟨#[c]⟩,H,J.tok _,⟨_,rfl⟩,q⟩) aC
theorem Yg (aV:List Value) (n j:Nat) (u:Value):qw (·.setIfInBounds j u) { cls:=.type "list",data:=.seq aV.toArray n } = { cls:=.type "list",data:=.seq (aV.set j u).toArray n }:=by
 simp [qw]
theorem Inv.lst {p:Addr} (J:Inv X ae σ H s) (h:H p=some (.lst xs)) :
  ∃ (aV:List Value) (n:Nat),bS xs aV/\s.heap.get? p=some { cls:=.type "list",data:=.seq aV.toArray n }/\xs.length <= sizeLine:=by
 obtain ⟨z,aV,n,r,e⟩:=J.bz p _ h;exact ⟨aV,n,r,e,z⟩
theorem Inv.W4 {p:Addr} {aV its':List Value} (J:Inv X ae σ H s) (h:H p=some (.lst xs))
  (aX:s.heap.get? p=some { cls:=.type "list",data:=.seq aV.toArray n }) (hf:f { cls:=.type "list",data:=.seq aV.toArray n } = { cls:=.type "list",data:=.seq its'.toArray eB }) (r:bS ys its') (ay:ys.length <= sizeLine) (t:Nat) :
  Inv X ae σ (upd H p (.lst ys)) { s with heap:=s.heap.update p f,toks:=t }:=by
 have e:(s.heap.update p f).get? p=some { cls:=.type "list",data:=.seq its'.toArray eB }:=by
  rw [Bw f aX (by rw [hf] <;> rfl),hf]
 refine J.write (x:=p) (e:=p) (by rw [h];trivial) (.inl rfl) (fun b u af q=>(qR _ _ (eY af)).trans q) ⟨_,e⟩ ?_;exact ⟨ay,its',eB,r,e⟩
noncomputable def Eh:V->V->V->ah->(ah->Prop)->Prop:=fun o i v H Q=>ed o fun p=>∃ xs,fb i fun k=>H p=some (.lst xs)/\∃ j,mg xs.length k=some j/\Q (upd H p (.lst (xs.set j v)))
theorem yU:Ln X Eh:=by
 intro ae s σ H o i v dz iu u Q J afR Ii b8 h;obtain ⟨p,rfl,xs,fM⟩:=ed.out h;obtain ⟨k,rfl,aw,j,bb,q⟩:=fb.out fM;cases afR;obtain ⟨t,rfl⟩:=Ii;obtain ⟨aV,n,r,aX,ay⟩:=J.lst aw;obtain ⟨ag,ar,bc,cb⟩:=LG bb;have aB:=r.length;have a0:=qz;have jO:Inv X ae σ (upd H p (.lst (xs.set j v))) { s with heap:=s.heap.update p (qw (·.setIfInBounds j u)) }:=
  J.W4 aw aX (Yg aV n j u) (r.set b8 j) (by rw [UY];exact ay) s.toks
 by_cases h0:0 <= k
 .have aI:k.toNat=j:=by
   rw [seqIndex_of h0 cb] at ag;exact dZ ag
  exact PySem.W.ki_setAt aX h0 (by omega) (by rw [eR,<- aB];exact cb) (by rw [aI];exact ⟨_,jO,q⟩)
 .have aI:(k + (aV.toArray.size:Int)).toNat=j:=by
   rw [seqIndex_neg (by omega) bc] at ag;rw [eR,<- aB];exact dZ ag
  exact PySem.W.ki_setBack aX (by omega) (by rw [eR,<- aB];exact bc) (by omega) (by rw [aI];exact ⟨_,jO,q⟩)
theorem Ty (lo ak:Option Int) (n:Nat):(sliceBounds lo ak none n).1=((fa.cA n 0 lo:Nat):Int)/\(sliceBounds lo ak none n).2.1=((fa.cA n n ak:Nat):Int)/\(sliceBounds lo ak none n).2.2=1:=by
 refine ⟨?_,?_,rfl⟩
 .cases lo with
  | none=>simp [sliceBounds,fa.cA]
  | some i=>
   simp only [sliceBounds,fa.cA,Vo,show (1:Int) > 0 by decide,if_true];by_cases h:i < 0
   .simp only [h,if_true] <;> omega
   .simp only [h,if_false] <;> omega
 .cases ak with
  | none=>simp [sliceBounds,fa.cA]
  | some i=>
   simp only [sliceBounds,fa.cA,Vo,show (1:Int) > 0 by decide,if_true];by_cases h:i < 0
   .simp only [h,if_true] <;> omega
   .simp only [h,if_false] <;> omega
theorem abp (aV:List Value) (lo ak:Option Int):slicePick aV.toArray lo ak none=((aV.drop (fa.cA aV.length 0 lo)).take (fa.cA aV.length aV.length ak - fa.cA aV.length 0 lo)).toArray:=by
 obtain ⟨ag,ar,bc⟩:=Ty lo ak aV.toArray.size;unfold slicePick;rw [ag,ar,bc];simp only [sliceRange_one,pick_run,eR] <;> rfl
noncomputable def Dn (K:a'):V->Option Int->Option Int->ah->cm->Prop:=fun x lo ak H Q=>∃ a xs,x=.ref a/\aH K H a xs/\∀ p,H p=none->Q (.ref p) (upd H p (.lst (kK xs lo ak)))
theorem J':zv X (Dn X.K):=by
 intro ae s σ H x v ix iq lo ak dv Q J bp aC pl pu h;obtain ⟨a,xs,rfl,ao,q⟩:=h;cases bp;obtain ⟨aV,r,c_,ay⟩:=J.list ao;have hlen:=r.length;refine ⟨"list",_,slot_list_getitem.lookup,c_.isList.typeIs,?_⟩;refine wpAny_getItem_list_slice c_.isList aC pl pu .none (by simp) ?_ (by rw [eR] <;> omega);rw [abp,<- hlen];refine ⟨.ref s.heap.objs.size,_,J.laid (t':=s.toks) (o:=.lst (kK xs lo ak)) (fun b b6 q=>er _ q) (bW _) ?_,rfl,q _ (J.bz.fresh (bW _))⟩;exact ⟨cp (Ku xs lo ak) ay,_,0,(r.drop (fa.cA xs.length 0 lo)).take (fa.cA xs.length xs.length ak - fa.cA xs.length 0 lo),e6 _ rfl⟩
noncomputable def kt:V->Bool
 | .b4=>true
 | .bk _=>true
 | .int _=>true
 | .str _=>true
 | _=>false
noncomputable def la:V->V->Bool
 | .b4,.b4=>true
 | .bk a,.bk b=>a == b
 | .bk a,.int b=>(if a then 1 else 0) == b
 | .int a,.bk b=>a == (if b then 1 else 0)
 | .int a,.int b=>a == b
 | .str a,.str b=>a == b
 | _,_=>false
theorem V8 {A:Around} {y x:V} (bH:bx y u) (bp:bx x v) (aec:kt y=true) (j7:kt x=true):abb A s u v (la y x):=by
 cases y with
 | b4=>
  cases bH;cases x with
  | b4=>cases bp;exact SeqAt.EqAt.same _
  | bk b=>cases bp;exact SeqAt.EqAt.none_bool b
  | int b=>obtain ⟨t,rfl⟩:=bp;exact SeqAt.EqAt.none_int b t
  | str b=>obtain ⟨t,rfl⟩:=bp;exact SeqAt.EqAt.none_str b t
  | _=>exact absurd (show false=true from j7) gp
 | bk a=>
  cases bH;cases x with
  | b4=>cases bp;exact SeqAt.EqAt.bool_none a
  | bk b=>cases bp;exact SeqAt.EqAt.bool_bool a b
  | int b=>obtain ⟨t,rfl⟩:=bp;exact SeqAt.EqAt.bool_int a b t
  | str b=>obtain ⟨t,rfl⟩:=bp;exact SeqAt.EqAt.bool_str a b t
  | _=>exact absurd (show false=true from j7) gp
 | int a=>
  obtain ⟨t',rfl⟩:=bH;cases x with
  | b4=>cases bp;exact SeqAt.EqAt.int_none a t'
  | bk b=>cases bp;exact SeqAt.EqAt.int_bool a t' b
  | int b=>obtain ⟨t,rfl⟩:=bp;exact SeqAt.EqAt.int_int a t' b t
  | str b=>obtain ⟨t,rfl⟩:=bp;exact Ui a t' b t
  | _=>exact absurd (show false=true from j7) gp
 | str a=>
  obtain ⟨t',rfl⟩:=bH;cases x with
  | b4=>cases bp;exact SeqAt.EqAt.str_none a t'
  | bk b=>cases bp;exact SeqAt.EqAt.str_bool a t' b
  | int b=>obtain ⟨t,rfl⟩:=bp;exact Sf a t' b t
  | str b=>obtain ⟨t,rfl⟩:=bp;exact SeqAt.EqAt.str_str a t' b t
  | _=>exact absurd (show false=true from j7) gp
 | _=>exact absurd (show false=true from aec) gp
noncomputable def i8 (x:V) (u:Value):Bool:=match u with
 | .none=>la .b4 x
 | .bool b=>la (.bk b) x
 | .int i _=>la (.int i) x
 | .str z _=>la (.str z) x
 | _=>false
theorem Kl {x y:V} (r:bx y u) (f:kt y=true):i8 x u=la y x:=by
 cases y with
 | b4=>cases r;rfl
 | bk b=>cases r;rfl
 | int i=>obtain ⟨t,rfl⟩:=r;rfl
 | str z=>obtain ⟨t,rfl⟩:=r;rfl
 | _=>exact absurd (show false=true from f) gp
theorem vI {x:V}:∀ {xs:List V} {us:List Value},bS xs us->xs.all kt=true->us.any (i8 x)=xs.any fun y=>la y x
 | _,_,.nil,_=>rfl
 | y :: xs,u :: us,.cons r t,f=>by
  rw [aex,iV] at f;rw [uN,uN,Kl r f.1,vI t f.2]
theorem xr {A:Around} {x:V} (bp:bx x v) (j7:kt x=true):∀ {xs:List V} {us:List Value},bS xs us->xs.all kt=true->∀ u ∈ us,abb A s u v (i8 x u)
 | _,_,.nil,_=>fun u bE=>by cases bE
 | y :: xs,u :: us,.cons r t,f=>fun iR bE=>by
  rw [aex,iV] at f;rcases cP.mp bE with rfl | bE
  .rw [Kl r f.1];exact V8 r bp f.1 j7
  .exact xr bp j7 t f.2 iR bE
noncomputable def mM (x:V) (xs:List V):Bool:=xs.any fun y=>la y x
noncomputable def AP (K:a') (neg:Bool):fV:=fun x y H Q=>∃ p xs,y=.ref p/\(aH K H p xs\/cU K H p xs)/\kt x=true/\xs.all kt=true/\Q (.bk (if neg then !mM x xs else mM x xs)) H
theorem rD:gE X (compareOp .In) (AP X.K false):=by
 intro ae s σ H x y v u Q J bp bH h;obtain ⟨p,xs,rfl,a4,j7,a_,q⟩:=h;cases bH;rcases a4 with a4 | a4
 .obtain ⟨aV,r,pl,ay⟩:=J.list a4;refine SeqAt.in_listAt (i8 x) pl.isList (fun w hw=>xr bp j7 r a_ w (by simpa using hw)) ⟨.bk _,H,J,rfl,?_⟩;rw [show aV.toArray.any (i8 x)=aV.any (i8 x) by simp,vI r a_];exact q
 .obtain ⟨aV,r,pl,ay⟩:=J.tuple a4;refine SeqAt.in_tupleAt (i8 x) pl (fun w hw=>xr bp j7 r a_ w (by simpa using hw)) ⟨.bk _,H,J,rfl,?_⟩;rw [show aV.toArray.any (i8 x)=aV.any (i8 x) by simp,vI r a_];exact q
theorem tz:gE X (compareOp .NotIn) (AP X.K true):=by
 intro ae s σ H x y v u Q J bp bH h;obtain ⟨p,xs,rfl,a4,j7,a_,q⟩:=h;cases bH;rcases a4 with a4 | a4
 .obtain ⟨aV,r,pl,ay⟩:=J.list a4;refine SeqAt.notIn_listAt (i8 x) pl.isList (fun w hw=>xr bp j7 r a_ w (by simpa using hw)) ⟨.bk _,H,J,rfl,?_⟩;rw [show aV.toArray.any (i8 x)=aV.any (i8 x) by simp,vI r a_];exact q
 .obtain ⟨aV,r,pl,ay⟩:=J.tuple a4;refine SeqAt.notIn_tupleAt (i8 x) pl (fun w hw=>xr bp j7 r a_ w (by simpa using hw)) ⟨.bk _,H,J,rfl,?_⟩;rw [show aV.toArray.any (i8 x)=aV.any (i8 x) by simp,vI r a_];exact q
theorem jx:mw X (.builtin "len") (fun xs H Q=>kI xs fun x=>ed x fun p=>∃ ys,(aH X.K H p ys\/cU X.K H p ys)/\Q (.int ys.length) H):=by
 intro ae s σ H xs us Q J r h;obtain ⟨agp,rfl,fM⟩:=kI.out h;obtain ⟨p,rfl,ys,a4,q⟩:=ed.out fM;obtain ⟨u,rfl,bp⟩:=ks r;cases bp;have a0:=qz;rcases a4 with a4 | a4
 .obtain ⟨aV,fu,pl,ay⟩:=J.list a4;have hlen:=fu.length;exact Calls.call_len_list pl.isList (by simp only [eR] <;> omega) ⟨.int ys.length,H,J.tok _,⟨s.toks + 1,by rw [eR,hlen]⟩,q⟩
 .obtain ⟨aV,fu,pl,ay⟩:=J.tuple a4;have hlen:=fu.length;exact len_tuple pl (by simp only [eR] <;> omega) ⟨.int ys.length,H,J.tok _,⟨s.toks + 1,by rw [eR,hlen]⟩,q⟩
theorem abU:mw X (.builtin "len") (fun xs H Q=>∃ z,xs=[.str z]/\z.length <= sizeLine/\Q (.int z.length) H):=by
 intro ae s σ H xs us Q J r h;obtain ⟨z,rfl,ay,q⟩:=h;obtain ⟨u,rfl,t,rfl⟩:=ks r;have a0:=qz;exact len_str (by omega) ⟨.int z.length,H,J.tok _,⟨_,rfl⟩,q⟩
noncomputable def AJ (K:a') (T:String) (x:V) (H:ah):Prop:=match x with
 | .str _=>T = "str"
 | .int _=>T = "int"
 | .ref p=>(T = "list" /\ ∃ xs,aH K H p xs)\/(T = "tuple" /\ ∃ o,K.lookup p=some o/\o.cls=.type "tuple" /\ o.dict=none) \/
   (T = "dict" /\ ((∃ kvs,H p=some (.bV kvs))\/∃ kvs,H p=some (.dw kvs)))\/(T = "set" /\ ∃ S n,H p=some (.set S n))
 | _=>False
theorem I9 {x:V} (J:Inv X ae σ H s) (r:bx x v) (ty:AJ X.K T x H) :
  s.TypeIs v T/\∀ a,v=.ref a->∃ b6,s.heap.get? a=some b6/\b6.dict=none:=by
 cases x with
 | str z=>
  obtain ⟨t,rfl⟩:=r;cases (show T = "str" from ty);exact ⟨typeIs_str s z t,fun _ e=>nomatch e⟩
 | int i=>
  obtain ⟨t,rfl⟩:=r;cases (show T = "int" from ty);exact ⟨typeIs_int s i t,fun _ e=>nomatch e⟩
 | ref p=>
  cases r;rcases ty with ⟨rfl,xs,a4⟩ | ⟨rfl,o,aI,aq,hd⟩ | ⟨rfl,aI⟩ | ⟨rfl,S,n,aI⟩
  .obtain ⟨aV,_,pl,_⟩:=J.list a4;refine ⟨pl.isList.typeIs,fun a e=>?_⟩;cases e;obtain ⟨o,n,e,c,hd,_⟩:=pl;exact ⟨o,e,hd⟩
  .refine ⟨⟨o,J.gU p o aI,aq⟩,fun a e=>?_⟩;cases e;exact ⟨o,J.gU _ o aI,hd⟩
  .have z:∃ o,s.heap.get? p=some o/\o.ExactDict:=by
    rcases aI with ⟨kvs,aI⟩ | ⟨kvs,aI⟩
    .obtain ⟨_,_,_,_,o,_,_,e,ex,_⟩:=J.bz p _ aI;exact ⟨o,e,ex⟩
    .obtain ⟨_,_,_,_,o,_,_,e,ex,_⟩:=J.bz p _ aI;exact ⟨o,e,ex⟩
   obtain ⟨o,e,ex⟩:=z;refine ⟨⟨o,e,ex.1⟩,fun a aD=>?_⟩;cases aD;exact ⟨o,e,ex.2.1⟩
  .obtain ⟨o,_,_,_,e,ex,_⟩:=J.bz p _ aI;refine ⟨⟨o,e,ex.1⟩,fun a aD=>?_⟩;cases aD;exact ⟨o,e,ex.2.1⟩
 | _=>exact kG ty
noncomputable def E8 (K:a') (T:String) (r:V->List V->ah->cm->Prop) (to:TE):TE:=fun σ H Q=>to σ H fun x H1=>AJ K T x H1/\r x [] H1 Q
noncomputable def FD (K:a') (T:String) (r:V->List V->ah->cm->Prop) (to:TE) (t:eI):TE:=fun σ H Q=>to σ H fun x H1=>AJ K T x H1/\t σ H1 fun xs az=>r x xs az Q
variable {o e:Expr} {aL:List Expr} {to:TE} {t:eI} {name:Str} {fh hs:Pos} {T id:String} {r:V->List V->ah->cm->Prop}
theorem OJ (G2:PlainAttrs T) (slot:Slot T name id) (GV:typeOf (.builtin id)=pure (.type "method_descriptor")) (hm:n5 X id r) (aX:bD X o to)
  (HC:attributeBase o name X.env (eval o X.env)=eval o X.env:=by rfl) (H4:(fh.endLine == hs.line)=true:=by rfl):bD X (.Call (.Attribute o name fh) [] [] hs) (E8 X.K T r to):=by
 intro ae s σ H Q J h;refine wpAny_Call_method0_late HC H4 (bM (aX ae s σ H _ J h) fun v s1 ct=>?_);obtain ⟨x,H1,aY,bO,ty,bQ⟩:=ct;obtain ⟨ag,ar⟩:=I9 aY bO ty;exact ⟨T,id,G2,slot,GV,ag,ar,Ue rfl (PySem.evalArgs_none (hm ae s1 σ H1 x [] v [] Q aY bO .nil bQ))⟩
theorem ff (G2:PlainAttrs T) (slot:Slot T name id) (GV:typeOf (.builtin id)=pure (.type "method_descriptor")) (hm:n5 X id r) (aX:bD X o to) (aS:ck X (e :: aL) t)
  (HC:attributeBase o name X.env (eval o X.env)=eval o X.env:=by rfl)
  (YA:((backTo hs (starEach (e :: aL) X.env)).all (fun x=>!x.1) && (backToKw hs (keywordEach [] X.env)).all (fun x=>x.1.isSome)
   && decide ((e :: aL).length + ([]:List Keyword).length + (if ([]:List Keyword).isEmpty then 0 else 1) < 30))=true:=by rfl)
  (H4:(fh.endLine == hs.line)=true:=by rfl) (aC:starEach (e :: aL) X.env=(false,eval e X.env) :: starEach aL X.env:=by rfl) (hplain:(backTo hs (starEach aL X.env)).any (·.1)=false:=by rfl) :
  bD X (.Call (.Attribute o name fh) (e :: aL) [] hs) (FD X.K T r to t):=by
 intro ae s σ H Q J h;refine wpAny_Call_method_late HC YA H4 rfl (bM (aX ae s σ H _ J h) fun v s1 ct=>?_);obtain ⟨x,H1,aY,bO,ty,bQ⟩:=ct;obtain ⟨ag,ar⟩:=I9 aY bO ty;refine ⟨T,id,G2,slot,GV,ag,ar,?_⟩;have lB:=aS hs ae s1 σ H1 _ aY bQ;rw [aC] at lB ⊢;refine Ue (by show (false || (backTo hs (starEach aL X.env)).any (·.1))=false;rw [hplain] <;> rfl) (Calls.evalArgs_plain ?_);exact bM lB fun us s2 ⟨vs,az,bX,dn,eK⟩=>hm ae s2 σ az x vs v us Q bX bO dn eK
end
noncomputable def CV (X:a6) (id:String) (r:V->List V->ah->cm->Prop):Prop:=
 ∀ (ae:List (Addr × Obj)) (s:Shared) (σ:St) (H:ah) (x:V) (xs:List V) (v:Value) (us:List Value) (Q:cm),Inv X ae σ H s->bx x v->bS xs us->r x xs H Q ->
  wpAny (model X.prog X.w) X.A (call (.builtin id) (v :: us)) (gs X ae σ Q) X.dj s
theorem bS.one:∀ {x:V} {us:List Value},bS [x] us->∃ u,us=[u]/\bx x u
 | _,_,.cons r .nil=>⟨_,rfl,r⟩
theorem bS.zero:∀ {us:List Value},bS [] us->us=[]
 | _,.nil=>rfl
theorem bS.reverse (h:bS xs us):bS xs.reverse us.reverse:=by
 induction h with
 | nil=>exact .nil
 | cons r t b2=>rw [UW,UW];exact bS.append b2 (.cons r .nil)
section
variable {X:a6} {ae:List (Addr × Obj)} {σ:St} {H:ah} {s:Shared} {l b:Addr} {xs ys zs:List V}
theorem Inv.HL {aV its':List Value} (J:Inv X ae σ H s) (iT:H l=some (.lst xs))
  (e:s.heap.get? l=some { cls:=.type "list",data:=.seq aV.toArray n }) (hf:f aV.toArray=its'.toArray) (aK:bS ys its') (ay:ys.length <= sizeLine) :
  Inv X ae σ (upd H l (.lst ys)) { s with heap:=s.heap.update l (qw f),toks:=t' }:=by
 have q:=PySem.IsL.update e f;rw [hf] at q;refine J.write (x:=l) (e:=l) (by rw [iT];exact trivial) (.inl rfl) (fun sa u af bE=>(qR s.heap (qw f) (eY af)).trans bE) ⟨_,q⟩ ?_;exact ⟨ay,its',_,aK,q⟩
theorem Inv.acs {aV:List Value} (J:Inv X ae σ H s) (aK:bS ys aV) (ay:ys.length <= sizeLine) :
  Inv X ae σ (upd H s.heap.objs.size (.lst ys)) { s with heap:=s.heap.push { cls:=.type "list",data:=.seq aV.toArray },toks:=t' }:=
 J.laid (fun _ _ q=>er _ q) (bW _) ⟨ay,aV,0,aK,e6 _ rfl⟩
theorem Inv.fresh (J:Inv X ae σ H s):H s.heap.objs.size=none:=J.bz.fresh (bW _)
theorem Inv.sO (J:Inv X ae σ H s) (iT:H l=some (.lst xs)):xs.length <= sizeLine/\∃ (aV:List Value) (n:Nat),bS xs aV/\xs.length=aV.length/\s.heap.get? l=some { cls:=.type "list",data:=.seq aV.toArray n }:=by
 obtain ⟨z,aV,n,r,e⟩:=J.bz l _ iT;exact ⟨z,aV,n,r,r.length,e⟩
theorem aez (h:n <= sizeLine):Ob n=false:=by
 unfold Ob;exact decide_eq_false (by omega)
end
section
variable {X:a6}
noncomputable def Fz:V->List V->ah->cm->Prop:=fun x vs H Q=>ed x fun l=>kI vs fun y=>∃ xs,H l=some (.lst xs)/\xs.length < sizeLine/\Q .b4 (upd H l (.lst (xs ++ [y])))
theorem oP:CV X "list.append" Fz:=by
 intro ae s σ H x vs v us Q J bp b8 h;obtain ⟨l,rfl,fM⟩:=ed.out h;obtain ⟨y,rfl,xs,iT,ay,q⟩:=kI.out fM;cases bp;obtain ⟨u,rfl,dU⟩:=b8.one;obtain ⟨z,aV,n,r,aB,e⟩:=J.sO iT;refine call_meets n1 ⟨_,e,rfl⟩ F.entry_list_append (F.args_list_append_2 _ _) (PySem.list_append l aV.toArray n u (by rw [eR];omega)) ⟨e,?_⟩;refine ⟨.b4,_,J.HL (its':=aV ++ [u]) iT e (by simp) (r.append (.cons dU .nil)) ?_,rfl,q⟩;rw [eV,O5];omega
noncomputable def Ik:V->List V->ah->cm->Prop:=fun x vs H Q=>∃ l b xs zs,x=.ref l/\vs=[.ref b]/\H l=some (.lst xs)/\H b=some (.lst zs)/\xs.length + zs.length <= sizeLine/\Q .b4 (upd H l (.lst (xs ++ zs)))
theorem WM:CV X "list.extend" Ik:=by
 intro ae s σ H x vs v us Q J bp b8 h;obtain ⟨l,b,xs,zs,rfl,rfl,iT,iW,ay,q⟩:=h;cases bp;obtain ⟨u,rfl,dU⟩:=b8.one;cases dU;obtain ⟨z,aV,n,r,aB,e⟩:=J.sO iT;obtain ⟨e3,p',cQ,dn,qF,aD⟩:=J.sO iW;have hsz:aV.toArray.size + p'.toArray.size <= sizeLine:=by rw [eR,eR];omega
 have afG:¬ (!aV.toArray.isEmpty && Ob (aV.toArray.size + p'.toArray.size))=true:=by
  rw [aez hsz,Us];exact gp
 refine call_meets Rv ⟨_,e,rfl⟩ F.entry_list_extend (F.args_list_extend_2 _ _)
  (AutoSeq1.list_extend_list_list_0 l aV.toArray n b p'.toArray cQ afG (by rw [eR];omega) (by omega)) ⟨e,aD,?_⟩
 refine ⟨.b4,_,J.HL (its':=aV ++ p') iT e (by simp) (r.append dn) ?_,rfl,q⟩;rw [eV];omega
noncomputable def F7:V->List V->ah->cm->Prop:=fun x vs H Q=>∃ l xs,x=.ref l/\vs=[]/\H l=some (.lst xs)/\Q .b4 (upd H l (.lst xs.reverse))
theorem af9:CV X "list.reverse" F7:=by
 intro ae s σ H x vs v us Q J bp b8 h;obtain ⟨l,xs,rfl,rfl,iT,q⟩:=h;cases bp;have FW:=b8.zero;subst FW;obtain ⟨z,aV,n,r,aB,e⟩:=J.sO iT;refine call_meets afV ⟨_,e,rfl⟩ F.entry_list_reverse (F.args_list_reverse_1 _) (AutoSeq1.list_reverse_list_0 l aV.toArray n (by rw [eR];omega)) ⟨e,?_⟩;refine ⟨.b4,_,J.HL (its':=aV.reverse) iT e (by simp) r.reverse ?_,rfl,q⟩;rw [pj];omega
noncomputable def Iw:fV:=fun x y H Q=>∃ l b xs zs,x=.ref l/\y=.ref b/\H l=some (.lst xs)/\H b=some (.lst zs)/\xs.length + zs.length <= sizeLine/\∀ p,H p=none->Q (.ref p) (upd H p (.lst (xs ++ zs)))
theorem aaI:gE X (binaryOp .Add) Iw:=by
 intro ae s σ H x y v u Q J bp bH h;obtain ⟨l,b,xs,zs,rfl,rfl,iT,iW,ay,q⟩:=h;cases bp;cases bH;obtain ⟨z,aV,n,r,aB,e⟩:=J.sO iT;obtain ⟨e3,p',cQ,dn,qF,aD⟩:=J.sO iW;refine PySem.P.add_list e aD ?_ (by rw [eR,eR];omega);have hH:aV.toArray ++ p'.toArray=(aV ++ p').toArray:=by simp
 rw [hH];exact ⟨.ref _,_,J.acs (t':=s.toks) (r.append dn) (by rw [eV];omega),rfl,q _ J.fresh⟩
end
section
variable {prog:Program} {w:World} {A:Around} {E:Value->Shared->Prop} {s:Shared}
end
section
variable {X:a6}
end
section
variable {eL:Type} [DecidableEq eL]
noncomputable def c8 (kvs:List (eL × V)) (k:eL):Option V:=(kvs.find? fun c1=>decide (c1.1=k)).map (·.2)
noncomputable def eA (kvs:List (eL × V)) (k:eL) (v:V):List (eL × V):=
 if (kvs.any fun c1=>decide (c1.1=k))=true then kvs.map (fun c1=>if c1.1=k then (c1.1,v) else c1) else kvs ++ [(k,v)]
theorem lP {p:eL × V} {k:eL} (e:p.1=k):c8 (p :: r) k=some p.2:=by simp [c8,pY,e]
theorem lI {p:eL × V} {k:eL} (e:¬ p.1=k):c8 (p :: r) k=c8 r k:=by simp [c8,pY,e]
theorem y7 (k:eL):∀ kvs:List (eL × V),(kvs.any fun c1=>decide (c1.1=k))=(c8 kvs k).isSome
 | []=>rfl
 | p :: r=>by
  rw [uN];by_cases e:p.1=k
  .simp only [lP e,decide_eq_true e,BO,Option.isSome_some]
  .rw [lI e,decide_eq_false e,xp];exact y7 k r
theorem OQ (k j:eL) (y:V):∀ kvs:List (eL × V),c8 (kvs.map fun c1=>if c1.1=k then (c1.1,y) else c1) j=(c8 kvs j).map fun x=>if j=k then y else x
 | []=>rfl
 | p :: r=>by
  have b2:=OQ k j y r;rw [dP];by_cases h:p.1=k
  .rw [if_pos h];by_cases e:p.1=j
   .rw [lP (p:=(p.1,y)) e,lP e,Cd,if_pos (e.symm.trans h)]
   .rw [lI (p:=(p.1,y)) e,lI e,b2]
  .rw [if_neg h];by_cases e:p.1=j
   .rw [lP (p:=p) e,lP e,Cd,if_neg (fun z=>h (e.trans z))]
   .rw [lI (p:=p) e,lI e,b2]
theorem Pt (k j:eL) (y:V):∀ kvs:List (eL × V),c8 kvs k=none->c8 (kvs ++ [(k,y)]) j=if j=k then some y else c8 kvs j
 | [],_=>by
  by_cases e:k=j
  .rw [if_pos e.symm];exact lP (p:=(k,y)) e
  .rw [if_neg (fun z=>e z.symm)];exact lI (p:=(k,y)) e
 | p :: r,a0=>by
  rw [mP];have aI:¬ p.1=k:=fun z=>by rw [lP z] at a0;cases a0
  rw [lI aI] at a0;have b2:=Pt k j y r a0;by_cases e:p.1=j
  .rw [lP e,lP e,if_neg (fun z=>aI (e.trans z))]
  .rw [lI e,lI e,b2]
theorem Pe (kvs:List (eL × V)) (k j:eL) (y:V):c8 (eA kvs k y) j=if j=k then some y else c8 kvs j:=by
 unfold eA;by_cases a:(kvs.any fun c1=>decide (c1.1=k))=true
 .rw [if_pos a,OQ];rw [y7] at a;by_cases e:j=k
  .obtain ⟨x,ao⟩:=aet.mp a;rw [if_pos e,e,ao,Cd,if_pos rfl]
  .rw [if_neg e];cases c8 kvs j with
   | none=>rfl
   | some x=>rw [Cd,if_neg e]
 .rw [if_neg a];refine Pt k j y kvs ?_;rw [y7] at a;cases q:c8 kvs k with
  | none=>rfl
  | some x=>rw [q] at a;exact (a rfl).elim
theorem I8 (kvs:List (eL × V)) (k:eL) (v:V):(eA kvs k v).length <= kvs.length + 1:=by
 unfold eA;split
 .rw [a8];omega
 .rw [eV,fp,AN];omega
theorem i0.D5 (r:i0 o u):o.isSome=u.isSome:=by
 cases o with
 | none=>cases u with
  | none=>rfl
  | some _=>exact (show False from r).elim
 | some _=>cases u with
  | none=>exact (show False from r).elim
  | some _=>rfl
theorem fx.val (r:fx kvs vs) (k:eL):i0 (c8 kvs k) (valueAt vs k):=by
 unfold fx at r
 induction r with
 | nil=>exact q6
 | @cons p q ps qs h t b2=>
  obtain ⟨ag,ar⟩:=h;by_cases e:p.1=k
  .have b5:q.1=k:=ag.symm.trans e;have b:valueAt (q :: qs) k=some q.2:=by simp [valueAt,pY,b5]
   rw [lP e,b];exact ar
  .have b5:¬ q.1=k:=fun z=>e (ag.trans z)
   have b:valueAt (q :: qs) k=valueAt qs k:=by simp [valueAt,pY,b5]
   rw [lI e,b];exact b2
theorem fx.any (r:fx kvs vs) (k:eL):(kvs.any fun c1=>decide (c1.1=k))=vs.any fun c1=>decide (c1.1=k):=by
 unfold fx at r
 induction r with
 | nil=>rfl
 | cons h t b2=>rw [uN,uN,b2,h.1]
theorem fx.DN (r:fx kvs vs) (k:eL) (bH:bx y u) :
  fx (kvs.map fun c1=>if c1.1=k then (c1.1,y) else c1) (vs.map fun c1=>if c1.1=k then (c1.1,u) else c1):=by
 unfold fx at r ⊢
 induction r with
 | nil=>exact .nil
 | @cons p q ps qs h t b2=>
  rw [dP,dP];refine .cons ?_ b2;obtain ⟨ag,ar⟩:=h;by_cases e:p.1=k
  .rw [if_pos e,if_pos (ag.symm.trans e)];exact ⟨ag,bH⟩
  .rw [if_neg e,if_neg (fun z=>e (ag.trans z))];exact ⟨ag,ar⟩
theorem fx.put (r:fx kvs vs) (k:eL) (bH:bx y u):fx (eA kvs k y) (stored vs k u):=by
 unfold eA stored;rw [r.any k];by_cases e:(vs.any fun c1=>decide (c1.1=k))=true
 .rw [if_pos e,if_pos e];exact r.DN k bH
 .rw [if_neg e,if_neg e];exact JQ r ⟨rfl,bH⟩
theorem fx.length (r:fx kvs vs):kvs.length=vs.length:=Hk r
end
theorem x2 {w:World} {k:Key} (r:bx (dM k) u):(hy P w).is k u=true:=by
 cases k with
 | inl i=>obtain ⟨t,e⟩:=(show ∃ t,u=mL i t from r);subst e;exact ZL P w i t
 | inr x=>obtain ⟨t,e⟩:=(show ∃ t,u=tK x t from r);subst e;exact adz P w x t
theorem M8 {w:World}:∀ {bC:List Key} {us:List Value},bS (bC.map dM) us->ItemsAre (hy P w) bC us
 | [],_,r=>by rw [hE] at r;cases r;exact .nil
 | k :: bC,_,r=>by
  rw [dP] at r;cases r with
  | cons h t=>exact .cons (x2 h) (M8 t)
noncomputable abbrev KT (H:ah):List (List Key × V)->List (List Key × Addr × Value)->Prop:=Paired fun p q=>p.1=q.1/\H q.2.1=some (.tup (p.1.map dM))/\bx p.2 q.2.2
theorem KT.val (r:KT H kvs xs) (k:List Key):i0 (c8 kvs k) ((atKey xs k).map (·.2)):=by
 induction r with
 | nil=>exact q6
 | @cons p q ps qs h t b2=>
  obtain ⟨ag,_,ar⟩:=h;by_cases e:p.1=k
  .have b5:q.1=k:=ag.symm.trans e;have b:atKey (q :: qs) k=some q.2:=by simp [atKey,pY,b5]
   rw [lP e,b];exact ar
  .have b5:¬ q.1=k:=fun z=>e (ag.trans z)
   have b:atKey (q :: qs) k=atKey qs k:=by simp [atKey,pY,b5]
   rw [lI e,b];exact b2
theorem KT.DN (r:KT H kvs xs) (k:List Key) (bH:bx y u) :
  KT H (kvs.map fun c1=>if c1.1=k then (c1.1,y) else c1) (xs.map (putAt k u)):=by
 induction r with
 | nil=>exact .nil
 | @cons p q ps qs h t b2=>
  rw [dP,dP];refine .cons ?_ b2;obtain ⟨ag,ar,bc⟩:=h;unfold putAt;by_cases e:p.1=k
  .rw [if_pos e,if_pos (ag.symm.trans e)];exact ⟨ag,ar,bH⟩
  .rw [if_neg e,if_neg (fun z=>e (ag.trans z))];exact ⟨ag,ar,bc⟩
theorem KT.put (r:KT H kvs xs) (k:List Key) (af:H b=some (.tup (k.map dM))) (bH:bx y u) :
  KT H (eA kvs k y) (storedH xs k b u):=by
 have e:(kvs.any fun c1=>decide (c1.1=k))=(atKey xs k).isSome:=by
  rw [y7,(r.val k).D5,Wm]
 unfold eA storedH;rw [e];by_cases q:(atKey xs k).isSome=true
 .rw [if_pos q,if_pos q];exact r.DN k bH
 .rw [if_neg q,if_neg q];exact JQ r ⟨rfl,af,bH⟩
theorem KT.keeps (r:KT H kvs xs) (c_:∀ b ys,H b=some (.tup ys)->I b=some (.tup ys)):KT I kvs xs:=
 Paired.EF r fun _ _ z=>⟨z.1,c_ _ _ z.2.1,z.2.2⟩
section
variable {P:Program} {w:World} {H:ah} {h:Heap} {a:Addr}
theorem Np (ok:eN P w H h) (e:j5 H a u):fo P w H h a u:=e.ok ok
theorem Ap (ok:eN P w H h) (e:j5 H a (.bV kvs)):kvs.length <= sizeLine/\(a == sysModules)=false/\∃ vs,fx kvs vs/\h.DictOf (hy P w) a vs:=
 show fo P w H h a (.bV kvs) from Np ok e
theorem z4 (ok:eN P w H h) (e:H a=some (.bV kvs)):kvs.length <= sizeLine/\(a == sysModules)=false/\∃ vs,fx kvs vs/\h.DictOf (hy P w) a vs:=Ap ok (.inl e)
theorem zz {bC:List Key} (ok:eN P w H h) (e:H a=some (.tup (bC.map dM))):(tupleKind (hy P w)).is h bC a:=by
 obtain ⟨_,aV,r,o,ag,ar,n,bc⟩:=(show fo P w H h a (.tup (bC.map dM)) from ok a _ e);exact ⟨o,aV.toArray,n,ag,ar,bc,by simpa using M8 r⟩
theorem y6 (ok:eN P w H h) (e:j5 H a (.dw kvs)):kvs.length <= sizeLine/\(a == sysModules)=false /\
  ∃ xs,KT H kvs xs/\h.DictOfH (tupleKind (hy P w)) a xs:=by
 obtain ⟨z,y,xs,r,o,aL,cC,ag,ar,bc,cb,ej⟩:=(show fo P w H h a (.dw kvs) from Np ok e);refine ⟨z,y,xs,r,o,aL,cC,ag,ar,bc,cb,fun x ao=>?_,ej⟩;have all:∀ {l:List (List Key × V)} {m:List (List Key × Addr × Value)},KT H l m->∀ x ∈ m,(tupleKind (hy P w)).is h x.1 x.2.1:=by
  intro l m q
  induction q with
  | nil=>intro x ao;exact nomatch ao
  | @cons p q ps qs a4 t b2=>
   intro x ao;rcases cP.mp ao with e | ao
   .subst e;exact zz ok (by rw [<- a4.1];exact a4.2.1)
   .exact b2 x ao
 exact all r x ao
theorem afE (ok:eN P w H h) (e:H a=some (.dw kvs)):kvs.length <= sizeLine/\(a == sysModules)=false /\
  ∃ xs,KT H kvs xs/\h.DictOfH (tupleKind (hy P w)) a xs:=y6 ok (.inl e)
end
noncomputable def Ev (H:ah) (a:Addr) (y:V) (r:Option V):Prop:=
 (∃ kvs k,j5 H a (.bV kvs)/\y=dM k/\r=c8 kvs k)\/∃ kvs k b,j5 H a (.dw kvs)/\y=.ref b/\H b=some (.tup (k.map dM))/\r=c8 kvs k
noncomputable def k2 (H:ah) (a:Addr) (y v:V) (I:ah):Prop:=
 (∃ kvs k,H a=some (.bV kvs)/\y=dM k/\kvs.length < sizeLine/\I=upd H a (.bV (eA kvs k v))) \/
 ∃ kvs k b,H a=some (.dw kvs)/\y=.ref b/\H b=some (.tup (k.map dM))/\kvs.length < sizeLine/\I=upd H a (.dw (eA kvs k v))
theorem Ev.k {k:Key} (e:H a=some (.bV kvs)):Ev H a (dM k) (c8 kvs k):=.inl ⟨kvs,k,.inl e,rfl,rfl⟩
theorem k2.k {k:Key} (e:H a=some (.bV kvs)) (aB:kvs.length < sizeLine):k2 H a (dM k) v (upd H a (.bV (eA kvs k v))):=.inl ⟨kvs,k,e,rfl,aB,rfl⟩
section
variable {X:a6} {ae:List (Addr × Obj)} {σ:St} {H:ah} {s:Shared} {a:Addr} {y v:V} {u r:Value} {o:Option V} {A:Around} {E:Value->Shared->Prop}
theorem Inv.big (J:Inv X ae σ H s):sysModules < s.heap.objs.size:=by
 have h:mainGlobals < s.heap.objs.size:=(J.mod.glob.keeps J.bw).lt;exact Xf (by decide) h
theorem afx (bE:A.units + 1 < cLine) (J:Inv X ae σ H s) (g:Ev H a y (some v)) (bH:bx y u) (h:∀ hl aO,Inv X ae σ H aO->bx v hl->Q hl aO) :
  wpAny (model X.prog X.w) A (getItem (.ref a) u) Q E s:=by
 rcases g with ⟨kvs,k,e,kb,l⟩ | ⟨kvs,k,b,e,kb,e8,l⟩
 .subst kb;obtain ⟨z,hd,vs,rel,eS⟩:=Ap J.bz e;obtain ⟨hl,hw,jY⟩:=i0.some_of (v:=v) (o:=valueAt vs k) (by rw [l];exact rel.val k);exact wpAny_getItem_of (x2 bH) eS.mapOf hw (h hl _ (J.tok _) jY)
 .subst kb;cases (show u=fC b from bH);obtain ⟨z,hd,xs,rel,eS⟩:=y6 J.bz e;obtain ⟨hl,hw,jY⟩:=i0.some_of (v:=v) (o:=(atKey xs k).map (·.2)) (by rw [l];exact rel.val k);obtain ⟨p,aw,d8⟩:=WA.mp hw;refine wpAny_getItem_heap (tupleKind_room_in1 bE) (zz J.bz e8) eS aw ?_;rw [d8];exact h hl _ (J.tok _) jY
theorem UQ (bE:A.units + 1 < cLine) (J:Inv X ae σ H s) (g:Ev H a y o) (bH:bx y u) (h:∀ aO,Inv X ae σ H aO->Q (.bool (!o.isSome)) aO) :
  wpAny (model X.prog X.w) A (compareOp .NotIn u (.ref a)) Q E s:=by
 rcases g with ⟨kvs,k,e,kb,l⟩ | ⟨kvs,k,b,e,kb,e8,l⟩
 .subst kb;obtain ⟨z,hd,vs,rel,eS⟩:=Ap J.bz e;refine wpAny_notIn_of (x2 bH) hd eS.mapOf ?_;rw [<- (rel.val k).D5,<- l];exact h _ (J.tok _)
 .subst kb;cases (show u=fC b from bH);obtain ⟨z,hd,xs,rel,eS⟩:=y6 J.bz e;refine wpAny_notIn_heap (tupleKind_room_in1 bE) (zz J.bz e8) hd eS ?_;have q:=(rel.val k).D5;rw [Wm] at q;rw [<- q,<- l];exact h _ (J.tok _)
theorem KW (J:Inv X ae σ H s) (iv:r_ (H a)) (aC:sG a s.heap h') (he:∃ q,h'.get? a=some q) (new:fo X.prog X.w (upd H a b6) h' a b6) :
  Inv X ae σ (upd H a b6) { s with heap:=h',toks:=t' }:=
 J.write (x:=a) (e:=a) iv (.inl rfl) (fun b q af z=>(aC.2 b af).trans z) he new
theorem Vz {w:World} (z:kvs.length <= sizeLine) (hd:(a == sysModules)=false) (rel:fx kvs vs) (eS:h'.DictOf (hy P w) a vs) :
  fo P w I h' a (.bV kvs):=⟨z,hd,vs,rel,eS⟩
theorem acG (bE:A.units + 1 < cLine) (J:Inv X ae σ H s) (g:k2 H a y v I) (bH:bx y u) (b8:bx v r) (h:∀ aO,Inv X ae σ I aO->Q () aO) :
  wpAny (model X.prog X.w) A (setItem (.ref a) u r) Q E s:=by
 rcases g with ⟨kvs,k,e,kb,l,G'⟩ | ⟨kvs,k,b,e,kb,e8,l,G'⟩
 .subst kb G';obtain ⟨z,hd,vs,rel,eS⟩:=z4 J.bz e;have ay:vs.length <= sizeLine:=by rw [<- rel.length];exact z
  have aB:(eA kvs k v).length <= sizeLine:=by have:=I8 kvs k v;omega
  refine wpAny_setItem_pairs (hsz:=ay) (x2 bH) eS fun h' yc aC=>h _ ?_
  have he:∃ q,h'.get? a=some q:=let ⟨q,_,_,a4,_⟩:=yc;⟨q,a4⟩;exact KW J (by rw [e];exact q6) aC he (Vz aB hd (rel.put k b8) yc)
 .subst kb G';cases (show u=fC b from bH);obtain ⟨z,hd,xs,rel,eS⟩:=afE J.bz e;have ay:xs.length <= sizeLine:=by rw [<- Hk rel];exact z
  have aB:(eA kvs k v).length <= sizeLine:=by have:=I8 kvs k v;omega
  refine wpAny_setItem_heap (hsz:=ay) (tupleKind_room_in1 bE) (zz J.bz e8) eS fun h' yc aC=>h _ ?_
  obtain ⟨q,aL,cC,a4,ar,bc,cb,_,ej⟩:=yc;refine KW J (by rw [e];exact q6) aC ⟨q,a4⟩ ⟨aB,hd,_,(rel.put k e8 b8).keeps fun c ys JY=>?_,q,aL,cC,a4,ar,bc,cb,ej⟩;rw [aW (dH JY e (fun z=>nomatch z))];exact JY
end
section
variable {X:a6} {ae:List (Addr × Obj)} {σ:St} {H:ah} {s:Shared} {a:Addr} {kvs:List (Key × V)} {k:Key} {u:Value} {A:Around} {E:Value->Shared->Prop}
end
noncomputable def CT (i:Expr):Prop:=∀ dz iu,subscripted i false dz iu=operate [dz,iu] (getItem dz iu)
theorem JA {prog:Program} {w:World} {A:Around} {E:Value->Shared->Prop} {s:Shared} {env:Env} {value slice:Expr} {pos:Pos} {T id:String} {Q:Value->Shared->Prop}
  (aB:typeLookup (.type T) "__getitem__"=pure (some (.builtin id))) (aC:CT slice)
  (h:wpAny (model prog w) A (eval value env) (fun o cN=>wpAny (model prog w) A (eval slice env) (fun i df=>df.TypeIs o T/\wpAny (model prog w) A (getItem o i) Q E df) E cN) E s) :
  wpAny (model prog w) A (eval (.Subscript value slice pos) env) Q E s:=by
 refine Subscript_ (wpAny_mono h (fun o cN h₁=>wpAny_mono h₁ (fun i df tT=>?_) fun _ _ x=>x) fun _ _ x=>x);obtain ⟨iY,tT⟩:=tT;unfold subscriptTail;refine wpAny_bind ?_;rw [getitemInPython_of_ne iY.not_modules];refine wpAny_bind (wpAny_specialOf iY aB ?_);have fin:wpAny (model prog w) A (subscripted slice false o i) (fun r kB=>wpAny (model prog w) A (letTemporaryGo value o r >>= fun _=>pure r) Q E kB) E df:=by
  rw [aC o i];exact wpAny_operating (wpAny_mono tT (fun r kB BK=>wpAny_bind (wpAny_letTemporaryGo (wpAny_pure BK))) fun _ _ x=>x)
 first
  | exact wpAny_pure (wpAny_bind fin)
  | exact wpAny_bind (wpAny_pure (wpAny_bind fin))
  | exact wpAny_bind fin
theorem Xg (J:Inv X ae σ H s) (g:Ev H a y o):s.TypeIs (.ref a) "dict" := by
 rcases g with ⟨kvs,k,e,_,_⟩ | ⟨kvs,k,b,e,_,_,_⟩
 .obtain ⟨_,_,vs,_,eS⟩:=Ap J.bz e;exact eS.typeIs
 .obtain ⟨_,_,xs,_,eS⟩:=y6 J.bz e;exact eS.typeIs
noncomputable def GM (hT ty:TE):TE:=fun σ H Q=>hT σ H fun x H1=>ty σ H1 fun y az=>ed x fun a=>∃ v,Ev az a y (some v)/\Q v az
noncomputable def Gy (ty hT:TE):TE:=fun σ H Q=>ty σ H fun y H1=>hT σ H1 fun x az=>ed x fun a=>∃ o,Ev az a y o/\Q (.bk (!o.isSome)) az
noncomputable def Hw (hT ty gY:TE):en:=fun D σ H=>gY σ H fun v H1=>hT σ H1 fun x az=>ty σ az fun y cj=>ed x fun a=>∃ dC,k2 cj a y v dC/\D.cF σ dC
section
variable {X:a6} {o i e value:Expr} {pos pos' rO:Pos} {hT ty gY:TE}
theorem lX (bE:X.A.units + 1 < cLine) (aX:bD X o hT) (ak:bD X i ty) (aC:CT i):bD X (.Subscript o i pos) (GM hT ty):=by
 intro ae s σ H Q J h;refine JA Wk.lookup aC (bM (aX ae s σ H _ J h) fun u s1 b7=>d2 b7 fun x H1 aY bp bQ=>bM (ak ae s1 σ H1 _ aY bQ) fun iu s2 b7=>d2 b7 fun y az bX bH gq=>?_);obtain ⟨a,ex,v,g,eK⟩:=ed.out gq;subst ex;obtain rfl:u=fC a:=bp;exact ⟨Xg bX g,afx bE bX g bH fun hl s3 gH jY=>⟨v,az,gH,jY,eK⟩⟩
theorem OH (bE:X.A.units + 1 < cLine) (ak:bD X i ty) (aX:bD X o hT):NL X .NotIn i o (Gy ty hT):=by
 intro ae s σ H Q J h;refine bM (ak ae s σ H _ J h) fun iu s1 b7=>d2 b7 fun y H1 aY bH bQ=>bM (aX ae s1 σ H1 _ aY bQ) fun u s2 b7=>d2 b7 fun x az bX bp gq=>?_
 obtain ⟨a,ex,dz,g,eK⟩:=ed.out gq;subst ex;obtain rfl:u=fC a:=bp;exact UQ bE bX g bH fun s3 gH=>⟨.bk (!dz.isSome),az,gH,rfl,eK⟩
theorem o_ (bE:X.A.units + 1 < cLine) (aX:bD X o hT) (ak:bD X i ty) (aK:bD X value gY) (aC:swapsWith value (some (.Subscript o i pos')) pos.line X.env=pure false) :
  gS X (.Assign [.Subscript o i pos'] value pos) (Hw hT ty gY):=by
 intro ae s σ H D J h;refine wpAny_Assign_Subscript (bM (aK ae s σ H _ J h) fun r s1 b7=>d2 b7 fun v H1 aY b8 bQ=>bM (aX ae s1 σ H1 _ aY bQ) fun u s2 b7=>d2 b7 fun x az bX bp eK=>bM (ak ae s2 σ az _ bX eK) fun iu s3 b7=>d2 b7 fun y cj gH bH gq=>?_) aC;obtain ⟨a,ex,dC,g,kT⟩:=ed.out gq;subst ex;obtain rfl:u=fC a:=bp;exact acG bE gH g bH b8 fun s4 gO=>⟨σ,dC,gO,kT⟩
end
theorem Vj {w:World} (h:Heap) (af:sysModules < h.objs.size):fo P w H (h.push { cls:=.type "dict",data:=.dict #[] }) h.objs.size (.bV []):=
 ⟨gi _,beq_eq_false_iff_ne.mpr (eY (e9 af)),[],.nil,Heap.DictOf.new h⟩
noncomputable def CF:TE:=fun _ H Q=>∀ p,H p=none->Q (.ref p) (upd H p (.bV []))
section
variable {X:a6} {pos:Pos}
theorem nY:bD X (.Dict [] [] pos) CF:=fun ae s σ H Q J h=>
 wpAny_Dict_empty ⟨.ref s.heap.objs.size,_,J.laid (a:=s.heap.objs.size) (o:=.bV []) (t':=s.toks) (fun _ _ q=>er _ q) (bW _) (Vj s.heap J.big),rfl,h _ (J.bz.fresh (bW _))⟩
end
structure agT (X:a6) (o:Expr) (m:Str) (fh:Pos) (e:Expr) (hs:Pos):Prop where
 base:attributeBase o m X.env (eval o X.env)=eval o X.env
 R6:((backTo hs (starEach [e] X.env)).all (fun x=>!x.1) && (backToKw hs (keywordEach [] X.env)).all (fun x=>x.1.isSome)
  && decide (([e]:List Expr).length + ([]:List Keyword).length + (if ([]:List Keyword).isEmpty then 0 else 1) < 30))=true
 line:(fh.endLine == hs.line)=true
 trees:backTo hs (starEach [e] X.env)=[(false,eval e X.env)]
structure M2 (X:a6) (o:Expr) (m:Str) (fh:Pos) (e f:Expr) (hs:Pos):Prop where
 base:attributeBase o m X.env (eval o X.env)=eval o X.env
 R6:((backTo hs (starEach [e,f] X.env)).all (fun x=>!x.1) && (backToKw hs (keywordEach [] X.env)).all (fun x=>x.1.isSome)
  && decide (([e,f]:List Expr).length + ([]:List Keyword).length + (if ([]:List Keyword).isEmpty then 0 else 1) < 30))=true
 line:(fh.endLine == hs.line)=true
 trees:backTo hs (starEach [e,f] X.env)=[(false,eval e X.env),(false,eval f X.env)]
section
variable {X:a6} {ae:List (Addr × Obj)} {σ:St} {H:ah} {s:Shared} {a:Addr} {y d:V} {u r:Value} {o:Option V} {A:Around} {E:Value->Shared->Prop}
end
section
variable {X:a6} {o e f:Expr} {fh hs:Pos} {hT ty ahi:TE}
end
section
variable {X:a6} {ae:List (Addr × Obj)} {σ:St} {H:ah} {s:Shared} {a:Addr} {kvs:List (Key × V)} {A:Around} {E:Value->Shared->Prop}
end
section
variable {X:a6} {ae:List (Addr × Obj)} {σ:St} {H:ah} {s:Shared} {a:Addr} {y:V} {u:Value} {A:Around} {E:Value->Shared->Prop}
end
end L2
namespace I1
open PySem PySem.W PySem.Calls PyProof.Rows
theorem Xr {h:Heap}:∀ (ns:List Int) (vs:List Value),WellAll P h vs (ns.map SU)->IntsAre vs ns:=by
 intro ns
 induction ns with
 | nil=>
  intro vs w;rw [hE] at w;cases w;exact .nil
 | cons n ns b2=>
  intro vs w;rw [dP] at w;cases w with
  | cons a b=>
   cases a;exact .cons _ _ (b2 _ b)
theorem aca {l:OpenLaw} {n:Nat} (a0:l.most=some n) {P:Params} {h:Heap} {args:List WData} {BQ:List Value}
  (zE:l.row.toRowW.claim.pre args=true) (fX:WellAll P h BQ args) :
  ∃ a vs ns,BQ=[fC a]/\args=[WData.list (ns.map SU)]/\h.get? a=some { cls:=.type "list",data:=.seq vs.toArray }/\IntsAre vs ns/\ns.length <= n:=by
 have W5:WShape.hasAll [] args [.list .int]=true:=(pre_splitW zE).1;have aq:l.pre.holds [] { args:=args }=true:=(pre_splitW zE).2;obtain ⟨d,r,rfl,ag,ar⟩:=hasAllW_cons W5;obtain rfl:=hasAllW_nil ar;obtain ⟨xs,rfl,bc⟩:=hasW_list ag;obtain ⟨ns,rfl⟩:=items_int bc;have hlen:ns.length <= n:=by
  unfold OpenLaw.pre at aq;have cb:(WTm.not (.lt (.lit (.int (n:Int))) (.len (.arg 0)))).holds [] { args:=[.list (ns.map .int)] }=true:=by
   have cb:=(holds_andW aq).1;rw [a0] at cb;exact cb
  have ej:=condW_of cb (w_not (w_lt w_lit (w_len_list (w_arg rfl))));rw [a8] at ej;refine Nat.le_of_not_lt fun q=>?_
  have ef:(n:Int) < ((ns.length:Nat):Int):=by omega
  first
   | (rw [decide_eq_true ef] at ej;exact absurd ej (by decide))
   | (simp at ej;omega)
 cases fX with
 | cons dc dI=>
  cases dI;cases dc with
  | list aX IK=>exact ⟨_,_,ns,rfl,rfl,aX,Xr ns _ IK,hlen⟩
theorem acY (l:OpenLaw) (args:List WData):l.row.toRowW.claim.post args (.bool true) args=true:=
 postW_of (r:=l.row.toRowW) (X:=(true == true))
  (show Zq [] (.bool true) .bool=true by first | rfl | decide | simp [Zq,WShape.arms,WShape.armsAll])
  (show (WTm.eq .res (.lit (.bool true))).value [] { args:=args,res:=some (.bool true),after:=args }=some (.bool (true == true)) from w_eq_bool (w_res rfl) w_lit) rfl
theorem abK {l:OpenLaw} {n:Nat} {q:Program} {loose:List Str} {qN:(Str->Option Value)->Heap->Prop} {oQ:World->Heap->Prop} {d:DefRec}
  (a0:l.most=some n) (w3:d.params.defaults=[])
  (call:∀ (w:World) (eX cN:Shared) (ai kr:Str->Option Value) (ic:Addr) (o:Obj) (pm cd doc:Value) (a:Addr) (vs:List Value) (ns:List Int),
   Ground q loose [] qN w eX ai kr cN.heap->oQ w cN.heap ->
   cN.heap.get? ic=some o->o.data=.func (docDef d.name d.params d.body d.scope pm cd doc)->cN.heap.CodeRec cd d.name->ai d.name=some (.ref ic) ->
   cN.heap.get? a=some { cls:=.type "list",data:=.seq vs.toArray }->IntsAre vs ns->ns.length <= n->cN.gens=#[] ->
   codeAny (model l.prog w) callerA (.call (.ref ic) ⟨[.ref a],[]⟩) (fun r aO=>r=.ok (.ret (.bool true))/\OldK cN.heap aO.heap/\aO.os=cN.os/\AllBare aO.gens) cN) :
  WalkO q loose qN oQ l.row.toRowW d [] (fun f vs=>Kz f vs):=by
 intro w eX cN ai kr G Y ic o pm cd doc zx dM aX hd lq bu tQ a9 args BQ as zE ahH yq fX ah9;obtain rfl:zx=.none:=Dflts.none bu w3;obtain rfl:dM=.none:=Dflts.noKw bu;obtain ⟨a,vs,ns,rfl,rfl,F_,hints,hlen⟩:=aca a0 zE fX;refine enter_call (codeAny_mono (call w eX cN ai kr ic o pm cd doc a vs ns G Y aX (fd_plain hd) lq tQ F_ hints hlen a9) fun r aO a4=>?_);obtain ⟨rfl,ar,bc,cb⟩:=a4;exact ⟨.inl ⟨.bool true,.bool true,[],rfl,fun _=>rfl,.bool true,acY l _,fun _=>⟨aid,fun _ hm=>(nomatch hm)⟩⟩,ar,bc,cb⟩
section
variable {prog:Program} {w:World} {A:Around} {E:Value->Shared->Prop} {s:Shared} {K:Frag}
end
end I1
namespace L2
open PySem PySem.Spec PyProof.Rows
theorem IU:∀ {vs:List Value} {ns:List Int},IntsAre vs ns->bS (ns.map V.int) vs
 | _,_,.nil=>.nil
 | _,_,.cons n t h=>.cons ⟨t,rfl⟩ (IU h)
noncomputable def xb (H:ah):Prop:=∀ b,H b=none\/∃ o xs,H b=some (.eb o (.lst xs))
theorem Vl {w:World} {K:a'} {ai kr:Str->Option Value} {k:Nat} {fd:FuncData} {x:Str} {ns:List Int}
  (ko:K.In cN.heap) (N_:cN.heap.Ns mainGlobals ai) (af:cN.heap.Ns builtinsNs kr) (WI:∀ x:Str,x ≠ "__name__" -> kr x=bootBuiltins x) (Ra:cN.heap.NoLimit) (a9:cN.gens=#[])
  (aS:cN.heap.get? a=some { cls:=.type "list",data:=.seq vs.toArray }) (ak:IntsAre vs ns) (aB:ns.length <= sizeLine) (aj:eM k callerA)
  (F:∀ base:Heap,K.In base->base.Ns mainGlobals ai->cg P w K ai base CX k ic fd [x] sp) (T1:∀ (s:Shared) (u:Value),BindsTo s fd ⟨[u],[]⟩ [(x,u)])
  (jX:∀ H:ah,xb H->aH K H a (ns.map V.int)->sp [.ref a] H (fun v _=>v=.bk true) fun _ _ _=>False)
  (wd:∀ H e aO,CX [] H cN (fun _ _ _=>False) e aO->False) :
  codeAny (model P w) callerA (.call (.ref ic) ⟨[.ref a],[]⟩) (fun r aO=>r=.ok (.ret (.bool true))/\OldK cN.heap aO.heap/\aO.os=cN.os/\AllBare aO.gens) cN:=by
 have b8:=IU ak;have afM:=ak.length;have core:∀ H:ah,xb H->aH K H a (ns.map V.int)->eN P w H cN.heap->(∀ b,H b ≠ none->b=a)->(H a ≠ none->K.lookup a=none) ->
   codeAny (model P w) callerA (.call (.ref ic) ⟨[.ref a],[]⟩) (fun r aO=>r=.ok (.ret (.bool true))/\OldK cN.heap aO.heap/\aO.os=cN.os/\AllBare aO.gens) cN:=by
  intro H m3 fi bz lB d9;have Jd:∀ {b:Addr} {o:Obj},cN.heap.get? b=some o->H b=none->(nO cN.heap H).get? b=some o:=fun e n=>adi e n
  have tn:∀ {b:Addr} {o:Obj} {aL:Array DictEntry} {cC:Nat},cN.heap.get? b=some o->o.data=.dict aL cC->H b=none:=fun {b o aL cC} e d=>by
   cases q:H b with
   | none=>rfl
   | some u=>
    have b5:b=a:=lB b (by rw [q];simp);subst b5;rw [aS] at e;cases e;have d':Data.seq vs.toArray _=Data.dict aL cC:=d;cases d'
  have z5:∀ {b:Addr} {m:Str->Option Value},cN.heap.Ns b m->(nO cN.heap H).Ns b m:=fun {b m} ⟨o,aL,cC,e,d,r⟩=>⟨o,aL,cC,Jd e (tn e d),d,r⟩
  have L5:K.In (nO cN.heap H):=fun b o e=>Jd (ko b o e) (by
   cases q:H b with
   | none=>rfl
   | some u=>
    have b5:b=a:=lB b (by rw [q];simp);subst b5;rw [d9 (by rw [q];simp)] at e;cases e)
  have Vn:Mod K ai (nO cN.heap H):=⟨L5,z5 N_,⟨kr,z5 af,WI⟩,let ⟨abF,ag,ar⟩:=Ra;⟨abF,z5 ag,ar⟩⟩;have da:mU P w K ai (nO cN.heap H) callerA [] cN H:=⟨rfl,Vn,fun b o e=>acV e,ab8 (Yf _ _),trivial,fun b af=>absurd (show b ∈ ([]:List Addr) from af) (by simp),bz,.of_eq a9⟩;refine codeAny_mono ((F _ L5 (z5 N_)).run callerA [] cN H ⟨[.ref a],[]⟩ [.ref a] [.ref a] _ _ aj da (T1 cN (.ref a)) (.cons rfl .nil) (jX H m3 fi)) fun r aO h=>?_
  cases r with
  | error e=>exact (wd H e aO h).elim
  | ok iH=>
   cases iH with
   | next=>exact kG h
   | brk=>exact kG h
   | cont=>exact kG h
   | ret u=>
    obtain ⟨v,I,os,bare,un,U4,fu,q⟩:=h;have ef:v=.bk true:=q;subst ef;obtain rfl:u=k6 true:=fu;refine ⟨rfl,OldK.of_keep fun b o e=>?_,os,bare⟩;cases q:H b with
    | none=>exact un.keep b o e q (by intro z;exact absurd (show b ∈ ([]:List Addr) from z) (by simp)) (by simp)
    | some u=>
     rcases m3 b with z | ⟨b6,xs,z⟩
     .rw [q] at z;cases z
     .have e3:=un.kN b b6 _ z;obtain ⟨ax,_⟩:=bz b _ z;obtain ⟨aD,_⟩:=U4 b _ e3;rw [e] at ax;cases ax;exact aD
 cases aI:K.lookup a with
 | some o=>
  have e:=ko a o aI;rw [aS] at e;cases e;refine core (fun _=>none) (fun _=>.inl rfl) (.inr ⟨_,vs.toArray,_,aI,rfl,rfl,rfl,by rw [eR,afM];exact aB,by simpa using b8⟩) (fun b u z=>by have ey:(none:Option dY)=some u:=z;cases ey) (fun b z=>absurd rfl z) fun z=>absurd rfl z
 | none=>
  refine core (fun b=>if b=a then some (.eb { cls:=.type "list",data:=.seq vs.toArray } (.lst (ns.map V.int))) else none) (fun b=>?_) (.inl (.inr ⟨{ cls:=.type "list",data:=.seq vs.toArray },if_pos rfl⟩)) (fun b u z=>?_) (fun b z=>?_) fun _=>aI
  .by_cases af:b=a
   .exact .inr ⟨_,_,if_pos af⟩
   .exact .inl (if_neg af)
  .by_cases af:b=a
   .have ey:=(if_pos af).symm.trans z;cases ey;subst af;exact ⟨aS,by rw [a8];exact aB,vs,_,b8,aS⟩
   .have ey:=(if_neg af).symm.trans z;cases ey
  .by_cases af:b=a
   .exact af
   .exact absurd (if_neg af) z
noncomputable abbrev QC {K:a'} {h:Heap} (_:K.In h):a':=K
theorem Uv {l:SQ} {n k:Nat} {q:Program} {loose:List Str} {qN:(Str->Option Value)->Heap->Prop} {oQ:World->Heap->Prop} {d:DefRec} {K:Params->a'} {CX:World->h7} {sp:World->bF} {x:Str}
  (a0:l.most=some n) (qX:n <= sizeLine) (w3:d.params.defaults=[]) (aj:eM k callerA)
  (C_:∀ (w:World) (h:Heap),oQ w h->(K w.params).In h)
  (F:∀ (w:World) (ai:Str->Option Value) (ic:Addr) (h:Heap),(K w.params).In h->h.Ns mainGlobals ai->ai d.name=some (.ref ic) ->
   ∃ fd:FuncData,(∀ (s:Shared) (u:Value),BindsTo s fd ⟨[u],[]⟩ [(x,u)]) /\
    ∀ base:Heap,(K w.params).In base->base.Ns mainGlobals ai->cg l.prog w (K w.params) ai base (CX w) k ic fd [x] (sp w))
  (jX:∀ (w:World) (H:ah) (a:Addr) (ns:List Int),ns.length <= n->xb H->aH (K w.params) H a (ns.map V.int)->sp w [.ref a] H (fun v _=>v=.bk true) fun _ _ _=>False)
  (wd:∀ (w:World) (H:ah) (s:Shared) (e:Value) (aO:Shared),CX w [] H s (fun _ _ _=>False) e aO->False) :
  agg q loose qN oQ l.row.toRowW d [] (fun f vs=>Kz f vs):=by
 refine I1.abK a0 w3 fun w eX cN ai kr ic o pm cd doc a vs ns G Y aX hd lq tQ F_ hints hlen a9=>?_
 have ko:=C_ w _ Y;obtain ⟨fd,af,acf⟩:=F w ai ic _ ko G.T.g tQ;exact Vl ko G.T.g G.T.b G.T.builtins G.T.nolimit a9 F_ hints (cp hlen qX) aj acf af (fun H m3 fi=>jX w H a ns hlen m3 fi) fun H e aO=>wd w H cN e aO
theorem abZ {l:SQ} {n k:Nat} {q:Program} {loose:List Str} {qN:(Str->Option Value)->Heap->Prop} {oQ:World->Heap->Prop} {d:DefRec} {K:Params->a'} {CX:h7} {sp:a'->bF} {x:Str}
  (a0:l.most=some n) (qX:n <= sizeLine) (w3:d.params.defaults=[]) (aj:eM k callerA)
  (C_:∀ (w:World) (h:Heap),oQ w h->(K w.params).In h)
  (F:∀ (w:World) (ai:Str->Option Value) (ic:Addr) (h:Heap),(K w.params).In h->h.Ns mainGlobals ai->ai d.name=some (.ref ic) ->
   ∃ fd:FuncData,(∀ (s:Shared) (u:Value),BindsTo s fd ⟨[u],[]⟩ [(x,u)]) /\
    ∀ base:Heap,(K w.params).In base->base.Ns mainGlobals ai->cg l.prog w (K w.params) ai base CX k ic fd [x] (sp (K w.params)))
  (jX:∀ (K:a') (H:ah) (a:Addr) (ns:List Int),ns.length <= n->xb H->aH K H a (ns.map V.int)->sp K [.ref a] H (fun v _=>v=.bk true) fun _ _ _=>False)
  (wd:∀ (H:ah) (s:Shared) (e:Value) (aO:Shared),CX [] H s (fun _ _ _=>False) e aO->False) :
  agg q loose qN oQ l.row.toRowW d [] (fun f vs=>Kz f vs):=
 Uv (K:=K) (CX:=fun _=>CX) (sp:=fun w=>sp (K w.params)) a0 qX w3 aj C_ F (fun w H a ns ag ar bc=>jX (K w.params) H a ns ag ar bc) fun _ H s e aO=>wd H s e aO
noncomputable def fF (s:Stmt) (j:Nat):Stmt:=match s with
 | .ClassDef _ _ _ body _ _ _ _ _ _ _=>body.getD j (.Pass ⟨0,0,0,0⟩)
 | _=>.Pass ⟨0,0,0,0⟩
noncomputable def Al (s:Stmt):Arguments:=match s with
 | .FunctionDef _ a _ _ _ _ _ _ _ _=>a
 | _=>{ posonlyargs:=[],args:=[],vararg:=none,kwonlyargs:=[],kw_defaults:=[],kwarg:=none,defaults:=[] }
noncomputable def wU (s:Stmt):List Stmt:=match s with
 | .FunctionDef _ _ b _ _ _ _ _ _ _=>b
 | _=>[]
noncomputable def br (s:Stmt):Scope:=match s with
 | .FunctionDef _ _ _ _ _ _ sc _ _ _=>sc
 | _=>{ kind:=.function,names:=[],isGenerator:=false,isCoroutine:=false }
noncomputable abbrev c7:h7:=fun _ _ _ _ _ _=>False
noncomputable abbrev K9:eU:=fun _ _ _=>False
theorem b0:lZ c7 X K9:=fun _ _ _ _ _ _ _ h=>h.elim
structure aT (K:a') (x qual:Str) (st:Stmt) (f:Addr) (fd:FuncData):Prop where
 ex:∃ (mc:Value) (ez:Option Addr) (dM doc pm:Value) (an:Option Addr) (gd e1:Value) (sC:Array (Option Value)),
  fd=vY x qual (Al st) (wU st) (br st) .none dM doc pm an gd e1/\K.lookup f=some ⟨mc,ez,.func fd,sC⟩/\M7 K gd qual=true
 bg:qG K (.ref f)=true
section
variable {P:Program} {w:World} {K:a'} {ai:Str->Option Value} {base:Heap}
theorem aT.ok {x qual:Str} {st:Stmt} {fd:FuncData} {N ps:List Str} {k:Nat} (F:aT K x qual st f fd) (S:bU N ps (br st)) (len:∀ vs H Q E,sp vs H Q E->vs.length=ps.length)
  (EY:∀ (gd:Value) (A:Around) (outer:List Env) (s:Shared) (H:ah) (vs:List V) (Q:cm) (E:eU),eM k (A.deeper (envOfC qual (br st) s.heap.objs.size f gd))->sp vs H Q E ->
   ∃ t,ij (qD c7 P w K ai base N qual (br st) f gd A outer s H E).w5 (wU st) t/\t { cF:=fun _ I=>Q .b4 I,kW:=Q } (start N vs) H):cg P w K ai base c7 (k + 1) f fd ps sp:=by
 obtain ⟨mc,ez,dM,doc,pm,an,gd,e1,sC,rfl,lk,lq⟩:=F.ex;refine aeF lk lq S len fun A outer s H vs Q E aj jX=>?_
 obtain ⟨t,h,q⟩:=EY gd A outer s H vs Q E aj jX;exact ⟨t,h.w5,q⟩
theorem aT.binds {x qual:Str} {st:Stmt} {fd:FuncData} (F:aT K x qual st f fd)
  (h:∀ (dM doc pm:Value) (an:Option Addr) (gd e1:Value) (us:List Value),us.length=ps.length->bindArgs (vY x qual (Al st) (wU st) (br st) .none dM doc pm an gd e1) ⟨us,[]⟩=pure (ps.zip us)):ac K fd ps []:=by
 obtain ⟨mc,ez,dM,doc,pm,an,gd,e1,sC,rfl,lk,lq⟩:=F.ex;exact .all (h dM doc pm an gd e1)
theorem YW {x qual:Str} {st:Stmt} {dM doc pm gd e1:Value} (l:K.lookup f=some ⟨mc,ez,.func (vY x qual (Al st) (wU st) (br st) .none dM doc pm an gd e1),sC⟩)
  (c:M7 K gd qual=true) (k:qG K (.ref f)=true):aT K x qual st f (vY x qual (Al st) (wU st) (br st) .none dM doc pm an gd e1):=⟨⟨mc,ez,dM,doc,pm,an,gd,e1,sC,rfl,l,c⟩,k⟩
end
noncomputable def W8 (A:Around):Prop:=A.units + 1 < cLine
noncomputable def UK (A:Around):Prop:=A.units + 64 < cLine
theorem Mg {A:Around} {k:Nat} (aj:eM k A):UK A:=aj.units
theorem No {A:Around} {k:Nat} (aj:eM k A):W8 A:=iD (Nat.add_le_add_left (by decide:1 <= 64) _) aj.units
section
variable {X:a6}
theorem U (i:Nat) {x:Str} (bl:X.N[i]? = some x:=by rfl) (aK:zl X.env.scope x:=by first | exact l3 rfl | exact nU (l3 rfl) | exact nU (nU rfl)) (hd:(x == ("__debug__" : Str))=false:=by decide)
  (lq:(x == ("__classdict__" : Str))=false:=by decide):bD X (.Name x pos) (yv i):=YN bl aK hd lq
end
noncomputable def aF (H I:ah):Prop:=∀ b o,H b=some o->I b=some o
theorem aF.refl (H:ah):aF H H:=fun _ _ h=>h
theorem aF.trans (a:aF H H1) (b:aF H1 az):aF H az:=fun c o h=>b c o (a c o h)
theorem aF.free (e:aF H I) (h:I l=V'):H l=V':=by
 cases q:H l with
 | none=>rfl
 | some o=>
  rw [e l o q] at h;cases h
section
variable {eL:Type} [DecidableEq eL]
end
end L2
set_option maxHeartbeats 4000000
namespace L2
open PySem PySem.Spec PyProof.Rows
noncomputable def h5 (cells:List (Str × Addr)):List (Str × NameKind)->List (Str × Addr)->List (Str × Addr)
 | [],acc=>acc
 | (n,k) :: r,acc=>if k == .free then (match cells.lookup n with | some c=>h5 cells r ((n,c) :: acc) | none=>h5 cells r acc) else h5 cells r acc
theorem FN {env:Env}:∀ (names:List (Str × NameKind)) (acc:List (Str × Addr)),(∀ y ∈ names,y.2=.free->∃ c,env.cells.lookup y.1=some c) ->
  (forIn names acc (fun (x:Str × NameKind) (cs:List (Str × Addr))=>(if (x.2 == .free)=true then do let a <- cellOf env x.1;pure (v_ ((x.1,a) :: cs)) else pure (v_ cs):Sem (ForInStep (List (Str × Addr))))))=pure (h5 env.cells names acc)
 | [],acc,_=>rfl
 | (n,k) :: r,acc,h=>by
  have aj:∀ y ∈ r,y.2=.free->∃ c,env.cells.lookup y.1=some c:=fun y bj=>h y (hP _ bj)
  rw [List.forIn_cons];by_cases aI:(k == oE)=true
  .have e:k=.free:=by simpa using aI
   obtain ⟨c,aq⟩:=h (n,k) oY e;have qY:env.cells.lookup n=some c:=aq;simp only [h5,aI,if_true,qY,cellOf];exact FN r _ aj
  .simp only [h5,aI];exact FN r _ aj
theorem I6 {env:Env} (h:∀ y ∈ scope.names,y.2=.free->∃ c,env.cells.lookup y.1=some c):closureFor scope env=pure (h5 env.cells scope.names []):=by
 unfold closureFor;exact congrArg (fun t=>t >>= pure) (FN scope.names [] h)
theorem A' {cells:List (Str × Addr)}:∀ (names:List (Str × NameKind)) (acc:List (Str × Addr)) {x:Str} {c:Addr},(h5 cells names acc).lookup x=some c->acc.lookup x=some c\/cells.lookup x=some c
 | [],acc,x,c,h=>.inl h
 | (n,k) :: r,acc,x,c,h=>by
  unfold h5 at h;split at h
  .cases q:cells.lookup n with
   | none=>rw [q] at h;exact A' r acc h
   | some d=>
    rw [q] at h;rcases A' r _ h with z | z
    .rw [mZ] at z;by_cases ao:(x == n)=true
     .rw [ao] at z;have e:x=n:=by simpa using ao
      subst e
      right;rw [q];exact z
     .have k7:(x == n)=false:=by simpa using ao
      rw [k7] at z;exact .inl z
    .exact .inr z
  .exact A' r acc h
theorem yL {cells:List (Str × Addr)}:∀ (names:List (Str × NameKind)) (acc:List (Str × Addr)) {x:Str} {c:Addr},acc.lookup x=some c->cells.lookup x=some c->(h5 cells names acc).lookup x=some c
 | [],acc,x,c,h,_=>h
 | (n,k) :: r,acc,x,c,h,aq=>by
  unfold h5;split
  .cases q:cells.lookup n with
   | none=>exact yL r acc h aq
   | some d=>
    refine yL r _ ?_ aq;rw [mZ];by_cases ao:(x == n)=true
    .have e:x=n:=by simpa using ao
     subst e;rw [ao];rw [q] at aq;exact aq
    .have k7:(x == n)=false:=by simpa using ao
     rw [k7];exact h
  .exact yL r acc h aq
theorem uU {cells:List (Str × Addr)}:∀ (names:List (Str × NameKind)) (acc:List (Str × Addr)) {x:Str} {c:Addr},(x,oE) ∈ names->cells.lookup x=some c->(h5 cells names acc).lookup x=some c
 | [],_,_,_,h,_=>nomatch h
 | (n,k) :: r,acc,x,c,h,aq=>by
  rcases cP.mp h with e | h
  .cases e;unfold h5;rw [if_pos (by decide),aq];refine yL r _ ?_ aq;rw [mZ];simp
  .unfold h5;split
   .cases q:cells.lookup n with
    | none=>exact uU r acc h aq
    | some d=>exact uU r _ h aq
   .exact uU r acc h aq
theorem cr:∀ {l:List (Str × α)} {x:Str} {a:α},l.lookup x=some a->(x,a) ∈ l
 | [],_,_,h=>by simp at h
 | (n,b) :: r,x,a,h=>by
  rw [mZ] at h;by_cases ao:(x == n)=true
  .have e:x=n:=by simpa using ao
   subst e;rw [ao] at h;have aD:b=a:=dZ h;subst aD;exact oY
  .have k7:(x == n)=false:=by simpa using ao
   rw [k7] at h;exact hP _ (cr h)
theorem UP {env:Env} {x:Str} {k:NameKind} (h:(relabel scope env).names.lookup x=some k) (aI:k=.cell\/k=.free) (aq:∀ y ∈ scope.names,y.2 ≠ .cell):(x,oE) ∈ scope.names:=by
 have ag:=cr h;obtain ⟨⟨n,j⟩,hm,e⟩:=dN.mp ag;have b5:(if (j == oE && env.scope.kind == .function && env.kindOf n == some .cell)=true then (n,Qs) else (n,j))=(x,k):=e;split at b5
 .rename_i KL;have ax:n=x:=(EE b5).1;subst ax;have bb:j=.free:=by
   simp only [iV] at KL;simpa using KL.1.1
  subst bb;exact hm
 .have ax:n=x:=(EE b5).1;have aD:j=k:=(EE b5).2;subst ax;subst aD;rcases aI with z | z
  .exact absurd z (aq _ hm)
  .subst z;exact hm
theorem XB {env:Env} {x:Str} (h:scope.names.lookup x=some .free):(relabel scope env).names.lookup x=some .cell\/(relabel scope env).names.lookup x=some .free:=by
 have all:∀ (names:List (Str × NameKind)),names.lookup x=some .free ->
   (names.map fun (n,k)=>if (k == oE && env.scope.kind == .function && env.kindOf n == some .cell) then (n,Qs) else (n,k)).lookup x=some .cell \/
   (names.map fun (n,k)=>if (k == oE && env.scope.kind == .function && env.kindOf n == some .cell) then (n,Qs) else (n,k)).lookup x=some .free:=by
  intro names
  induction names with
  | nil=>intro h;simp at h
  | cons p r b2=>
   obtain ⟨n,k⟩:=p;intro h;rw [dP];by_cases ao:(x == n)=true
   .simp only [mZ,ao] at h;have aI:k=.free:=dZ h;subst aI;by_cases aq:(oE == oE && env.scope.kind == .function && env.kindOf n == some .cell)=true
    .left;simp only [if_pos aq,mZ,ao]
    .right;simp only [if_neg aq,mZ,ao]
   .have k7:(x == n)=false:=by simpa using ao
    simp only [mZ,k7] at h;by_cases aq:(k == oE && env.scope.kind == .function && env.kindOf n == some .cell)=true
    .simp only [if_pos aq,mZ,k7];exact b2 h
    .simp only [if_neg aq,mZ,k7];exact b2 h
 exact all scope.names h
noncomputable abbrev a6.block (X:a6) (scope:Scope) (C:Addr) (N:List Str) (s:Shared) (H:ah) (bP:List Addr):a6 where
 prog:=X.prog
 w:=X.w
 K:=X.K
 ai:=X.ai
 base:=X.base
 A:=X.A
 N:=N
 eX:=s
 pN:=H
 env:=compEnvC scope (h5 X.env.cells scope.names []) C X.env
 outer:=X.stack
 stack:=X.stack
 ex:=bP
 fn:=fun _=>false
 calm:=X.calm
 d3:=[]
 dj:=fun _ _=>False
structure Ps (env:Env) (scope:Scope):Prop where
 kind:scope.kind=.function
 yP:∀ y ∈ scope.names,y.2 ≠ .cell
 fr:∀ y ∈ scope.names,y.2=.free->env.kindOf y.1=some .cell\/env.kindOf y.1=some .free
 loc:∀ x ∈ scope.names,x.2=.local->scope.names.lookup x.1=some .local
noncomputable def kU (sel:List (Option Nat)) (σ:St):St:=sel.map fun o=>o.bind fun j=>(σ[j]?).join
noncomputable def vk (M:List Str) (scope:Scope) (N:List Str) (sel:List (Option Nat)):Prop:=
 sel.length=N.length/\∀ (i j:Nat) (x:Str),sel[i]? = some (some j)->N[i]? = some x->M[j]? = some x/\scope.names.lookup x=some .free
section
variable {X:a6} {ae:List (Addr × Obj)} {σ:St} {H:ah} {s:Shared} {scope:Scope} {bP:List Addr} {C:Addr} {N:List Str}
theorem Ps.cells (S:Ps X.env scope) (ok:X.Ok):∀ y ∈ scope.names,y.2=.free->∃ c,X.env.cells.lookup y.1=some c:=fun y bj e=>ok.has y.1 (S.fr y bj e)
theorem rr {x:Str} (h:(h5 X.env.cells scope.names []).lookup x=some c):X.env.cells.lookup x=some c:=by
 rcases A' _ _ h with z | z
 .simp at z
 .exact z
theorem Oa (J:Inv X ae σ H s) (S:Ps X.env scope) (hf:∀ b ∈ bP,h_ X ae H b) (aC:∀ b ∈ bP,b < s.heap.objs.size) (cX:s.heap.objs.size <= C):(X.block scope C N s H bP).Ok where
 mod:=J.ok.mod
 kind:=S.kind
 glob:=J.ok.glob
 blt:=J.ok.blt
 above:=cX
 inj:=fun x y c ag ar=>J.ok.inj x y c (rr ag) (rr ar)
 has:=fun x h=>by
  have aI:∃ k,(relabel scope X.env).names.lookup x=some k/\(k=.cell\/k=.free):=by
   rcases h with h | h
   .exact ⟨_,h,.inl rfl⟩
   .exact ⟨_,h,.inr rfl⟩
  obtain ⟨k,ag,ar⟩:=aI;have hm:=UP ag ar S.yP;obtain ⟨c,aq⟩:=S.cells J.ok _ hm rfl;exact ⟨c,uU _ _ hm aq⟩
 r4:=fun _ _ h _=>nomatch h
 hd:=J.ok.hd
 frames:=J.ok.frames
 vN:=.inl rfl
 CS:=fun b af=>⟨e9 (ih (aC b af) cX),fun x c e=>(hf b af).2.2.2.2.1 x c (rr e)⟩
 bs:=J.bs
 kq:=cp J.ok.kq J.tR
 sd:=fun b o e af=>by
  rcases (hf b af).2.2.2.1 with z | z
  .exact J.ok.sd b o e z
  .exact absurd (ih (ih (dt e) J.ok.kq) z) (pa _)
 qO:=fun b af ay=>by
  rcases cP.mp (J.xB b ay) with z | z
  .exact (hf b af).2.1 z
  .exact (hf b af).2.2.1 z
 jD:=J.stack
 mH:=J.P2
theorem S4 (J:Inv X ae σ H s) (S:Ps X.env scope) (hf:∀ b ∈ bP,h_ X ae H b) (aC:∀ b ∈ bP,b < s.heap.objs.size) (cX:s.heap.objs.size <= C)
  (k:∀ b o,s.heap.get? b=some o->h'.get? b=some o) (a0:h'.Ns C m) (oz:vk X.N scope N sel):Inv (X.block scope C N s H bP) [] (kU sel σ) H { s with heap:=h',toks:=t' } where
 ok:=Oa J S hf aC cX
 os:=rfl
 bare:=J.bare
 base:=gh.kept k
 loc:=by
  refine ⟨m,a0,fun i x v ax aD cu=>?_⟩;obtain ⟨m0,zB,aB⟩:=J.loc;obtain ⟨j,m_,aaF⟩:∃ j,sel[i]? = some (some j)/\σ[j]? = some (some v):=by
   unfold kU at aD;rw [dS] at aD;cases q:sel[i]? with
   | none=>rw [q] at aD;cases aD
   | some o=>
    rw [q] at aD;cases o with
    | none=>cases aD
    | some j=>
     refine ⟨j,rfl,?_⟩;have z0:(σ[j]?).join=some v:=dZ aD;cases r:σ[j]? with
     | none=>rw [r] at z0;cases z0
     | some z=>rw [r] at z0;exact congrArg some z0
  obtain ⟨aa0,yQ⟩:=oz.2 i j x m_ ax;have hm:=cr yQ;have aI:=S.fr _ hm rfl;have aK:zl X.env.scope x:=aI.elim (fun z=>.inr (.inl z)) fun z=>.inr (.inr z)
  obtain ⟨u,r,l⟩:=aB j x v aa0 aaF aK;refine ⟨u,r,?_⟩;rcases l with ⟨abq,_⟩ | ⟨_,c,aq,AR⟩
  .rcases aI with z | z <;> (have ey:X.env.kindOf x=_:=z;rw [abq] at ey;cases ey)
  .refine .inr ⟨?_,c,uU _ _ hm aq,?_⟩
   .exact XB yQ
   .obtain ⟨o,aX,hd⟩:=AR;exact ⟨o,k _ _ aX,hd⟩
 cell:=fun x c e=>by
  obtain ⟨v,o,aX,hd⟩:=J.cell x c (rr e);exact ⟨v,o,k _ _ aX,hd⟩
 free:=J.bz.fresh cX
 jU:=fun x c e=>J.jU x c (rr e)
 pin:=fun p aw=>nomatch aw
 bz:=J.bz.kept k
 len:=by unfold kU;rw [a8];exact oz.1
theorem Inv.adopt (J:Inv X ae σ H s) (f_:h_ X ae H a) (new:fo X.prog X.w (upd H a o) s.heap a o):Inv X ae σ (upd H a o) s:=by
 obtain ⟨a0,hI,aie,hex,It,f9⟩:=f_;refine J.step (g':=s.gens) (d':=s.drawn) (t':=s.toks) (h':=s.heap) (ch:=[a]) (fun b af=>?_) (fun b o _ _ _ e _=>e) (fun b o _ _ _ e _=>⟨o.slots,e⟩) (fun b o af e n=>?_) (fun b o _ e=>⟨o,e⟩)
  (fun b xs e=>?_) (fun b o u e=>?_) (fun b ps e=>⟨#[],?_⟩) (fun m hm=>hm) (fun b u e=>?_) J.bare
 .have e:b=a:=by simpa using af
  subst e;exact ⟨hex,hI,It,f9⟩
 .rw [aW (fun z=>af (by simp [z]))];exact n
 .rw [aW (cV e a0)];exact e
 .rw [aW (cV e a0)];exact e
 .rw [aW (cV e a0),e];simp
 .by_cases af:b=a
  .subst af;rw [aR] at e;cases e;exact new
  .rw [aW af] at e;exact (J.bz b u e).ml (fun c v _ q=>q) (fun c q=>by rw [aW (cV q a0)];exact q) fun c xs q=>by rw [aW (cV q a0)];exact q
end
theorem U9 {prog:Program} {w:World} {A:Around} {it acc:Value} {env:Env} (J:Nat->Shared->Prop)
  (turn:∀ n s,J n s->wpAny (model prog w) A (pyNext it) (fun r cN=>match r with
   | none=>R (.ok .next) cN
   | some v=>wpAny (model prog w) A (letOwnedTupleGo wj it v) (fun _ eX=>wpAny (model prog w) A (assign wj env v) (fun _ df=>
     wpAny (model prog w) A (forIn ifs true fun c r=>if r=true then do let ok <- isTrue c env (eval c env);pure (v_ ok) else pure (v_ r)) (fun ok kB=>
      if ok=true then wpAny (model prog w) A (eval elt env) (fun x Bb=>
       wpAny (model prog w) A (call (.builtin "list.append") [acc,x]) (fun _ JW=>∃ m,m < n/\J m JW) (fun _ _=>False) Bb) (fun _ _=>False) kB
      else ∃ m,m < n/\J m kB) (fun _ _=>False) df) (fun _ _=>False) eX) (fun _ _=>False) cN) (fun _ _=>False) s)
  (n:Nat) (h:J n s) :
  codeAny (model prog w) A (.compLoop (.ListComp elt [⟨wj,iter,ifs,0⟩] scope pos) 0 it acc env) R s:=by
 refine codeAny_loop rfl J (fun n s Eg=>?_) n h;show wpAny _ A ((compTurn (.ListComp elt [⟨wj,iter,ifs,0⟩] scope pos) 0 it acc env).onRaise (fun x=>do noteFrame x env;theTreesLotGoes x)) _ _ s;refine wpAny_noted (wpAny_noRaise ?_);rw [compTurn_list];refine wpAny_bind (wpAny_standAt (wpAny_bind (wpAny_mono (turn n s Eg) (fun r cN h₁=>?_) fun _ _ h'=>h')));cases r with
 | none=>exact wpAny_pure h₁
 | some v=>
  refine wpAny_bind (wpAny_mono h₁ (fun _ eX h₀=>?_) fun _ _ h'=>h');refine wpAny_bind (wpAny_mono h₀ (fun _ df tT=>wpAny_bind (wpAny_mono tT (fun ok kB BK=>?_) fun _ _ h'=>h')) fun _ _ h'=>h');cases ok with
  | false=>exact wpAny_pure ⟨rfl,BK⟩
  | true=>
   exact wpAny_bind (wpAny_bind (wpAny_mono BK (fun x Bb Vk=>wpAny_bind (wpAny_mono Vk (fun _ JW ae_=>wpAny_pure (wpAny_pure ⟨rfl,ae_⟩)) fun _ _ h'=>h')) fun _ _ h'=>h'))
noncomputable def wA (X:a6) (ifs:List Expr) (t:TT):Prop:=
 ∀ (ae:List (Addr × Obj)) (s:Shared) (σ:St) (H:ah) (Q:Bool->ah->Prop),Inv X ae σ H s->t σ H Q ->
  wpAny (model X.prog X.w) X.A (forIn ifs true fun c r=>if r=true then do let ok <- isTrue c X.env (eval c X.env);pure (v_ ok) else pure (v_ r)) (yM X ae σ Q) X.dj s
noncomputable def oA:TT:=fun _ H Q=>Q true H
theorem gX:wA X [] oA:=fun _ _ _ H _ J h=>wpAny_tests_nil ⟨H,J,h⟩
theorem GB {t:TT} (h:hN X c t):wA X [c] t:=fun ae s σ H Q J q=>wpAny_tests_one (h ae s σ H Q J q)
noncomputable def Sub (σ aQ:St):Prop:=aQ.length=σ.length/\∀ (i:Nat) (v:V),σ[i]? = some (some v)->aQ[i]? = some (some v)
noncomputable def pF (cE:hU) (g:fS) (c2:TT) (bJ:TE) (de:St) (Q:cm) (W:Nat->Nat->List V->ah->Prop):Prop:=∀ i m ys H,W i m ys H ->
 (cE.stop i H/\∀ p,H p=none->Q (.ref p) (upd H p (.lst ys))) \/
 (cE.go i H/\ys.length < sizeLine/\∀ x I,cE.oy i H x I->g x de I fun c5 az=>Sub de c5/\c2 c5 az fun c cj=>if c=true then bJ c5 cj fun y dC=>∃ dF,dF < m/\W (i + 1) dF (ys ++ [y]) dC else ∃ dF,dF < m/\W (i + 1) dF ys cj)
noncomputable def HB (hr:TI) (g:fS) (c2:TT) (bJ:TE) (sel:List (Option Nat)):TE:=fun σ H Q=>hr σ H fun cE H1=>∃ W:Nat->Nat->List V->ah->Prop,(∃ m,W 0 m [] H1)/\pF cE g c2 bJ (kU sel σ) Q W
section
variable {X:a6} {elt cH iter:Expr} {ifs:List Expr} {scope:Scope} {pos:Pos} {hr:TI} {g:fS} {c2:TT} {bJ:TE} {N:List Str} {sel:List (Option Nat)}
structure eZ (X:a6) (scope:Scope) (N:List Str) (cH elt:Expr) (ifs:List Expr) (g:fS) (c2:TT) (bJ:TE):Prop where
 QD:∀ C s H bP,ll (X.block scope C N s H bP) cH g
 tests:∀ C s H bP,wA (X.block scope C N s H bP) ifs c2
 elem:∀ C s H bP,bD (X.block scope C N s H bP) elt bJ
theorem eZ.of {N:List Str} (ag:∀ C s H bP,ll (X.block scope C N s H bP) cH g)
  (ar:∀ C s H bP,∃ t,wA (X.block scope C N s H bP) ifs t/\t=c2) (bc:∀ C s H bP,∃ t,bD (X.block scope C N s H bP) elt t/\t=bJ):eZ X scope N cH elt ifs g c2 bJ:=
 ⟨ag,fun C s H bP=>by obtain ⟨t,h,rfl⟩:=ar C s H bP;exact h,fun C s H bP=>by obtain ⟨t,h,rfl⟩:=bc C s H bP;exact h⟩
theorem LX {ae:List (Addr × Obj)} {df:Shared} {σ:St} {hh:ah} {Q:cm} {it:Addr} {bP:List Addr} {gL:Nat->Heap->Prop} {cE:hU} {W:Nat->Nat->List V->ah->Prop} {E:Value->Shared->Prop} {RR:Value->Addr->Result->Shared->Prop}
  (aq:X.calm=true) (S:Ps X.env scope) (oz:vk X.N scope N sel) (B:eZ X scope N cH elt ifs g c2 bJ) (bX:Inv X ae σ hh df) (T:lW X.prog X.w X.K cH cE bP it gL) (oD:gL 0 df.heap) (f2:∀ b ∈ bP,h_ X ae hh b)
  (mQ:∃ m,W 0 m [] hh) (gT:pF cE g c2 bJ (kU sel σ) Q W)
  (fin:∀ D C ys I aO,Inv X ae σ (upd I D (.lst ys)) aO->(∃ m,aO.heap.Ns C m)->h_ X ae (upd I D (.lst ys)) C->Q (.ref D) (upd I D (.lst ys))->RR (.ref D) C (.ok .next) aO) :
  wpAny (model X.prog X.w) X.A (newList []) (fun acc kB=>wpAny (model X.prog X.w) X.A (newFunctionEnv scope X.env.globals (h5 X.env.cells scope.names []) [] X.env.qual none .none (some X.env)) (fun Nh Bb=>
   codeAny (model X.prog X.w) X.A (.compStart (.ListComp elt [⟨cH,iter,ifs,0⟩] scope pos) 0 (.ref it) acc { Nh with scope:=relabel scope X.env }) (RR acc Nh.locals) Bb) E kB) E df:=by
 refine wpAny_newObj_type (wpAny_newFunctionEnv S.yP (by intro y bj;simp at bj) (fun h₁ FZ BJ=>?_) S.kind);dsimp only at FZ BJ ⊢;generalize oK:df.heap.push { cls:=.type "list",dict:=none,data:=.seq ([]:List Value).toArray }=az at FZ BJ ⊢;have cX:az.objs.size=df.heap.objs.size + 1:=by rw [<- oK,uA]
 have tS:df.heap.objs.size ≠ az.objs.size:=by rw [cX];exact e9 (MQ _)
 have HP:df.heap.objs.size <= az.objs.size:=by rw [cX];exact Ae _
 have below:∀ b,b < df.heap.objs.size->b ≠ az.objs.size/\b ≠ df.heap.objs.size:=fun b af=>⟨by rw [cX];exact e9 (Mn af),e9 af⟩
 have old:∀ b o,df.heap.get? b=some o->h₁.get? b=some o:=fun b o e=>BJ.extBut b o (below b (dt e)).1 (er _ (oK ▸ er _ e))
 have nc:h₁.get? df.heap.objs.size=some { cls:=.type "list",data:=.seq ([]:List Value).toArray }:=BJ.extBut _ _ tS (er _ (oK ▸ e6 _ rfl));have xq:∀ b ∈ bP,b < df.heap.objs.size:=fun b af=>by
  obtain ⟨o,e,_⟩:=T.obj _ _ oD b af;exact dt e
 generalize ahh:az.objs.size=C at *;generalize mK:df.heap.objs.size=D at *;have ME:gL 0 h₁:=T.keep _ _ _ oD fun b _ o e=>old b o e
 have Rz:Inv (X.block scope C N df hh bP) [] (kU sel σ) hh { df with heap:=h₁,toks:=df.toks + ([]:List (Str × Value)).length }:=
  S4 bX S f2 (fun b af=>by rw [mK];exact xq b af) (by rw [mK];exact HP) old FZ oz
 have De:D ∉ (X.block scope C N df hh bP).a_:=fun z=>by
  have ey:=bX.xB D z;rcases cP.mp ey with e | e
  .exact absurd bX.lt (by rw [<- e,mK];exact pa _)
  .exact bX.Mo (by rw [mK];exact bW _) e
 have loop:∀ kB:Shared,kB = { df with heap:=h₁,toks:=df.toks + ([]:List (Str × Value)).length } ->
   codeAny (model X.prog X.w) X.A (.compLoop (.ListComp elt [⟨cH,iter,ifs,0⟩] scope pos) 0 (.ref it) (.ref D) (compEnvC scope (h5 X.env.cells scope.names []) C X.env)) (RR (.ref D) C) kB:=by
  rintro kB rfl;obtain ⟨m0,mQ⟩:=mQ;refine U9 (fun k aO=>∃ i ys us n I,Inv (X.block scope C N df hh bP) [(D,{ cls:=.type "list",data:=.seq us n })] (kU sel σ) I aO/\(∃ vs:List Value,us=vs.toArray/\bS ys vs)/\ys.length <= sizeLine/\gL i aO.heap/\(∀ b ∈ bP,I b=none)/\W i k ys I) ?_ m0
   ⟨0,[],_,0,hh,Rz.uK fun p aw=>?_,⟨[],rfl,.nil⟩,gi _,ME,fun b af=>(f2 b af).1,mQ⟩
  .rintro k aO ⟨i,ys,us,n,I,Dg,⟨vs,rfl,b8⟩,LO,st,fr,w⟩;have F6:∀ {pl:List (Addr × Obj)} {cf:ah},(∀ p ∈ pl,p.1=D)->(∀ b ∈ bP,cf b=none)->∀ b ∈ bP,h_ (X.block scope C N df hh bP) pl cf b:=fun {pl cf} aw a0 b af=>
    ⟨a0 b af,(below b (xq b af)).1,(Oa (N:=N) (C:=C) bX S f2 (fun b af=>by rw [mK];exact xq b af) (by rw [mK];exact HP)).qO b af,.inl af,fun x c e=>(f2 b af).2.2.2.2.1 x c (rr e),fun p zY z=>by
     have afy:p ∈ pl:=by simpa using zY
     exact (below b (xq b af)).2 (by rw [<- z];exact aw p afy)⟩
   have GC:∀ p ∈ [((D,{ cls:=.type "list",data:=.seq vs.toArray n }):Addr × Obj)],p.1=D:=fun p aw=>by
    have e:p=(D,{ cls:=.type "list",data:=.seq vs.toArray n }):=by simpa using aw
    rw [e]
   rcases gT i k ys I w with ⟨stop,D4⟩ | ⟨go,hlen,step⟩
   .refine bM (T.done (X.block scope C N df hh bP) rfl rfl rfl aq i _ aO _ I _ Dg (F6 GC fr) st stop) fun r s4 ct=>?_
    obtain ⟨aj,gO⟩:=ct;subst aj;have qa:=gO.pin (D,{ cls:=.type "list",data:=.seq vs.toArray n }) (by simp);have PW:I D=none:=qa.2.1;have Sz:Inv X ae σ I s4:=bX.WO (ch:=bP) gO.os gO.base gO.bz gO.bare fun b af=>⟨(f2 b af).2.2.2.1,(f2 b af).2.1,(f2 b af).2.2.2.2.1,(f2 b af).2.2.2.2.2⟩
    have qb:h_ X ae I D:=bX.kD (by rw [mK];exact bW _) PW;have ad5:Inv X ae σ (upd I D (.lst ys)) s4:=Sz.adopt qb ⟨LO,vs,n,b8,qa.1⟩;obtain ⟨abY,TX,_⟩:=gO.loc;refine fin D C ys I s4 ad5 ⟨abY,TX⟩ (bX.kD (by rw [mK];exact HP) ?_) (D4 D PW);rw [aW (eY tS)];exact gO.free
   .refine bM (T.item (X.block scope C N df hh bP) rfl rfl rfl aq i _ aO _ I _ Dg (F6 GC fr) st go) fun r s4 ct=>?_
    obtain ⟨u,aj,cb⟩:=ct;subst aj;refine bM cb fun _ s5 ct=>?_
    obtain ⟨x,dV,t9,Fe,GR,qu,FI⟩:=ct;have E3:=t9.pinned (F6 GC FI) (T.obj _ _ qu);refine bM (B.QD C df hh bP _ s5 _ dV x u _ E3 Fe (step x dV GR)) fun _ gx ct=>?_
    obtain ⟨nq,ib,IT,mu,Gg⟩:=ct;refine bM (B.tests C df hh bP _ gx nq ib _ IT Gg) fun c eT ct=>?_
    obtain ⟨gC,jq,k3⟩:=ct;have again:∀ {uC:St} {gK:ah} {fs:Shared},Inv (X.block scope C N df hh bP) ([(D,{ cls:=.type "list",data:=.seq vs.toArray n })] ++ vV bP s5.heap) uC gK fs->gL (i + 1) fs.heap/\(∀ b ∈ bP,gK b=none):=fun {uC gK fs} nJ=>by
     refine ⟨T.keep _ _ _ qu fun b af o e=>(nJ.pin (b,o) (nL _ (nL _ (yC af e)))).1,fun b af=>?_⟩;obtain ⟨o,e,d⟩:=T.obj _ _ qu b af;exact (nJ.pin (b,o) (nL _ (nL _ (yC af e)))).2.1
    have back:∀ {gK:ah} {fs:Shared} {pl:List (Addr × Obj)},Inv (X.block scope C N df hh bP) pl nq gK fs->Inv (X.block scope C N df hh bP) pl (kU sel σ) gK fs:=fun {gK fs pl} nJ=>nJ.weak mu.1.symm mu.2
    cases c with
    | false=>
     obtain ⟨dF,hm,hl⟩:=k3;obtain ⟨t1,B8⟩:=again jq;exact ⟨dF,hm,i + 1,ys,_,n,gC,back jq.x8,⟨vs,rfl,b8⟩,LO,t1,B8,hl⟩
    | true=>
     refine bM (B.elem C df hh bP _ eT nq gC _ jq k3) fun v fs ct=>?_
     obtain ⟨y,gK,nJ,Zm,dF,hm,hl⟩:=ct;obtain ⟨t1,B8⟩:=again nJ;have qa:=nJ.pin (D,{ cls:=.type "list",data:=.seq vs.toArray n }) (by simp);refine append_at (hsz:=by have:=b8.length;rw [eR];omega) qa.1 fun WD MW Rg=>?_
     have Va:Inv (X.block scope C N df hh bP) [] (kU sel σ) gK fs:=(back nJ).uK fun p aw=>nomatch aw
     have qb:h_ (X.block scope C N df hh bP) [] gK D:=⟨qa.2.1,tS,De,.inr (by show df.heap.objs.size <= D;rw [mK];exact bW _),(fun x c e z=>by
      obtain ⟨ahI,o,aX,hd⟩:=nJ.cell x c e;rw [z,qa.1] at aX;cases aX;cases hd),(fun p aw=>nomatch aw)⟩
     have SG:Inv (X.block scope C N df hh bP) [] (kU sel σ) gK { fs with heap:=WD }:=Va.turned (t':=fs.toks) (it:=D) (fun b o af e=>(MW.2 b af).trans e) qb.1 qb.2.1 qb.2.2.2.1 qb.2.2.2.2.1 qb.2.2.2.2.2;refine ⟨dF,hm,i + 1,ys ++ [y],vs.toArray.push v,n + 1,gK,SG.uK fun p aw=>?_,⟨vs ++ [v],by simp,JQ b8 Zm⟩,by rw [eV,O5];omega,T.keep _ _ _ t1 fun b af o e=>(MW.2 b (below b (xq b af)).2).trans e,B8,hl⟩;have e:p=(D,{ cls:=.type "list",data:=.seq (vs.toArray.push v) (n + 1) }):=by simpa using aw
     subst e;exact ⟨Rg,qa.2.1,tS,De,fun v z=>by cases z⟩
  .have e:p=(D,{ cls:=.type "list",data:=.seq ([]:List Value).toArray }):=by simpa using aw
   subst e;exact ⟨nc,bX.bz.fresh (by rw [mK];exact bW _),tS,De,fun v z=>by cases z⟩
 exact codeAny_compStart_list (loop _ rfl) (T.self _ 0 _ _ _ ME (loop _ rfl))
theorem ig (aq:X.calm=true) (ak:k4 X cH iter hr) (S:Ps X.env scope) (oz:vk X.N scope N sel) (B:eZ X scope N cH elt ifs g c2 bJ)
  (aC:∀ x,foldedSetIterable iter X.env x=pure x:=by intro _;rfl):bD X (.ListComp elt [⟨cH,iter,ifs,0⟩] scope pos) (HB hr g c2 bJ sel):=by
 intro ae s σ H Q J h;rw [eval_ListComp];refine wpAny_comprehension_free (use:=none) rfl aC (I6 (S.cells J.ok)) S.kind S.loc ?_;refine bM (ak ae s σ H _ J h) fun v s1 ag=>bM ag fun yR s2 ar=>?_
 obtain ⟨it,bP,gL,cE,az,e,bX,T,oD,f2,W,mQ,gT⟩:=ar;subst e;refine LX (RR:=fun acc C=>compPost (model X.prog X.w) X.A X.dj none (gs X ae σ Q) acc C) aq S oz B bX T oD f2 mQ gT fun D C ys I aO jO ⟨m,hm⟩ f_ q=>?_
 exact ⟨m,hm,fun h' Ib=>⟨.ref D,_,jO.turned (t':=aO.toks) (it:=C) (fun b o af e=>(Ib.2 b af).trans e) f_.1 f_.2.1 f_.2.2.2.1 f_.2.2.2.2.1 f_.2.2.2.2.2,rfl,q⟩⟩
theorem rM {i:Nat} {y:Str} {py Oj:Pos} (bl:X.N.Nodup) (ak:X.N[i]? = some y) (ao:Loc X.env.scope y) (aq:X.calm=true) (hit:k4 X cH iter hr) (S:Ps X.env scope) (oz:vk X.N scope N sel) (B:eZ X scope N cH elt ifs g c2 bJ)
  (aaM:swapsWith (.ListComp elt [⟨cH,iter,ifs,0⟩] scope pos) (some (.Name y py)) Oj.line X.env=pure true) (hf:X.fn y=true\/X.env.scope.names.lookup y=some .local:=by first | exact .inl rfl | exact .inr rfl | assumption)
  (aC:∀ x,foldedSetIterable iter X.env x=pure x:=by intro _;rfl):gS X (.Assign [.Name y py] (.ListComp elt [⟨cH,iter,ifs,0⟩] scope pos) Oj) (rL (HB hr g c2 bJ sel) (i7 i)):=by
 intro ae s σ H D J h;rw [exec_Assign_Name_used _ _ _ _ aaM];refine wpAny_bind (wpAny_standAt (wpAny_bind ?_));show wpAny _ X.A (do let _ <- comprehension (.ListComp elt [⟨cH,iter,ifs,0⟩] scope pos) scope X.env _ (newList []) false (eval iter X.env) (some (assign (.Name y py) X.env))) _ _ s;refine wpAny_bind (wpAny_mono (wpAny_comprehension_free (use:=some (assign (.Name y py) X.env)) (Q:=fun _ aO=>oX X ae D .next aO) rfl aC (I6 (S.cells J.ok)) S.kind S.loc ?_) (fun _ aO a4=>wpAny_pure (wpAny_pure a4)) fun _ _ e=>e);refine bM (hit ae s σ H _ J h) fun v s1 ag=>bM ag fun yR s2 ar=>?_
 obtain ⟨it,bP,gL,cE,az,e,bX,T,oD,f2,W,mQ,gT⟩:=ar;subst e;refine LX (RR:=fun acc C=>compPost (model X.prog X.w) X.A X.dj (some (assign (.Name y py) X.env)) (fun _ aO=>oX X ae D .next aO) acc C) aq S oz B bX T oD f2 mQ gT fun Da C ys I aO jO ⟨m,hm⟩ f_ q=>?_
 show wpAny _ X.A (assign (.Name y py) X.env (.ref Da)) _ _ _;refine wpAny_assign_Name (NP jO bl ak ao (show bx (.ref Da) (.ref Da) from rfl) (fun s3 gH ct=>?_) hf);obtain ⟨a,Ib,aS⟩:=ct;have adv:C ≠ a:=by
  rcases aS with z | z
  .rw [z];exact f_.2.1
  .exact fun w=>f_.2.2.2.2.1 y a z w.symm
 refine ⟨m,hm.sameBut Ib adv,fun h' aba=>⟨_,_,gH.turned (t':=s3.toks) (it:=C) (fun b o af e=>(aba.2 b af).trans e) f_.1 f_.2.1 f_.2.2.2.1 f_.2.2.2.2.1 f_.2.2.2.2.2,q⟩⟩
end
noncomputable def nH (Pv:Nat->List V->ah->Prop) (g:fS) (c2:TT) (bJ:TE) (de:St) (i:Nat) (x:V) (ys:List V) (H:ah):Prop:=
 ∀ N:List V->ah->Prop,(∀ iG I,Pv (i + 1) iG I->N iG I)->g x de H fun c5 az=>Sub de c5/\c2 c5 az fun c cj=>if c=true then bJ c5 cj fun y dC=>N (ys ++ [y]) dC else N ys cj
theorem abP {K:a'} (Pv:Nat->List V->ah->Prop) (ay:xs.length <= sizeLine) (h0:Pv 0 [] H) (aB:∀ i ys H,i <= xs.length->Pv i ys H->aH K H a xs/\ys.length <= i)
  (aC:∀ i x ys H,xs[i]? = some x->Pv i ys H->nH Pv g c2 bJ de i x ys H) (hd:∀ ys H,Pv xs.length ys H->∀ p,H p=none->Q (.ref p) (upd H p (.lst ys))) :
  ∃ W:Nat->Nat->List V->ah->Prop,(∃ m,W 0 m [] H)/\pF (mE K a) g c2 bJ de Q W:=by
 refine ⟨fun i m ys H=>m=xs.length - i/\i <= xs.length/\Pv i ys H,⟨xs.length,by simp,gi _,h0⟩,?_⟩;rintro i m ys H ⟨rfl,ak,p⟩;have q:=(aB i ys H ak p).1;have Bj:=(aB i ys H ak p).2;by_cases cL:i < xs.length
 .refine .inr ⟨⟨xs,xs[i],q,by simp [cL]⟩,by omega,fun x I y=>?_⟩;obtain ⟨e,y⟩:=y;subst e;exact aC i x ys _ (y xs q) p (fun iG I=>∃ dF,dF < xs.length - i/\dF=xs.length - (i + 1)/\i + 1 <= xs.length/\Pv (i + 1) iG I) fun iG I r=>⟨xs.length - (i + 1),by omega,rfl,cL,r⟩
 .have e:i=xs.length:=by omega
  subst e;exact .inl ⟨⟨xs,q,bW _⟩,hd ys H p⟩
theorem Nr {K:a'} (Pv:Nat->List V->ah->Prop) (ay:xs.length <= sizeLine) (h0:Pv 0 [] H) (aB:∀ i ys H,i <= xs.length->Pv i ys H->cU K H a xs/\ys.length <= i)
  (aC:∀ i x ys H,xs[i]? = some x->Pv i ys H->nH Pv g c2 bJ de i x ys H) (hd:∀ ys H,Pv xs.length ys H->∀ p,H p=none->Q (.ref p) (upd H p (.lst ys))) :
  ∃ W:Nat->Nat->List V->ah->Prop,(∃ m,W 0 m [] H)/\pF (zG K a) g c2 bJ de Q W:=by
 refine ⟨fun i m ys H=>m=xs.length - i/\i <= xs.length/\Pv i ys H,⟨xs.length,by simp,gi _,h0⟩,?_⟩;rintro i m ys H ⟨rfl,ak,p⟩;have q:=(aB i ys H ak p).1;have Bj:=(aB i ys H ak p).2;by_cases cL:i < xs.length
 .refine .inr ⟨⟨xs,xs[i],q,by simp [cL]⟩,by omega,fun x I y=>?_⟩;obtain ⟨e,y⟩:=y;subst e;exact aC i x ys _ (y xs q) p (fun iG I=>∃ dF,dF < xs.length - i/\dF=xs.length - (i + 1)/\i + 1 <= xs.length/\Pv (i + 1) iG I) fun iG I r=>⟨xs.length - (i + 1),by omega,rfl,cL,r⟩
 .have e:i=xs.length:=by omega
  subst e;exact .inl ⟨⟨xs,q,bW _⟩,hd ys H p⟩
theorem VX {lo:Int} {n:Nat} {g:fS} {c2:TT} {bJ:TE} {de:St} {Q:cm} {H:ah} (Pv:Nat->List V->ah->Prop) (ay:n <= sizeLine) (h0:Pv 0 [] H) (aB:∀ i ys H,i <= n->Pv i ys H->ys.length <= i)
  (aC:∀ i ys H,i < n->Pv i ys H->nH Pv g c2 bJ de i (.int (lo + i)) ys H) (hd:∀ ys H,Pv n ys H->∀ p,H p=none->Q (.ref p) (upd H p (.lst ys))) :
  ∃ W:Nat->Nat->List V->ah->Prop,(∃ m,W 0 m [] H)/\pF (lA lo n) g c2 bJ de Q W:=by
 refine ⟨fun i m ys H=>m=n - i/\i <= n/\Pv i ys H,⟨n,by simp,gi _,h0⟩,?_⟩;rintro i m ys H ⟨rfl,ak,p⟩;have Bj:=aB i ys H ak p;by_cases cL:i < n
 .refine .inr ⟨cL,by omega,fun x I y=>?_⟩;obtain ⟨e,y⟩:=y;subst e y;exact aC i ys _ cL p (fun iG I=>∃ dF,dF < n - i/\dF=n - (i + 1)/\i + 1 <= n/\Pv (i + 1) iG I) fun iG I r=>⟨n - (i + 1),by omega,rfl,cL,r⟩
 .have e:i=n:=by omega
  subst e;exact .inl ⟨bW _,hd ys H p⟩
noncomputable def wy (xs:List V):hU:=⟨fun i _=>i < xs.length,fun i H x I=>I=H/\xs[i]? = some x,fun i _=>xs.length <= i⟩
theorem Qe {w:World} {K:a'} {it:Addr} {St:Nat->Heap->Prop} (gT:∀ A:Around,A.handled=none->Walks P w A it [it] [it] xs.length TQ St)
  (di:∀ i v,TQ i v->∃ x,xs[i]? = some x/\bx x v)
  (s_:∀ i h,St i h->∃ o n vs,h.get? it=some o/\o.cls=.type n/\o.data=.fields vs/\["enumerate","zip","dict_itemiterator","dict_reverseitemiterator","odict_iterator","itertools.zip_longest","itertools.pairwise"].contains n=false)
  (yQ:∀ i h h',St i h->(∀ o,h.get? it=some o->h'.get? it=some o)->St i h')
  (T2:∀ (A:Around) (i:Nat) (s:Shared) (Q:Value->Shared->Prop) (E:Value->Shared->Prop),St i s.heap->Q (.ref it) s->wpAny (model P w) A (pyIter (.ref it)) Q E s) :
  lW P w K cH (wy xs) [it] it (fun i h=>i <= xs.length/\St i h) where
 mem:=by simp
 obj:=fun i h st b af=>by
  have e:b=it:=by simpa using af
  subst e;obtain ⟨o,n,vs,e,_,d,_⟩:=s_ i h st.2;exact ⟨o,e,fun v z=>by rw [d] at z;cases z⟩
 keep:=fun i h h' st k=>⟨st.1,yQ i h h' st.2 fun o e=>k it (by simp) o e⟩
 item:=by
  intro X nN hw d9 aq i ae s σ H E J hf st a9;subst nN hw d9;obtain ⟨f0,f1,f2,e_,f4,eP⟩:=hf it (by simp);refine (gT X.A (J.ok.hd aq)).item i s _ _ a9 st.2 fun v h' cY aK iC kh=>?_
  obtain ⟨x,ao,bp⟩:=di i v aK;have aY:Inv X ae σ H { s with heap:=h',toks:=cY }:=J.turned (fun b o af e=>kh b o (by simpa using af) e) f0 f1 e_ f4 eP;obtain ⟨o,n,vs,e,c,d,nm⟩:=s_ _ _ iC;exact ⟨v,rfl,qM (s:={ s with heap:=h',toks:=cY }) e c d nm ⟨x,H,aY,bp,⟨rfl,ao⟩,⟨a9,iC⟩,fun b af=>(hf b af).1⟩⟩
 done:=by
  intro X nN hw d9 aq i ae s σ H E J hf st a9;subst nN hw d9;obtain ⟨f0,f1,f2,e_,f4,eP⟩:=hf it (by simp);have e:i=xs.length:=Nat.le_antisymm st.1 a9;subst e;exact (gT X.A (J.ok.hd aq)).done s _ _ st.2 fun h' cY kh=>⟨rfl,J.turned (fun b o af e=>kh b o (by simpa using af) e) f0 f1 e_ f4 eP⟩
 self:=fun A i s Q E st h=>T2 A i s Q E st.2 h
noncomputable def ea (c:Nat):Str:=⟨#[c]⟩
noncomputable def kY (x:Str):List V:=x.cps.toList.map fun c=>V.str (ea c)
theorem Oo (x:Str):(kY x).length=x.cps.size:=by unfold kY;simp
theorem afj {x:Str} {i c:Nat} (h:x.cps[i]? = some c):(kY x)[i]? = some (.str (ea c)):=by
 unfold kY;rw [dS,Me,h];rfl
theorem QQ {x:Str} {i:Nat} {v:Value} (h:SignAt x i v):∃ y,(kY x)[i]? = some y/\bx y v:=by
 obtain ⟨c,u,aq,rfl⟩:=h;exact ⟨.str (ea c),afj aq,u,rfl⟩
section
variable {X:a6} {cH:Expr}
noncomputable def Fp (c9:TE):TI:=fun σ H R=>c9 σ H fun x H1=>∃ z,x=.str z/\R (wy (kY z)) H1
theorem TA (aB:bD X l c9):k4 X cH l (Fp c9):=by
 intro ae s σ H R J h;refine bM (aB ae s σ H _ J h) fun v s1 b7=>d2 b7 fun x H1 aY bO bQ=>?_
 obtain ⟨z,e,q⟩:=bQ;subst e;obtain ⟨t,rfl⟩:=bO;have f_:∀ b ∈ [s1.heap.objs.size],h_ X ae H1 b:=fun b af=>by
  have e:b=s1.heap.objs.size:=by simpa using af
  subst e;exact aY.kD (bW _) (aY.bz.fresh (bW _))
 have ay:=Oo z;cases aS:z.cps.all (· < 128) with
 | false=>
  refine wpAny_pyIter_wide aS ⟨s1.heap.objs.size,[s1.heap.objs.size],fun i h=>i <= (kY z).length/\h.IsStrIter s1.heap.objs.size "str_iterator" z t i,_,H1,rfl,aY.kept (t':=s1.toks) fun b o e=>er _ e,
   Qe (fun A lB=>by rw [ay];exact Walks.strWide lB _ z t) (fun i v=>QQ) (fun i h ⟨o,e,c,d⟩=>⟨o,_,_,e,c,d,by decide⟩) (fun i h h' ⟨o,e,r⟩ k=>⟨o,k o e,r⟩) (fun A i s Q E st q=>wpAny_pyIter_striter_wide st q),
   ⟨gi _,_,e6 _ rfl,rfl,rfl⟩,f_,q⟩
 | true=>
  refine wpAny_pyIter_ascii aS ⟨s1.heap.objs.size,[s1.heap.objs.size],fun i h=>i <= (kY z).length/\h.IsStrIter s1.heap.objs.size "str_ascii_iterator" z t i,_,H1,rfl,aY.kept (t':=s1.toks) fun b o e=>er _ e,
   Qe (fun A lB=>by rw [ay];exact Walks.strAscii lB _ z t) (fun i v=>QQ) (fun i h ⟨o,e,c,d⟩=>⟨o,_,_,e,c,d,by decide⟩) (fun i h h' ⟨o,e,r⟩ k=>⟨o,k o e,r⟩) (fun A i s Q E st q=>wpAny_pyIter_striter_ascii st q),
   ⟨gi _,_,e6 _ rfl,rfl,rfl⟩,f_,q⟩
end
theorem RF (Pv:Nat->List V->ah->Prop) (ay:xs.length <= sizeLine) (h0:Pv 0 [] H) (aB:∀ i ys H,i <= xs.length->Pv i ys H->ys.length <= i)
  (aC:∀ i x ys H,xs[i]? = some x->Pv i ys H->nH Pv g c2 bJ de i x ys H) (hd:∀ ys H,Pv xs.length ys H->∀ p,H p=none->Q (.ref p) (upd H p (.lst ys))) :
  ∃ W:Nat->Nat->List V->ah->Prop,(∃ m,W 0 m [] H)/\pF (wy xs) g c2 bJ de Q W:=by
 refine ⟨fun i m ys H=>m=xs.length - i/\i <= xs.length/\Pv i ys H,⟨xs.length,by simp,gi _,h0⟩,?_⟩;rintro i m ys H ⟨rfl,ak,p⟩;have Bj:=aB i ys H ak p;by_cases cL:i < xs.length
 .refine .inr ⟨cL,by omega,fun x I y=>?_⟩;obtain ⟨e,y⟩:=y;subst e;exact aC i x ys _ y p (fun iG I=>∃ dF,dF < xs.length - i/\dF=xs.length - (i + 1)/\i + 1 <= xs.length/\Pv (i + 1) iG I) fun iG I r=>⟨xs.length - (i + 1),by omega,rfl,cL,r⟩
 .have e:i=xs.length:=by omega
  subst e;exact .inl ⟨bW _,hd ys H p⟩
section
variable {X:a6}
noncomputable def HM:V->Option Int->Option Int->ah->cm->Prop:=fun x lo ak H Q=>∃ z,x=.str z/\z.length <= sizeLine/\Q (.str (oR z lo ak)) H
theorem IF:zv X HM:=by
 intro ae s σ H x v ix iq lo ak dv Q J bp aC pl pu h;obtain ⟨z,rfl,ay,q⟩:=h;obtain ⟨t,rfl⟩:=bp;refine ⟨"str",_,F.slot_str_getitem.lookup,typeIs_str s z t,?_⟩;have fin:∀ t' k,gs X ae σ Q (.str (oR z lo ak) t') { s with toks:=k }:=fun t' k=>⟨.str _,H,J.tok _,⟨_,rfl⟩,q⟩
 cases pl with
 | none=>
  cases pu with
  | none=>exact wpAny_getItem_str_slice (l:=none) (u:=none) (st:=none) aC rfl (post_val_or_str ⟨cp (wx z _ _) ay,fin⟩)
  | int j Ft=>exact wpAny_getItem_str_slice (l:=none) (u:=some (j,Ft)) (st:=none) aC rfl (post_val_or_str ⟨cp (wx z _ _) ay,fin⟩)
 | int i PI=>
  cases pu with
  | none=>exact wpAny_getItem_str_slice (l:=some (i,PI)) (u:=none) (st:=none) aC rfl (post_val_or_str ⟨cp (wx z _ _) ay,fin⟩)
  | int j Ft=>exact wpAny_getItem_str_slice (l:=some (i,PI)) (u:=some (j,Ft)) (st:=none) aC rfl (post_val_or_str ⟨cp (wx z _ _) ay,fin⟩)
noncomputable def ba (ys:List Str):List V:=ys.map V.str
theorem af7:∀ {ys:List Str} {us:List Value},bS (ba ys) us->StrsAre us ys:=by
 intro ys
 induction ys with
 | nil=>intro us r;cases r;exact .nil
 | cons y ys b2=>
  intro us r;cases r with
  | cons bO dn=>
   obtain ⟨t,rfl⟩:=bO;exact .cons y t (b2 dn)
theorem Pb:∀ (l:List (Str × Tok)),bS (ba (l.map (·.1))) (strValues l)
 | []=>.nil
 | (x,t) :: r=>.cons ⟨t,rfl⟩ (Pb r)
noncomputable def G9 (K:a'):V->List V->ah->cm->Prop:=fun x vs H Q=>∃ sep p ys,x=.str sep/\vs=[.ref p]/\aH K H p (ba ys)/\(ys.map (·.length)).sum + ys.length * sep.length <= 16777216/\Q (.str (iA sep ys)) H
theorem j':n5 X "str.join" (G9 X.K):=by
 intro ae s σ H x xs v us Q J bp b8 h;obtain ⟨sep,p,ys,rfl,rfl,a4,ay,q⟩:=h;obtain ⟨t,rfl⟩:=bp;obtain ⟨u,rfl,dU⟩:=ks b8;cases dU;obtain ⟨aV,r,pl,_⟩:=J.list a4;exact join_list pl.isList (by simpa using af7 r) ay fun t' k=>⟨.str _,H,J.tok _,⟨_,rfl⟩,q⟩
end
theorem abr {prog:Program} {w:World} {A:Around} {x y:Str} {t u:Tok} (bj:(y.length == 0)=false)
  (h:∀ l k,l.map (·.1)=gw x y->Q (.ref s.heap.objs.size) { s with heap:=s.heap.push { cls:=.type "list",data:=.seq (strValues l).toArray },toks:=k }) (hsz:x.length + 2 <= sizeLine) :
  wpAny (model prog w) A (call (.builtin "str.split") [.str x t,.str y u]) Q E s:=by
 have a0:(Yj x (lb x y 0 x.length (x.length + 1)) y.length).length <= sizeLine:=by
  have ax:=StrLaws.occ_length_le x y 0 x.length (x.length + 1);rw [length_partsBetween];omega
 cases ag:(decide (x.length < y.length) || decide (ZE x < ZE y))
 .cases hf:(lb x y 0 x.length (x.length + 1)).isEmpty
  .refine call_meets A6 (typeIs_str _ _ _) NO (NN _ _) (meets_str_split_sep x y t u ag bj hf (by omega) a0) ?_;show wants Q E _ { s with toks:=_,heap:=s.heap.push { cls:=.type "list",data:=.seq (strsFrom s.toks (Yj x (lb x y 0 x.length (x.length + 1)) y.length)).toArray } };rw [strsFrom_eq];exact h (numbered s.toks _) _ ((numbered_texts _ _).trans ((if_neg (ne_true_of_eq_false ag)).trans (if_neg (ne_true_of_eq_false hf))).symm)
  .exact call_meets A6 (typeIs_str _ _ _) NO (NN _ _) (meets_str_split_not_found x y t u ag bj hf)
    (h [(x,t)] s.toks ((if_neg (ne_true_of_eq_false ag)).trans (if_pos hf)).symm)
 .exact call_meets A6 (typeIs_str _ _ _) NO (NN _ _) (meets_str_split_cannot_occur x y t u ag)
   (h [(x,t)] s.toks (if_pos ag).symm)
section
variable {X:a6}
noncomputable def G7:V->List V->ah->cm->Prop:=fun x vs H Q=>∃ z y,x=.str z/\vs=[.str y]/\y.length ≠ 0/\z.length + 2 <= sizeLine/\(gw z y).length <= sizeLine/\∀ p,H p=none->Q (.ref p) (upd H p (.lst (ba (gw z y))))
theorem QG:n5 X "str.split" G7:=by
 intro ae s σ H x xs v us Q J bp b8 h;obtain ⟨z,y,rfl,rfl,bj,ay,a0,q⟩:=h;obtain ⟨t,rfl⟩:=bp;obtain ⟨u,rfl,dU⟩:=ks b8;obtain ⟨qT,rfl⟩:=dU;refine abr (by simpa using bj) (fun l k aB=>?_) ay;refine ⟨.ref s.heap.objs.size,_,J.laid (t':=k) (o:=.lst (ba (gw z y))) (fun b o e=>er _ e) (bW _) ⟨by unfold ba;rw [a8];exact a0,strValues l,0,by rw [<- aB];exact Pb l,e6 _ rfl⟩,rfl,q _ (J.bz.fresh (bW _))⟩
theorem LK:mw X (.type "int") (fun xs H Q=>∃ z n,xs=[.str z]/\intText? z=some n/\z.length <= 640/\Q (.int n) H):=by
 intro ae s σ H xs us Q J r h;obtain ⟨z,n,rfl,a0,ay,q⟩:=h;obtain ⟨u,rfl,t,rfl⟩:=ks r;exact PySem.W.KIN.call_text a0 ay ⟨.int n,H,J.tok _,⟨_,rfl⟩,q⟩
theorem Mk:∀ {bs:List Bool} {us:List Value},bS (bs.map V.bk) us->us=bs.map k6
 | [],_,.nil=>rfl
 | b :: bs,_,.cons r t=>by
  have e:_=k6 b:=r;rw [e,Mk t];rfl
theorem Q2 {A:Around} (bs:List Bool):TruthOf X.prog X.w A (fun i v=>(bs.map k6).toArray[i]? = some v) (fun i=>bs.getD i true):=by
 intro i v s Q E di aN;have e:(bs.map k6)[i]? = some v:=by simpa using di
 rw [dS] at e;cases q:bs[i]? with
 | none=>rw [q] at e;cases e
 | some b=>
  rw [q] at e;have b5:k6 b=v:=dZ e;subst b5;refine wpAny_truthy_bool ?_;have:bs.getD i true=b:=by simp [Jt,q]
  have PC:Q (bs.getD i true) s:=aN;rw [this] at PC;exact PC
theorem Uo (bs:List Bool):(dG bs.length).all (fun i=>bs.getD i true)=bs.all id:=by
 rw [nP];simp only [o1,Es,id];constructor
 .intro h b af;obtain ⟨i,ak,e⟩:=List.mem_iff_getElem.mp af;have:=h i ak;simp [Jt,ak,e] at this;exact this
 .intro h i ak;simp [Jt,ak];exact h _ (tB ak)
theorem sK (aq:X.calm=true):mw X (.builtin "all") (fun xs H Q=>∃ (p:Addr) (bs:List Bool),xs=[.ref p]/\aH X.K H p (bs.map V.bk)/\Q (.bk (bs.all id)) H):=by
 intro ae s σ H xs us Q J r h;obtain ⟨p,bs,rfl,a4,q⟩:=h;obtain ⟨u,rfl,dU⟩:=ks r;cases dU;obtain ⟨aV,b8,pl,_⟩:=J.list a4;have e:=Mk b8;subst e;refine call_all_walk (wpAny_pyIter_list pl.isList ?_);have dW:p ≠ s.heap.objs.size:=e9 (by obtain ⟨o,_,aX,_⟩:=pl;exact dt aX);refine ⟨s.heap.objs.size,_,_,_,_,_,fun i=>bs.getD i true,rfl,Rx (show X.A.in1.handled=none from J.ok.hd aq) _ p dW (bs.map k6).toArray,⟨⟨_,e6 _ rfl,rfl,rfl⟩,pl.isList.at fun o e=>er _ e⟩,Q2 bs,fun h' cY kh=>?_⟩;refine ⟨.bk (bs.all id),H,J.kept fun b o e=>kh b o (by simpa using e9 (dt e)) (er _ e),?_,q⟩;show k6 _=k6 _;rw [show (bs.map k6).toArray.size=bs.length by simp,Uo]
end
theorem eC {X:a6} {N:List Str} (h:N.Nodup) (e:X.N=N):X.N.Nodup:=e ▸ h
noncomputable def Qq (sc scope:Scope):Bool:=
 (scope.kind == .function) && scope.names.all (fun y=>y.2 != .cell) && scope.names.all (fun y=>y.2 != .free || sc.names.lookup y.1 == some .cell || sc.names.lookup y.1 == some .free) &&
  scope.names.all (fun y=>y.2 != .local || scope.names.lookup y.1 == some .local)
theorem fU {env:Env} (he:env.scope=sc) (h:Qq sc scope=true):Ps env scope:=by
 subst he;unfold Qq at h;simp only [iV,o1] at h;obtain ⟨⟨⟨ag,ar⟩,bc⟩,cb⟩:=h;refine ⟨by simpa using ag,fun y bj e=>?_,fun y bj e=>?_,fun y bj e=>?_⟩
 .have:=ar y bj;rw [e] at this;exact absurd this (by decide)
 .have:=bc y bj;rw [e] at this;simp only [Az] at this;rcases this with (z | z) | z
  .exact absurd z (by decide)
  .exact .inl (show env.scope.names.lookup y.1=some .cell by simpa using z)
  .exact .inr (show env.scope.names.lookup y.1=some .free by simpa using z)
 .have:=cb y bj;rw [e] at this;simp only [Az] at this;rcases this with z | z
  .exact absurd z (by decide)
  .simpa using z
noncomputable def LB (M:List Str) (scope:Scope) (N:List Str) (sel:List (Option Nat)):Bool:=
 sel.length == N.length && (sel.zip N).all fun p=>match p.1 with | none=>true | some j=>M[j]? == some p.2 && scope.names.lookup p.2 == some .free
theorem gf {N:List Str} (h:LB M scope N sel=true):vk M scope N sel:=by
 unfold LB at h;simp only [iV,o1] at h;refine ⟨by simpa using h.1,fun i j x ax aD=>?_⟩;have hm:(some j,x) ∈ sel.zip N:=by
  rw [Mi];exact ⟨i,by rw [JF];exact ⟨ax,aD⟩⟩
 have:=h.2 _ hm;simp only [iV] at this;exact ⟨by simpa using this.1,by simpa using this.2⟩
noncomputable def nC:dY->Bool
 | .dw _=>false
 | .eb _ u=>nC u
 | _=>true
noncomputable def aM (H:ah):Prop:=∀ b o,H b=some o->nC o=true
theorem fo.back {w:World} {h h':Heap}:∀ (o:dY),nC o=true->fo P w I h' a o->fo P w H h a o->fo P w H h' a o
 | .lst _,_,x,_=>x
 | .tup _,_,x,_=>x
 | .bV _,_,x,_=>x
 | .dw _,e,_,_=>absurd e (by unfold nC;decide)
 | .set _ _,_,x,_=>x
 | .ins _ _ _,_,x,y=>⟨y.1,x.2⟩
 | .own _,_,x,_=>x
 | .xM _,_,x,_=>x
 | .met _ _,_,x,_=>x
 | .Bl _ _,_,x,_=>x
 | .eb b6 u,e,x,y=>⟨x.1,fo.back u (by unfold nC at e;exact e) x.2 y.2⟩
 | .nZ _,_,x,_=>x
 | .ext _,_,x,_=>x
section
variable {P:Program} {w:World} {K:a'} {ai:Str->Option Value} {base:Heap}
theorem cg.forget {k:Nat} {fd:FuncData} (F:cg P w K ai base c7 k f fd ps sp)
  (h:∀ vs H Q E,nR vs H Q E->aM H/\sp vs H (fun v I=>aF H I/\Q v H) E):cg P w K ai base c7 k f fd ps nR:=by
 refine ⟨fun vs H Q E q=>F.len vs H _ E (h vs H Q E q).2,fun A outer s H args us vs Q E aj he af aK aC=>?_⟩;obtain ⟨a5,q⟩:=h vs H Q E aC;refine codeAny_mono (F.run A outer s H args us vs _ E aj he af aK q) fun r aO a4=>?_
 cases r with
 | error e=>exact a4
 | ok iH=>
  cases iH with
  | next=>exact a4
  | brk=>exact a4
  | cont=>exact a4
  | ret u=>
   obtain ⟨v,I,os,bare,un,bz,b8,bf,ef⟩:=a4;exact ⟨v,H,os,bare,⟨un.keep,un.slot,fun _ _ _ n _=>n,un.there,fun _ _ z=>z,fun _ _ _ z=>z,fun _ ps z=>⟨#[],by rw [z];simp⟩⟩,fun a o e=>(bz a o (bf a o e)).back o (a5 a o e) (he.bz a o e),b8,ef⟩
end
theorem bN {p:Addr} (h:H p=none):aF H (upd H p o):=fun b u q=>by rw [aW (cV q h)];exact q
theorem aF.gB {p:Addr} (s:aF H H1) (h:H p=none):aF H (upd H1 p o):=fun b u q=>by rw [aW (cV q h)];exact s b u q
structure Sc (K:a') (a:Addr) (ns:List Int) (H:ah):Prop where
 zu:(∃ o,H a=some (.eb o (.lst (ns.map V.int))))\/∃ (o:Obj) (aV:Array Value) (n:Nat),K.lookup a=some o/\o.cls=.type "list" /\ o.dict=none/\o.data=.seq aV n/\aV.size <= sizeLine/\bS (ns.map V.int) aV.toList
 a5:aM H
section
variable {K:a'} {a p:Addr} {ns:List Int} {H I:ah} {o:dY}
theorem Sc.seq (s:Sc K a ns H):aH K H a (ns.map V.int):=by
 rcases s.zu with ⟨o,h⟩ | h
 .exact .inl (.inr ⟨o,h⟩)
 .exact .inr h
theorem Sc.new (s:Sc K a ns H) (aw:H p=none) (aX:nC o=true:=by rfl):Sc K a ns (upd H p o):=by
 refine ⟨?_,fun b u e=>?_⟩
 .rcases s.zu with ⟨b6,h⟩ | h
  .exact .inl ⟨b6,by rw [aW (cV h aw)];exact h⟩
  .exact .inr h
 .by_cases af:b=p
  .subst af;rw [aR] at e;cases e;exact aX
  .rw [aW af] at e;exact s.a5 b u e
theorem Sc.set (s:Sc K a ns H) (aw:H p=some u) (bE:∀ b6 z,u ≠ .eb b6 z) (aX:nC o=true:=by rfl):Sc K a ns (upd H p o):=by
 refine ⟨?_,fun b x e=>?_⟩
 .rcases s.zu with ⟨b6,h⟩ | h
  .refine .inl ⟨b6,?_⟩;have dW:a ≠ p:=fun z=>by subst z;rw [aw] at h;exact bE _ _ (dZ h)
   rw [aW dW];exact h
  .exact .inr h
 .by_cases af:b=p
  .subst af;rw [aR] at e;cases e;exact aX
  .rw [aW af] at e;exact s.a5 b x e
theorem Sc.Rq (m3:xb H) (fi:aH K H a (ns.map V.int)):Sc K a ns H:=by
 refine ⟨?_,fun b u e=>?_⟩
 .rcases fi with (h | ⟨o,h⟩) | h
  .rcases m3 a with z | ⟨b6,xs,z⟩
   .rw [h] at z;cases z
   .rw [h] at z;cases z
  .exact .inl ⟨o,h⟩
  .exact .inr h
 .rcases m3 b with z | ⟨b6,xs,z⟩
  .rw [e] at z;cases z
  .rw [e] at z;cases z;rfl
end
noncomputable def IX (K:a'):bF:=fun vs H Q _=>∃ (a:Addr) (ns:List Int),vs=[.ref a]/\Sc K a ns H/\ns.length <= 63/\∀ I,Q (.bk true) I
theorem i_:bootBuiltins "len"=some (.builtin "len"):=PySem.boot_len
theorem Zf:bootBuiltins "all"=some (.builtin "all"):=by ac_nf
theorem Qh:bootBuiltins "max"=some (.builtin "max"):=by ac_nf
theorem L4:bootBuiltins "int"=some (.type "int"):=by ac_nf
theorem i6:bootBuiltins "str"=some (.type "str"):=by ac_nf
theorem Ko:bootBuiltins "list"=some (.type "list"):=by ac_nf
theorem j5.same (h:j5 H a o) (s:aF H I):j5 I a o:=by
 rcases h with h | ⟨b6,h⟩
 .exact .inl (s _ _ h)
 .exact .inr ⟨b6,s _ _ h⟩
theorem aH.same {K:a'} (h:aH K H a xs) (s:aF H I):aH K I a xs:=by
 rcases h with h | h
 .exact .inl (h.same s)
 .exact .inr h
theorem cU.same {K:a'} (h:cU K H a xs) (s:aF H I):cU K I a xs:=by
 rcases h with h | h
 .exact .inl (h.same s)
 .exact .inr h
theorem aM.upd {p:Addr} (h:aM H) (aX:nC o=true:=by rfl):aM (upd H p o):=fun b u e=>by
 by_cases af:b=p
 .subst af;rw [aR] at e;cases e;exact aX
 .rw [aW af] at e;exact h b u e
theorem Sc.same {K:a'} {ns:List Int} (s:Sc K a ns H) (bf:aF H I) (a5:aM I):Sc K a ns I:=by
 refine ⟨?_,a5⟩;rcases s.zu with ⟨o,h⟩ | h
 .exact .inl ⟨o,bf _ _ h⟩
 .exact .inr h
structure EI (K:a') (C:Addr) (m:Str) (f:Addr):Prop where
 dy:ad2 K C (.type "type")=true
 fd:ac1 K (.ref C) (.type "type") m=some (.val (.ref f))
 ga:rJ K (.ref C) "__getattribute__"=some (some (.builtin "type.__getattribute__"))
 bg:qG K (.ref f)=true
structure nx (P:Program) (w:World) (K:a') (ai:Str->Option Value) (base:Heap) (CX:h7) (k:Nat) (k':Addr->Prop) (m:Str) (ps:List Str) (lM:Addr->bF):Prop where
 ok:∀ C,k' C->∃ f fd,eg K C/\dD K C m f/\cg P w K ai base CX k f fd ps (lM C)/\ac K fd ps []
noncomputable def J5 (k':Addr->Prop) (m:Str) (lM:Addr->bF) (E:eU) (aZ:TE) (t:eI):TE:=fun σ H Q=>aZ σ H fun x H1=>∃ a C av a_,x=.ref a/\H1 a=some (.ins C av a_)/\k' C/\a_.lookup m=none /\
 t σ H1 fun vs az=>lM C (x :: vs) az Q E
section
variable {X:a6} {CX:h7} {k:Nat} {f C:Addr} {fd:FuncData} {ps:List Str} {sp:bF} {dvs:List V} {ds:List Value} {E:eU} {x m:Str} {p pos fh:Pos} {e o:Expr} {aL:List Expr} {aZ:TE} {t:eI}
theorem Ih (a9:ip X x) (hm:X.ai x=some (.ref C)) (c:EI X.K C m f) (F:cg X.prog X.w X.K X.ai X.base CX k f fd ps sp) (aj:eM k X.A) (af:ac X.K fd ps ds) (hd:bS dvs ds) (ao:lZ CX X E) (aS:ck X (e :: aL) t)
  (f5:(x == ("__debug__" : Str))=false:=by decide) (gk:starEach (e :: aL) X.env=(false,eval e X.env) :: starEach aL X.env:=by rfl) (d1:(backTo pos (starEach aL X.env)).any (·.1)=false:=by rfl)
  (c_:eval (.Call (.Attribute (.Name x p) m fh) (e :: aL) [] pos) X.env=(do
   let dz <- eval (.Name x p) X.env
   standAt fh.atName
   let (f,first) <- holding [dz] (getMethod dz m pl)
   callWith pos f first (backTo pos (starEach (e :: aL) X.env)) (backToKw pos (keywordEach [] X.env))):=by rfl) :
  bD X (.Call (.Attribute (.Name x p) m fh) (e :: aL) [] pos) (tx sp dvs E t):=by
 intro ae s σ H Q J h;refine Gj (pl:=pl) (sW J a9 hm ?_ f5) c_;refine PySem.W.method_cls J.gU c.ga (PySem.W.cls_value J.gU c.dy c.fd rfl ?_);have aY:=J.tok (s.toks + 1);refine DM (first:=[]) (h₀:=X.base) J.ok.mod.nF c.bg (bM (aS pos ae _ σ H _ aY h) fun us s2 ⟨vs,az,bX,r,eK⟩=>⟨bX.gU,?_⟩) gk d1;exact vl F aj af hd ao bX r eK
variable {k':Addr->Prop} {lM:Addr->bF}
theorem zX (he:bD X o aZ) (V:nx X.prog X.w X.K X.ai X.base CX k k' m ps lM) (aj:eM k X.A) (ao:lZ CX X E)
  (c_:eval (.Call (.Attribute o m fh) [] [] pos) X.env=(do
   let dz <- eval o X.env
   standAt fh.atName
   let (f,first) <- holding [dz] (getMethod dz m pl)
   callWith pos f first (backTo pos (starEach [] X.env)) (backToKw pos (keywordEach [] X.env))):=by rfl) :
  bD X (.Call (.Attribute o m fh) [] [] pos) (J5 k' m lM E aZ rP):=by
 intro ae s σ H Q J h;refine Gj (pl:=pl) (bM (he ae s σ H _ J h) fun u s1 ct=>?_) c_;obtain ⟨x,H1,aY,bp,a,C,av,a_,ex,hH,ok,l,q⟩:=ct;subst ex;obtain rfl:u=fC a:=bp;obtain ⟨f,fd,c,hm,F,af⟩:=V.ok C ok;refine F9 aY hH c hm l ?_;exact NK (first:=[.ref a]) aY.gU hm.bg (vl (us:=[.ref a]) (vs:=[.ref a]) (dvs:=[]) F aj af .nil ao aY (.cons rfl .nil) q)
end
noncomputable def rq (w:World) (K:a') (u:Value) (kvs:List (Str × V)):Prop:=
 ∃ a aL n,u=.ref a/\K.lookup a=some ⟨.type "dict",none,.dict aL n,#[]⟩/\Dt w.params aL.toList/\∀ x v,(x,v) ∈ kvs->∃ iR,zk K a x=some (some iR)/\bx v iR
theorem Pp:∀ {kvs:List (Str × β)} {x:Str} {v:β},kvs.lookup x=some v->(x,v) ∈ kvs
 | [],_,_,h=>by cases h
 | (k,y) :: r,x,v,h=>by
  rw [mS] at h;by_cases e:x=k
  .subst e;rw [beq_self_eq_true] at h;cases h;exact oY ..
  .rw [beq_eq_false_iff_ne.mpr e] at h;exact hP _ (Pp h)
noncomputable abbrev Q9:=List (Str × V)
noncomputable def EA (kvs:Q9) (ty:TE):TE:=fun σ H Q=>ty σ H fun y H1=>∃ x v,y=.str x/\kvs.lookup x=some v/\Q v H1
section
variable {X:a6} {x:Str} {p pos:Pos} {i:Expr} {ty:TE} {u:Value} {kvs:List (Str × V)}
theorem Og (a9:ip X x) (hm:X.ai x=some u) (D:rq X.w X.K u kvs) (ak:bD X i ty) (aC:CT i) (f5:(x == ("__debug__" : Str))=false:=by decide):bD X (.Subscript (.Name x p) i pos) (EA kvs ty):=by
 intro ae s σ H Q J h;obtain ⟨a,aL,n,rfl,aB,aI,aK⟩:=D;refine JA Wk.lookup aC (sW J a9 hm (bM (ak ae s σ H _ J h) fun iu s2 ct=>?_) f5);obtain ⟨y,az,bX,bH,z,v,kb,l,q⟩:=ct;subst kb;obtain ⟨t,rfl⟩:=bH;obtain ⟨iR,ax,aD⟩:=aK z v (Pp l);have hm:=PySem.W.mapOf_K (prog:=X.prog) (w:=X.w) bX.gU aB aI;exact ⟨hm.typeIs,wpAny_getItem_of (strKind_is X.prog X.w z t) hm (PySem.W.find_K aB ax) ⟨v,az,bX.tok _,aD,q⟩⟩
end
theorem ha:∀ {a_:List (Str × V)} (bC:List Str),a_.map (·.1)=bC->bC.contains f=false->dk f v a_=a_ ++ [(f,v)]
 | [],_,_,_=>rfl
 | (g,y) :: r,bC,e,h=>by
  cases e;rw [dP,aak] at h;have ag:=(Qx.mp h);have dW:¬ g=f:=fun z=>by
   have:=ag.1;rw [z] at this;simp at this
  show (if g=f then _ else _)=_;rw [if_neg dW,ha _ rfl ag.2];rfl
theorem eO {a_:List (Str × V)} (h:a_.length < n):(dk f v a_).length < n + 1:=iD (Hu f v a_) (by omega)
theorem jQ:∀ {a_:List (Str × V)} (bC:List Str) (i:Nat),a_.map (·.1)=bC->bC.findIdx? (· == f)=some i->a_[i]? = some (f,v)->a_.lookup f=some v
 | [],_,_,_,_,h=>by simp at h
 | (g,y) :: r,bC,i,e,h,aK=>by
  cases e;rw [dP,List.findIdx?_cons] at h;rw [mS];by_cases e:g=f
  .subst e;rw [beq_self_eq_true,if_pos rfl] at h;cases h;have:(g,y)=(g,v):=by simpa using aK
   cases this;rw [beq_self_eq_true]
  .rw [beq_eq_false_iff_ne.mpr e,if_neg (by decide)] at h;obtain ⟨j,bb,rfl⟩:=WA.mp h;rw [beq_eq_false_iff_ne.mpr (fun z=>e z.symm)];exact jQ _ j rfl bb (by simpa using aK)
theorem jK:∀ {a_:List (Str × V)} (bC:List Str),a_.map (·.1)=bC->bC.contains f=false->a_.lookup f=none
 | [],_,_,_=>rfl
 | (g,y) :: r,bC,e,h=>by
  cases e;rw [dP,aak] at h;have ag:=(Qx.mp h);rw [mS,ag.1];exact jK _ rfl ag.2
theorem Inv.y4 {X:a6} {ae:List (Addr × Obj)} {σ:St} {H:ah} {s:Shared} {h':Heap} {t':Nat} {bP:List Addr} (J:Inv X ae σ H s) (k:∀ b o,b ∉ bP->s.heap.get? b=some o->h'.get? b=some o)
  (hf:∀ b ∈ bP,h_ X ae H b):Inv X ae σ H { s with heap:=h',toks:=t' }:=by
 have tX:∀ b u,H b=some u->b ∉ bP:=fun b u e z=>by rw [(hf b z).1] at e;cases e
 refine J.step (g':=s.gens) (d':=s.drawn) (ch:=bP) (fun b af=>?_) (fun b o _ _ aq e _=>k b o aq e) (fun b o _ _ aq e _=>⟨o.slots,k b o aq e⟩) (fun _ _ _ _ n=>n)
  (fun b o aq e=>⟨o,k b o aq e⟩) (fun _ _ e=>e) (fun _ _ _ e=>e) (fun b ps e=>⟨#[],by rw [e];simp⟩) (fun m hm=>?_) (fun b u e=>?_) J.bare
 .obtain ⟨f0,f1,f2,e_,f4,eP⟩:=hf b af;exact ⟨e_,f1,f4,eP⟩
 .obtain ⟨o,aL,cC,aX,r⟩:=hm;exact ⟨o,aL,cC,k _ o (fun z=>(hf _ z).2.1 rfl) aX,r⟩
 .refine (J.bz b u e).ml (fun c v aq q=>k c v ?_ q) (fun _ q=>q) fun _ _ q=>q
  rcases aq with z | z
  .rw [z];exact tX b u e
  .exact tX c _ z
noncomputable def Bt (K:a') (a:Addr):hU:=
 ⟨fun i H=>∃ xs x,aH K H a xs/\xs[i]? = some x,fun i H v I=>∃ p y,H p=none/\v=.ref p/\(∀ xs,aH K H a xs->xs[i]? = some y)/\I=upd H p (.tup [.int i,y]),fun i H=>∃ xs,aH K H a xs/\xs.length <= i⟩
theorem adg {P:Program} {w:World} {K:a'} {aL:List Expr} {k} {pos:Pos} (a e it:Addr) (dW:e ≠ it) :
  lW P w K (.Tuple aL k pos) (Bt K a) [e,it] e (fun i h=>∃ old,IsEnum h e it ((i:Nat):Int) old/\h.IsListIter it a i) where
 mem:=by simp
 obj:=fun i h ⟨old,he,ak⟩ b af=>by
  simp only [cP,fw,or_false] at af;rcases af with rfl | rfl
  .exact ⟨_,he,fun v z=>by
    have ey:G6 _=D2 v:=z;cases ey⟩
  .obtain ⟨o,q,c,d⟩:=ak;exact ⟨o,q,fun v z=>by rw [d] at z;cases z⟩
 keep:=fun i h h' ⟨old,he,ak⟩ k=>⟨old,k e (by simp) _ he,ak.at fun o q=>k it (by simp) o q⟩
 item:=by
  intro X di hw d9 aq i ae s σ H E J hf ⟨old,he,ak⟩ a9;subst di hw d9;obtain ⟨xs,x,a4,ao⟩:=a9;obtain ⟨aV,b8,p,ay⟩:=J.list a4;obtain ⟨u,bE,dU⟩:=b8.get ao;refine wpAny_pyNext_enum_item he ak p.isList (x:=u) (by simpa using bE) dW fun ag xj Y1 B9 iK EM=>⟨_,rfl,?_⟩
  refine wpAny_letOwnedTupleGo_enum xj fun ar CK gc=>?_
  replace gc:sG e ag ar:=gc;have w0:e < s.heap.objs.size:=dt he;have aI:∀ b o,b ∉ [e,it]->s.heap.get? b=some o->ar.get? b=some o:=fun b o af q=>by
   simp only [cP,fw,or_false,not_or] at af;exact gc.extBut _ _ af.1 (EM b o af.1 af.2 q)
  have aY:Inv X ae σ H { s with heap:=ar,toks:=s.toks + 1 }:=J.y4 aI hf;have f_:h_ X ae H s.heap.objs.size:=J.kD (bW _) (J.bz.fresh (bW _));have wh:ar.get? s.heap.objs.size=some { cls:=.type "tuple",data:=.seq #[.int i s.toks,u] }:=(gc.2 _ (NT w0)).trans B9;have bX:=aY.adopt (o:=.tup [.int i,x]) f_ ⟨⟨by show 2 <= sizeLine;decide,_,wh,rfl⟩,[.int i s.toks,u],.cons ⟨_,rfl⟩ (.cons dU .nil),⟨_,wh,rfl,_,rfl⟩⟩;refine ⟨.ref s.heap.objs.size,_,bX,rfl,⟨_,x,f_.1,rfl,fun ys bj=>by rw [J.Nz bj a4];exact ao,rfl⟩,⟨u,?_,?_⟩,fun b af=>?_⟩
  .have ax:((i + 1:Nat):Int)=(i:Int) + 1:=by omega
   rw [ax];exact CK
  .exact Y1.extBut gc.extBut (eY dW)
  .have cL:b < s.heap.objs.size:=by
    simp only [cP,fw,or_false] at af;rcases af with rfl | rfl
    .exact w0
    .obtain ⟨o,q,_⟩:=ak;exact dt q
   rw [aW (e9 cL)];exact (hf b af).1
 done:=by
  intro X di hw d9 aq i ae s σ H E J hf ⟨old,he,ak⟩ a9;subst di hw d9;obtain ⟨xs,a4,ao⟩:=a9;obtain ⟨aV,b8,p,ay⟩:=J.list a4;have aB:=b8.length;exact wpAny_pyNext_enum_end (J.ok.hd aq) he ak p.isList (by simp;omega) fun h' e8=>⟨rfl,J.y4 (t':=s.toks) (fun b o af q=>e8 b o (fun z=>af (by simp [z])) q) hf⟩
 self:=fun _ _ _ _ _ ⟨_,he,_⟩ h=>wpAny_pyIter_enum he h
theorem TK:bootBuiltins "enumerate"=some (.type "enumerate"):=by ac_nf
theorem Rb:bootBuiltins "reversed"=some (.type "reversed"):=by ac_nf
section
variable {X:a6}
noncomputable def IS (K:a') (aZ:eI):TI:=fun σ H R=>aZ σ H fun vs H1=>∃ a,vs=[.ref a]/\(∃ xs,aH K H1 a xs)/\R (Bt K a) H1
theorem t_ {k} {p pos:Pos} (a9:ip X "enumerate") (hm:X.ai "enumerate"=none) (aS:ck X [a] aZ) (aC:starEach [a] X.env=[(false,eval a X.env)]:=by rfl) :
  k4 X (.Tuple aL k rO) (.Call (.Name "enumerate" p) [a] [] pos) (IS X.K aZ):=by
 intro ae s σ H R J h;refine Call_ (ss J a9 hm TK (u1 (bM (aS pos ae s σ H _ J h) fun us s1 ct=>?_) aC rfl));obtain ⟨vs,H1,aY,bO,bQ⟩:=ct;obtain ⟨a,e,⟨xs,a4⟩,q⟩:=bQ;subst e;cases bO with
 | cons r jd=>
  cases jd;cases r;obtain ⟨aV,b8,pl,ay⟩:=aY.list a4;refine call_enumerate_list pl.isList fun h' Om Eg hsz aI=>wpAny_pyIter_enum Om ?_
  refine ⟨s1.heap.objs.size + 1,[s1.heap.objs.size + 1,s1.heap.objs.size],_,_,H1,rfl,aY.kept (t':=s1.toks) aI,adg a _ _ (Wf _),⟨_,Om,Eg⟩,fun b af=>?_,q⟩;have fv:s1.heap.objs.size <= b:=by
   simp only [cP,fw,or_false] at af;rcases af with rfl | rfl
   .exact Ae _
   .exact bW _
  exact aY.kD fv (aY.bz.fresh fv)
end
theorem h8 {k:Nat} {t:pf} {K:a'} (d9:X.K=K) (aq:X.calm=true) (h:uI X aL t)
  (a0:(assignEach aL X.env).length=n:=by rfl) (gk:(assignEach aL X.env).findIdx? (·.1)=none:=by rfl):ll X (.Tuple aL k pos) (qZ K n t):=by
 subst d9;exact Wv aq h a0 gk
section
variable {X:a6}
theorem J1 {P:Nat->Value->Prop} {f:Nat->V} (di:∀ i v,P i v->bx (f i) v):∀ (l:List Value) (k:Nat),(∀ j v,l[j]? = some v->P (k + j) v)->bS ((dG l.length).map fun i=>f (k + i)) l
 | [],_,_=>.nil
 | v :: r,k,h=>by
  rw [fp,List.range_succ_eq_map,dP,lG];refine .cons (di _ _ (h 0 v rfl)) ?_;have:=J1 di r (k + 1) fun j w bb=>by
   have:=h (j + 1) w (by simpa using bb);rwa [show k + 1 + j=k + (j + 1) by omega]
  have e:(fun i=>f (k + 1 + i))=((fun i=>f (k + i)) ∘ Nat.succ):=funext fun i=>by
   show f (k + 1 + i)=f (k + (i + 1));rw [show k + 1 + i=k + (i + 1) by omega]
  rwa [e] at this
theorem NR {P:Nat->Value->Prop} {f:Nat->V} (di:∀ i v,P i v->bx (f i) v) {acc:Array Value} {n:Nat} (h:ItemsOf P acc n):bS ((dG n).map f) acc.toList:=by
 have:=J1 di acc.toList 0 fun j v bb=>by
  rw [R1];exact h.2 j v (by rw [<- Me];exact bb)
 rw [show acc.toList.length=n by rw [oI];exact h.1] at this;simpa using this
end
inductive te (K:a') (H:ah):Nat->V->V->Bool->Prop
 | flat {k:Nat} {x y:V} (ao:kt x=true) (bj:kt y=true):te K H k x y (la x y)
 | lst {k:Nat} {p q:Addr} {xs ys:List V} {e:Nat->Bool} (aw:aH K H p xs) (a4:aH K H q ys) (aB:xs.length=ys.length) (he:∀ (j:Nat) (x y:V),xs[j]? = some x->ys[j]? = some y->te K H k x y (e j)):te K H (k + 1) (.ref p) (.ref q) ((dG xs.length).all e)
 | aiY {k:Nat} {p q:Addr} {xs ys:List V} (aw:aH K H p xs) (a4:aH K H q ys) (aB:xs.length ≠ ys.length):te K H (k + 1) (.ref p) (.ref q) false
 | tup {k:Nat} {p q:Addr} {xs ys:List V} {e:Nat->Bool} (aw:cU K H p xs) (a4:cU K H q ys) (he:∀ (j:Nat) (x y:V),xs[j]? = some x->ys[j]? = some y->te K H k x y (e j)):te K H (k + 1) (.ref p) (.ref q) ((dG (min xs.length ys.length)).all e && xs.length == ys.length)
section
variable {X:a6} {ae:List (Addr × Obj)} {σ:St} {H:ah} {s:Shared}
end
section
variable {X:a6}
end
end L2
namespace L2
open PySem PySem.Spec PyProof.Rows PySem.Builtin PySem.Builtin.ObjectAttr
noncomputable abbrev Nc:List Value:=[.type "ValueError",.type "Exception",.type "BaseException",.type "object"]
noncomputable def Mr (K:a') (C o2:Addr):Bool:=
 match K.lookup C with
 | some ⟨.type "type",_,.cls cd,dv⟩=>
  match cd.mro,dv.toList with
  | .ref D :: c9,[_,_,_,_,some (.builtin n),_]=>
   (D == C) && (n == "ValueError.__new__") && (cd.hasDel == false) && (cd.hasDict == true) && PySem.W.tailIn K Nc c9 && PySem.W.nsOkIn K cd.ns && (zk K cd.ns "__init__" == some (some (.ref o2)))
  | _,_=>false
 | _=>false
section
variable {P:Program} {w:World} {A:Around} {h:Heap} {g:Array GenState} {d:Drawn} {t:Nat} {os:OsState} {K:a'} {C o2:Addr} {R:Result->Shared->Prop}
end
noncomputable def FA:List Value->Bool
 | .ref _ :: r=>FA r
 | l=>l == Nc
structure adj (K:a') (C:Addr):Prop where
 hd:AX K C=true
 dz:((abc K C).any fun cd=>FA cd.mro)=true
 FJ:dg K (.ref C) "__setattr__"=some (some (.builtin "object.__setattr__"))
 ga:dg K (.ref C) "__getattribute__"=some (some (.builtin "BaseException.__getattribute__"))
 gt:dg K (.ref C) "__getattr__"=some none
 ex:∃ o2,Mr K C o2=true
section
variable {prog:Program} {w:World} {A:Around} {E:Value->Shared->Prop} {K:a'} {C x:Addr} {s:Shared} {R:Result->Shared->Prop}
end
section
variable {X:a6} {ae:List (Addr × Obj)} {σ:St} {H:ah} {s:Shared} {x C av:Addr} {a_:List (Str × V)} {f:Str} {y:V} {u:Value} {A:Around} {E:Value->Shared->Prop} {Q:Unit->Shared->Prop}
noncomputable def aaT (x C:Addr) (ez:Option Addr):Heap->Prop:=fun h=>∃ vs dv,h.get? x=some ⟨.ref C,ez,.fields vs,dv⟩
end
noncomputable abbrev XN:=St->ah->(ah->Prop)->Prop
section
variable {X:a6} {e:Expr} {aL:List Expr} {n:Nat} {t:XN} {bJ:TE} {pos:Pos}
end
structure aik (K:a') (L:Addr) (m:Str):Prop where
 dy:ad2 K L (.type "type")=true
 fd:ac1 K (.ref L) (.type "type") m=some (.val (.builtin "ValueError.__init__"))
 ga:rJ K (.ref L) "__getattribute__"=some (some (.builtin "type.__getattribute__"))
section
variable {X:a6} {L:Addr} {x:Str} {p pos fh:Pos} {e:Expr} {aL:List Expr} {t:eI}
end
structure aiF (K:a') (C o2:Addr):Prop where
 e:Mr K C o2=true
 fn:YR K (.ref o2)=some (.type "function")
 bg:qG K (.ref C)=true
section
variable {X:a6} {k:Nat} {f C:Addr} {fd:FuncData} {ps:List Str} {sp:bF} {x g:Str} {p pos pos' fh:Pos} {e o value:Expr} {aL:List Expr} {aZ gY:TE} {t:eI}
end
noncomputable def acO (x C:Addr) (ez:Option Addr) (T:Addr) (iH:Value) (h:Heap):Prop:=
 T ≠ x/\∃ vs dv Mb yK,h.get? x=some ⟨.ref C,ez,.fields vs,dv⟩/\vs[1]? = some (.ref T)/\h.get? T=some Mb/\Mb.data=.fields yK/\yK[3]? = some iH
structure ahL (a_:List Addr) (x:Addr) (K':Option Addr) (h h':Heap):Prop where
 keep:∀ b o,h.get? b=some o->b ∉ a_->b ≠ x->some b ≠ K'->h'.get? b=some o
 slot:∀ b o,h.get? b=some o->b ∈ a_->∃ dv,h'.get? b=some { o with slots:=dv }
 there:∀ b o,h.get? b=some o->∃ cK,h'.get? b=some cK
section
variable {M:Model} {A:Around} {E:Value->Shared->Prop} {s:Shared}
theorem Qk {base h:Heap} (aB:h.FunFrames base l) (e:h.get? b=some o) (d:o.data=.fields vs):b ∉ kX l:=fun hm=>by
 obtain ⟨_,cK,b5,iS⟩:=aB.mem hm;rw [e] at b5;cases b5;exact iS vs d
end
section
variable {P:Program} {w:World} {H:ah} {h h':Heap} {a_:List Addr} {x C T:Addr} {ez:Option Addr} {iH:Value} {K':Option Addr} {o:dY}
end
structure agP (X:a6):Prop where
 st:X.stack=X.env :: X.outer
 fr:X.env.frame=some X.env.locals
noncomputable def af3 (X:a6) (ae:List (Addr × Obj)) (T:Addr):Prop:=(T ∈ X.ex\/X.eX.heap.objs.size <= T)/\T ≠ X.env.locals/\(∀ x c,X.env.cells.lookup x=some c->c ≠ T)/\∀ p ∈ X.d3 ++ ae,p.1 ≠ T
section
variable {X:a6} {ae:List (Addr × Obj)} {σ:St} {H:ah} {s:Shared} {T x C:Addr} {ez:Option Addr} {E:St->eU} {M:Model} {A:Around} {aiJ:Value->Shared->Prop} {Q:Unit->Shared->Prop} {e iH:Value} {h':Heap}
end
section
variable {P:Program} {w:World} {K:a'} {ai:Str->Option Value} {base:Heap} {N:List Str} {qual:Str} {scope:Scope} {f:Addr} {cd:Value} {A:Around} {outer:List Env} {s:Shared} {H:ah} {E:eU}
end
section
variable {X:a6} {CX:h7} {k:Nat} {f C:Addr} {fd:FuncData} {ps:List Str} {sp:bF} {dvs:List V} {ds:List Value} {E:St->eU} {x m:Str} {p pos fh:Pos} {e o:Expr} {aL:List Expr} {aZ:TE} {t:eI}
end
section
variable {X:a6} {ae QB:List (Addr × Obj)} {σ:St} {H:ah} {s:Shared} {E:Value->Shared->Prop} {e:Value}
end
noncomputable def gu.gone (D:gu) (i:Nat):gu:={ cF:=fun σ H=>D.cF (σ.set i none) H,kW:=D.kW,bw:=fun σ H=>D.bw (σ.set i none) H,e1:=fun σ H=>D.e1 (σ.set i none) H }
section
variable {X:a6} {body ag2:List Stmt} {d6:Stmt} {x n:Str} {c:Addr} {i:Nat} {cB:(St->eU)->en} {tl:en} {agA aw pos:Pos}
end
theorem PA (D:gu) (i:Nat) (σ:St) (H:ah):(D.gone i).cF σ H=D.cF (σ.set i none) H:=rfl
theorem Mm (D:gu) (i:Nat) (v:V) (H:ah):(D.gone i).kW v H=D.kW v H:=rfl
section
variable {X:a6} {e:Expr} {bJ:TE} {pos:Pos} {E:St->eU}
end
noncomputable def DB (B:a6) (E:eU) (e:Value) (aO:Shared):Prop:=
 ∃ ae iH aQ I x C ez T,e=.ref x/\Inv B ae aQ I aO/\I x=some (.ext (aaT x C ez))/\I T=none/\af3 B ae T/\B.eX.heap.objs.size <= T/\acO x C ez T iH aO.heap/\E (.ref C) ez I
structure ahm (X:a6) (scope:Scope) (N:List Str) (cH elt:Expr) (ifs:List Expr) (g:fS) (c2:TT) (bJ:eU->TE):Prop where
 QD:∀ E C s H bP,ll ((X.block scope C N s H bP).jS (DB (X.block scope C N s H bP) E)) cH g
 tests:∀ E C s H bP,wA ((X.block scope C N s H bP).jS (DB (X.block scope C N s H bP) E)) ifs c2
 elem:∀ E C s H bP,bD ((X.block scope C N s H bP).jS (DB (X.block scope C N s H bP) E)) elt (bJ E)
section
variable {X:a6} {elt cH iter:Expr} {ifs:List Expr} {scope:Scope} {pos:Pos} {hr:TI} {g:fS} {c2:TT} {bJ:eU->TE} {N:List Str} {sel:List (Option Nat)}
end
structure agw (K:a') (C:Addr):Prop where
 cl:eg K C
 aS:dg K (.ref C) "__class__"=some (some (.builtin "object.__class__"))
 a0:rJ K (.builtin "object.__class__") "__get__"=some (some (.builtin "getset_descriptor.__get__"))
 FX:Cs K (.builtin "object.__class__")=some true
 hm:H' K C (.type "object")=some true
end L2
namespace L2
open PySem PySem.Spec PyProof.Rows
noncomputable def PS (ak:Int) (n:Nat):hU:=⟨fun i _=>i < n,fun i H x I=>I=H/\x=.int (ak - i),fun i _=>n <= i⟩
theorem UL {w:World} {K:a'} (it:Addr) (ak:Int) (n:Nat):lW P w K cH (PS ak n) [it] it (fun i h=>IsRangeIter h it (ak + (i:Nat) * (-1)) ((n:Int) - (i:Nat)) (-1)) where
 mem:=by simp
 obj:=fun i h st b af=>by
  have e:b=it:=by simpa using af
  subst e;exact ⟨_,st,fun v z=>by
   have ey:G6 _=D2 v:=z;cases ey⟩
 keep:=fun i h h' st k=>k it (by simp) _ st
 item:=by
  intro X di hw d9 aq i ae s σ H E J hf st a9;subst di hw d9;obtain ⟨f0,f1,f2,e_,f4,eP⟩:=hf it (by simp);have W:=acH (prog:=X.prog) (w:=X.w) (J.ok.hd aq) it ak (-1) n;refine W.item i s _ _ a9 st fun v h' cY aK iC kh=>?_
  obtain ⟨t,rfl⟩:=aK;have aY:Inv X ae σ H { s with heap:=h',toks:=cY }:=J.turned (fun b o af e=>kh b o (by simpa using af) e) f0 f1 e_ f4 eP;refine ⟨_,rfl,qM (s:={ s with heap:=h',toks:=cY }) (n := "range_iterator") iC rfl rfl (by decide) ⟨.int (ak - i),H,aY,⟨t,?_⟩,⟨rfl,rfl⟩,iC,fun b af=>(hf b af).1⟩⟩;congr 1;omega
 done:=by
  intro X di hw d9 aq i ae s σ H E J hf st a9;subst di hw d9;obtain ⟨f0,f1,f2,e_,f4,eP⟩:=hf it (by simp);exact wpAny_pyNext_range_end (J.ok.hd aq) st (by have:n <= i:=a9;omega) fun h' e8=>⟨rfl,J.turned (t':=s.toks) (fun b o af e=>e8 b o af e) f0 f1 e_ f4 eP⟩
 self:=fun _ _ _ _ _ st h=>wpAny_pyIter_rangeiter st h
theorem Lg (a b:Int):CB a b (-1)=if b < a then a - b else 0:=by
 unfold CB;rw [if_neg (show ¬ (-1:Int) > 0 by decide),show (- -1:Int)=1 by decide,Sv];show (if b < a then a - b - 1 + 1 else 0)=_;split <;> omega
theorem ZI (aS:-(2 ^ 62) <= a) (ov:a < 2 ^ 62) (af:-(2 ^ 62) <= b) (fv:b < 2 ^ 62):T' a b (-1)=true:=by
 unfold T';rw [Lg];simp only [aiS,iV,Az,decide_eq_true_eq,beq_iff_eq,show ¬ (-1:Int) > 0 by decide,if_false];split <;> omega
section
variable {X:a6} {cH:Expr}
noncomputable def EK (aZ:eI):TI:=fun σ H R=>aZ σ H fun vs H1=>∃ i j:Int,vs=[.int i,.int j,.int (-1)]/\(-1073741824 <= i/\i < 1073741824/\-1073741824 <= j/\j < 1073741824)/\R (PS i (i - j).toNat) H1
theorem Th {p pos:Pos} (a9:ip X "range") (hm:X.ai "range"=none) (aS:ck X [a,b,c] aZ) (aC:starEach [a,b,c] X.env=[(false,eval a X.env),(false,eval b X.env),(false,eval c X.env)]:=by rfl) (gc:starEach [b,c] X.env=[(false,eval b X.env),(false,eval c X.env)]:=by rfl) :
  k4 X cH (.Call (.Name "range" p) [a,b,c] [] pos) (EK aZ):=by
 intro ae s σ H R J h;refine Call_ (ss J a9 hm boot_range (u1 (bM (aS pos ae s σ H _ J h) fun us s1 ct=>?_) (by rw [aC,gc]) (by rw [gc];rfl)));obtain ⟨vs,H1,aY,bO,bQ⟩:=ct;obtain ⟨i,j,e,⟨bQ,eK,kT,PM⟩,q⟩:=bQ;subst e;cases bO with
 | cons r jd=>
  cases jd with
  | cons fu jd=>
   cases jd with
   | cons af_ jd=>
    cases jd;obtain ⟨t,rfl⟩:=r;obtain ⟨t',rfl⟩:=fu;obtain ⟨z6,rfl⟩:=af_;refine call_range_3 (by decide) ?_ (l3 (PyProof.noPylong_small (by omega)));refine wpAny_pyIter_range (Y2 ..) (ZI (by omega) (by omega) (by omega) (by omega)) ?_;have bX:Inv X ae σ H1 { s1 with heap:=s1.heap.push { cls:=.type "range",data:=.fields #[.int i t,.int j t',.int (-1) z6] },toks:=s1.toks }:=aY.kept fun b o e=>er _ e
    refine ⟨(s1.heap.push { cls:=.type "range",data:=.fields #[.int i t,.int j t',.int (-1) z6] }).objs.size,[(s1.heap.push { cls:=.type "range",data:=.fields #[.int i t,.int j t',.int (-1) z6] }).objs.size],_,_,H1,rfl,
     bX.kept (t':=s1.toks) fun b o e=>er _ e,UL _ i (i - j).toNat,?_,fun b af=>?_,q⟩
    .have ax:i + ((0:Nat):Int) * (-1)=i:=by simp
     have aD:(((i - j).toNat:Nat):Int) - ((0:Nat):Int)=CB i j (-1):=by rw [Lg];split <;> omega
     show IsRangeIter _ _ (i + ((0:Nat):Int) * (-1)) ((((i - j).toNat:Nat):Int) - ((0:Nat):Int)) (-1);rw [ax,aD];exact e6 _ rfl
    .have e:b=(s1.heap.push { cls:=.type "range",data:=.fields #[.int i t,.int j t',.int (-1) z6] }).objs.size:=by simpa using af
     subst e;exact bX.kD (bW _) (bX.bz.fresh (bW _))
end
theorem aa1:typeLookup (.type "list_reverseiterator") "__len__"=pure none:=by rw [typeLookup_type,builtinLookup_eq_fast];kernel_rfl
theorem WT:typeLookup (.type "list_reverseiterator") "__length_hint__"=pure (some (.builtin "list_reverseiterator.__length_hint__")):=by rw [typeLookup_type,builtinLookup_eq_fast];kernel_rfl
section
variable {prog:Program} {w:World} {A:Around} {E:Value->Shared->Prop} {s:Shared} {it l:Addr} {items:Array Value}
theorem Zv (iY:s.TypeIs (.ref it) "list_reverseiterator") (h:Q false s):wpAny (model prog w) A (T9 (.ref it)) Q E s:=by
 unfold T9;refine wpAny_bind (wpAny_specialOf iY aa1 ?_);show wpAny _ A (specialOf (fC it) (aa "__length_hint__") >>= _) _ _ _;refine wpAny_bind (wpAny_specialOf iY WT ?_);generalize hS:("list_reverseiterator.__length_hint__" : String)=R8
 wp_delta
 rw [show splitId R8=some ("list_reverseiterator","__length_hint__") from by subst hS;ac_nf];subst hS;refine wpAny_bind (wpAny_isInstance (T := "list_reverseiterator") (b:=true) iY (by rw [isSubtype_type];kernel_rfl) ?_);refine wpAny_ite_split (fun m6=>absurd m6 (by decide)) (fun _=>?_);refine wpAny_ite_split (fun _=>?_) (fun m6=>absurd (by ac_nf) m6);refine wpAny_ite_split (fun m6=>absurd m6 (by ac_nf)) (fun _=>?_);exact wpAny_pure h
noncomputable abbrev N6 (items:Array Value):Nat->Value->Prop:=fun i v=>items[items.size - 1 - i]? = some v
theorem aep (e':A.handled=none) (hit:s.heap.IsRevIter it l ((items.size:Int) - 1 - ((0:Nat):Int))) (aB:s.heap.IsList l items) (dW:l ≠ it) (S:Addr) (PG:S ≠ it) (UT:S ≠ l) (res:Value) (c₀:Nat)
  (fi:s.heap.get? S=some { cls:=.type "list",data:=.seq #[] c₀ }) (a0:items.size <= sizeLine)
  (gG:∀ h' cY acc c,(∀ b o,b ≠ S->b ≠ it->s.heap.get? b=some o->h'.get? b=some o)->h'.get? S=some { cls:=.type "list",dict:=none,data:=.seq acc c,slots:=#[] }->ItemsOf (N6 items) acc items.size->R (.ok (.ret res)) { s with heap:=h',toks:=cY }) :
  wpAny (model prog w) A.in1 (Ec (.ref S) (.ref it) res)
   (fun fin aO=>match fin with | .done f=>R (.ok f) aO | .again ho=>ho.quiet=true/\codeAny (model prog w) A ho R aO) (fun e aO=>R (.error e) aO) s:=by
 unfold Ec;refine wpAny_bind (wpAny_typeOf hit.typeIs ?_);have ag:VK (.ref S) (.ref it)=false:=by simp [VK,PG]
 have ar:(t8 "list_reverseiterator" == t8 "list")=false:=by decide
 have bc:(t8 "list_reverseiterator" == t8 "tuple")=false:=by decide
 simp only [ag,ar,bc,Kh,vj,if_false];refine wpAny_bind (wpAny_pyIter_revIter hit ?_);refine wpAny_bind (wpAny_holding (Zv hit.typeIs ?_));refine wpAny_ite_split (fun m6=>absurd m6 (by ac_nf)) (fun _=>?_);have W:=Walks.listRev (prog:=prog) (w:=w) (A:=A.in1) e' it l dW items;have yZ:S ∉ [it,l]:=by simp only [cP,fw,or_false,not_or];exact ⟨PG,UT⟩
 refine wpAny_pure ⟨plainId_quiet PySem.F.plain_extend_loop _,codeAny_extend_loopS W.toS a0 S yZ res items.size 0 s #[] c₀ rfl (gi _) ⟨gi _,hit,aB⟩ fi (ItemsOf.nil _) fun aO acc c hm lg nc=>?_⟩;rw [Moved.eq_with hm];refine gG aO.heap aO.toks acc c (fun b o af ak e=>hm.heap b o (fun uT=>?_) e) lg nc;rcases cP.mp uT with b5 | uT
 .exact af b5
 .exact ak (nI.mp uT)
theorem ab0 (e':A.handled=none) (hit:s.heap.IsRevIter it l ((items.size:Int) - 1 - ((0:Nat):Int))) (aB:s.heap.IsList l items) (dW:l ≠ it) (a0:items.size <= sizeLine)
  (aN:∀ h' cY acc c,(∀ b o,b ≠ it->s.heap.get? b=some o->h'.get? b=some o)->h'.get? s.heap.objs.size=some { cls:=.type "list",dict:=none,data:=.seq acc c,slots:=#[] }->ItemsOf (N6 items) acc items.size->Q (.ref s.heap.objs.size) { s with heap:=h',toks:=cY }) :
  wpAny (model prog w) A (call (.type "list") [.ref it]) Q E s:=by
 have li:it < s.heap.objs.size:=by obtain ⟨_,e,_⟩:=hit;exact dt e
 have Mp:l < s.heap.objs.size:=by obtain ⟨_,e,_⟩:=aB;exact dt e
 refine callType_codes (Q₁:=fun obj cN=>obj=.ref s.heap.objs.size/\cN = { s with heap:=s.heap.push { cls:=.type "list",data:=.seq #[] } }) PySem.F.called_list (PySem.F.typeCall_list_1 _) PySem.F.entry_list_init
  (code_list_new _ ⟨rfl,rfl⟩) fun obj cN h₁=>?_
 obtain ⟨rfl,rfl⟩:=h₁;have fi:(s.heap.push { cls:=.type "list",data:=.seq #[] }).get? s.heap.objs.size=some { cls:=.type "list",data:=.seq #[] }:=e6 _ rfl;refine ⟨⟨_,fi,rfl⟩,PySem.F.args_list_init_2 _ _,?_⟩;show wpAny _ _ (do let old <- T7 (.ref s.heap.objs.size);ahX (.ref s.heap.objs.size) (fun _=>#[]);letGo old.toList.reverse;Ec (.ref s.heap.objs.size) (.ref it) .none) _ _ _;refine wpAny_bind ?_;unfold T7;refine wpAny_bind (wpAny_seqItems fi rfl (wpAny_pure ?_));show wpAny _ _ (updateSeq s.heap.objs.size (fun _=>#[]) >>= fun _=>letGo (#[]:Array Value).toList.reverse >>= fun _=>Ec (.ref s.heap.objs.size) (.ref it) .none) _ _ _;refine wpAny_bind (wpAny_updateSeq fi rfl ?_);have UA:=Bw (qw (fun _=>(#[]:Array Value))) fi rfl;have G4:∀ b o,s.heap.get? b=some o->((s.heap.push { cls:=.type "list",data:=.seq #[] }).update s.heap.objs.size (qw (fun _=>(#[]:Array Value)))).get? b=some o:=
  fun b o e=>(qR _ _ (eY (e9 (dt e)))).trans (er _ e)
 refine wpAny_bind (wpAny_letGo ?_);refine aep (A:=A.in1) e' (hit.at fun o e=>G4 _ o e) (aB.at fun o e=>G4 _ o e) dW _ (eY (e9 li)) (eY (e9 Mp)) .none _ UA a0 fun h' cY acc c aI lg nc=>?_
 exact ⟨rfl,aN h' cY acc c (fun b o af e=>aI b o (e9 (dt e)) af (G4 b o e)) lg nc⟩
end
section
variable {X:a6}
noncomputable def HQ (K:a') (aZ:eI):TE:=fun σ H Q=>aZ σ H fun vs H1=>∃ a xs,vs=[.ref a]/\aH K H1 a xs/\∀ l,H1 l=none->Q (.ref l) (upd H1 l (.lst xs.reverse))
theorem Dj {p q pos pos':Pos} (aq:X.calm=true) (a9:ip X "list") (hm:X.ai "list"=none) (Xd:ip X "reversed") (Aa:X.ai "reversed"=none) (aS:ck X [a] aZ) (aC:starEach [a] X.env=[(false,eval a X.env)]:=by rfl)
  (gc:starEach [LA (.Name "reversed" q) [a] [] pos'] X.env=(false,eval (LA (.Name "reversed" q) [a] [] pos') X.env) :: starEach [] X.env:=by rfl) :
  bD X (.Call (.Name "list" p) [.Call (.Name "reversed" q) [a] [] pos'] [] pos) (HQ X.K aZ):=by
 intro ae s σ H Q J h;refine wpAny_Call_Name_kw (ss J a9 hm Ko ?_);refine u1 ?_ gc rfl;rw [gc];show wpAny _ _ (spliced ((false,eval (LA (.Name "reversed" q) [a] [] pos') X.env) :: [])) _ _ s;refine VT ?_;refine Call_ (ss J Xd Aa Rb (u1 (bM (aS pos' ae s σ H _ J h) fun us s1 ct=>?_) aC rfl));obtain ⟨vs,H1,aY,bO,bQ⟩:=ct;obtain ⟨a,xs,e,a4,q⟩:=bQ;subst e;cases bO with
 | cons r jd=>
  cases jd;cases r;obtain ⟨aV,b8,pl,ay⟩:=aY.list a4;have aB:=b8.length;have cL:a < s1.heap.objs.size:=by obtain ⟨_,e,_⟩:=pl.isList;exact dt e
  refine call_reversed_list pl.isList ?_;refine Uy ?_;have hit:(s1.heap.push (revObj a ((aV.toArray.size:Int) - 1))).IsRevIter s1.heap.objs.size a ((aV.toArray.size:Int) - 1 - ((0:Nat):Int)):=by
   refine ⟨_,e6 _ rfl,rfl,?_⟩;simp only [revObj];simp
  have bg:∀ b o,s1.heap.get? b=some o->(s1.heap.push (revObj a ((aV.toArray.size:Int) - 1))).get? b=some o:=fun b o e=>er _ e
  refine ab0 (aY.ok.hd aq) hit (pl.isList.at fun o e=>bg _ o e) (e9 cL) (by rw [eR];omega) fun h' cY acc c aI b5 nc=>?_
  refine ⟨.ref _,_,aY.laid (o:=.lst xs.reverse) (t':=cY) (fun b u e=>aI b u (e9 (dt e)) (bg b u e)) (by rw [uA];exact Ae _) ⟨by rw [pj];omega,acc.toList,c,?_,b5⟩,rfl,q _ (aY.bz.fresh (by rw [uA];exact Ae _))⟩;have aK:=NR (f:=fun i=>xs.getD (xs.length - 1 - i) .b4) (fun i v aK=>by
   have qB:aV.toArray[aV.toArray.size - 1 - i]? = some v:=aK;rw [eR,<- aB,Zd] at qB;have bb:=(cW.mp qB).1;have ao:xs[xs.length - 1 - i]? = some xs[xs.length - 1 - i]:=cv (by omega);obtain ⟨w,hw,jY⟩:=b8.get ao;rw [qB] at hw;cases hw;rw [iF,ao];exact jY) nc
  have vz:(dG aV.toArray.size).map (fun i=>xs.getD (xs.length - 1 - i) .b4)=xs.reverse:=by
   rw [eR,<- aB];refine r3 (by simp) fun i ag ar=>?_
   rw [vQ,aeS,List.getElem_reverse,iF,cv (by simp at ar;omega)];rfl
  rw [vz] at aK;exact aK
end
section
variable {prog:Program} {w:World} {A:Around} {R:Result->Shared->Prop} {J:Addr} {bP wr:List Addr} {n:Nat} {P:Nat->Value->Prop} {St:Nat->Heap->Prop}
noncomputable def UI (P:Nat->Value->Prop) (nW:Nat->Nat->Bool) (j:Nat) (acc:Array Value):Prop:=(j=0/\acc=#[])\/∃ k8 i,j=i + 1/\acc=#[k8,k8]/\P (argBest nW i) k8
theorem WF (W:Walks prog w A.in1 J bP wr n P St) (nW:Nat->Nat->Bool) (Sy:CmpOf prog w A.in1 .Lt P nW) (S:Addr) (yZ:S ∉ bP) (kv:Value) (zK:Str) :
  ∀ (k j:Nat) (s:Shared) (acc:Array Value) (c:Nat),n - j=k->j <= n->St j s.heap->UI P nW j acc ->
  s.heap.get? S=some { cls:=.type "list",dict:=none,data:=.seq acc c,slots:=#[] } ->
  (∀ v h' cY,(n=0/\v=kv)\/(0 < n/\P (argBest nW (n - 1)) v)->(∀ b o,b ∉ wr->b ≠ S->s.heap.get? b=some o->h'.get? b=some o)->R (.ok (.ret v)) { s with heap:=h',toks:=cY }) ->
  codeAny (model prog w) A (.builtin "min.loop" ⟨[.ref J,.none,.ref S],[(zK,kv)]⟩) R s:=by
 have O1:S ∉ wr:=fun h=>yZ (W.sub _ h)
 have uk:(toString "min" ++ toString ".loop" : String) = "min.loop" := by decide
 intro k
 induction k with
 | zero=>
  intro j s acc c aI bb gk iW fi gG;have j9:j=n:=by omega
  refine codeAny_builtin Xh ?_;rw [acW tj _];show wpAny _ A.in1 (seqItems? (.ref S) >>= _) _ _ s;refine wpAny_bind (wpAny_seqItems fi rfl ?_);show wpAny _ A.in1 (tryCatch (pyNext (.ref J)) _ >>= _) _ _ s;refine wpAny_bind (wpAny_tryCatch (W.done s _ _ (j9 ▸ gk) fun h' cY jw=>?_));have lg:=jw S _ O1 fi;rcases iW with ⟨h0,rfl⟩ | ⟨k8,i,ak,rfl,di⟩
  .show wpAny _ A.in1 (rule _ >>= _) _ _ _;refine wpAny_bind (wpAny_rule (wpAny_pure ?_));exact gG kv h' cY (.inl ⟨by omega,rfl⟩) fun b o kQ mm e=>jw b o kQ e
  .show wpAny _ A.in1 (updateSeq S (fun _=>#[]) >>= _) _ _ _;refine wpAny_bind ?_;refine wpAny_updateSeq lg rfl (wpAny_bind (wpAny_letGo (wpAny_pure ?_)));refine gG k8 _ cY (.inr ⟨by omega,by rw [show n - 1=i by omega];exact di⟩) fun b o kQ mm e=>(qR _ _ (eY mm)).trans (jw b o kQ e)
 | succ k b2=>
  intro j s acc c aI bb gk iW fi gG;have cL:j < n:=by omega
  refine codeAny_builtin Xh ?_;rw [acW tj _];show wpAny _ A.in1 (seqItems? (.ref S) >>= _) _ _ s;refine wpAny_bind (wpAny_seqItems fi rfl ?_);show wpAny _ A.in1 (tryCatch (pyNext (.ref J)) _ >>= _) _ _ s;refine wpAny_bind (wpAny_tryCatch (W.item j s _ _ cL gk fun v h' cY di JT jw=>?_));have lg:=jw S _ O1 fi;have put:∀ ng:Heap,ng=h'.update S (qw (fun _=>#[v,v]))->St (j + 1) ng:=fun ng e=>by
   subst e;exact W.frame _ _ _ JT fun b GG o e=>(qR _ _ (fun h:S=b=>yZ (by rw [h];exact GG))).trans e
  rcases iW with ⟨h0,rfl⟩ | ⟨k8,i,ak,rfl,La⟩
  .show wpAny _ A.in1 (updateSeq S (fun _=>#[v,v]) >>= _) _ _ _;refine wpAny_bind ?_;refine wpAny_updateSeq lg rfl ?_;rw [uk];refine wpAny_pure ⟨plainId_quiet tj _,b2 (j + 1) _ #[v,v] _ (by omega) cL (put _ rfl) (.inr ⟨v,j,rfl,rfl,by subst h0;exact di⟩) (Bw _ lg rfl) fun iI ng tD nN uY=>?_⟩;exact gG iI ng tD nN fun b o kQ mm e=>uY b o kQ mm ((qR _ _ (eY mm)).trans (jw b o kQ e))
  .subst ak;show wpAny _ A.in1 (tryCatch (holding [v,v] (richCompare .Lt v k8 >>= _)) _ >>= _) _ _ _;refine wpAny_bind (wpAny_tryCatch (wpAny_holding (wpAny_bind (Sy (i + 1) (argBest nW i) v k8 _ _ _ di La ?_))));refine wpAny_bind (wpAny_holding (wpAny_truthy_bool ?_));refine wpAny_bind (wpAny_letGo (wpAny_pure ?_));cases af:nW (i + 1) (argBest nW i) with
   | true=>
    simp only [if_true];refine wpAny_bind ?_;refine wpAny_updateSeq lg rfl (wpAny_bind (wpAny_letGo ?_));rw [uk];refine wpAny_pure ⟨plainId_quiet tj _,b2 (i + 1 + 1) _ #[v,v] _ (by omega) cL (put _ rfl) (.inr ⟨v,i + 1,rfl,rfl,by simp only [argBest,af,if_true];exact di⟩) (Bw _ lg rfl) fun iI ng tD nN uY=>?_⟩;exact gG iI ng tD nN fun b o kQ mm e=>uY b o kQ mm ((qR _ _ (eY mm)).trans (jw b o kQ e))
   | false=>
    simp only [vj,if_false];refine wpAny_bind (wpAny_letGo ?_);rw [uk];refine wpAny_pure ⟨plainId_quiet tj _,b2 (i + 1 + 1) _ #[k8,k8] c (by omega) cL JT (.inr ⟨k8,i + 1,rfl,rfl,by simp only [argBest,af,vj,if_false];exact La⟩) lg fun iI ng tD nN uY=>?_⟩;exact gG iI ng tD nN fun b o kQ mm e=>uY b o kQ mm (jw b o kQ e)
end
section
variable {prog:Program} {w:World} {A:Around} {E:Value->Shared->Prop} {s:Shared}
theorem UF (a d:Value):argsOk "min" ⟨[a],[(aa "default",d)]⟩:=by unfold argsOk;kernel_rfl
theorem af' {aV:Array Value} (e':A.handled=none) (aB:s.heap.IsList l aV) (bC:List Int) (aI:aV.size=bC.length) (aK:∀ (i:Nat) (v:Value),aV[i]? = some v->∃ t,v=mL (bC.getD i 0) t)
  (aN:∀ v h' cY,(bC=[]/\v=kv)\/(∃ m t,bC.min? = some m/\v=.int m t)->(∀ b o,s.heap.get? b=some o->h'.get? b=some o)->Q v { s with heap:=h',toks:=cY }) :
  wpAny (model prog w) A (call (.builtin "min") [.ref l] [(aa "default",kv)]) Q E s:=by
 have uk:(toString "min" ++ toString ".loop" : String) = "min.loop" := by decide
 have cL:l < s.heap.objs.size:=by obtain ⟨_,e,_⟩:=aB;exact dt e
 refine wpAny_call (codeAny_call_builtin PySem.F.plain_min PySem.F.entry_min ?_);simp only [checkBuiltinCall,PySem.F.kind_min];have key:wpAny (model prog w) A.in1 (Builtin.«min» ⟨[.ref l],[(aa "default",kv)]⟩) (fun fin aO=>match fin with
   | .done f=>(match (Except.ok f:Result) with | .ok (.ret v)=>Q v aO | .ok _=>False | .error e=>E e aO)
   | .again ho=>ho.quiet=true/\codeAny (model prog w) A ho (fun r aO=>match r with | .ok (.ret v)=>Q v aO | .ok _=>False | .error e=>E e aO) aO) E s:=by
  show wpAny _ A.in1 (Wr "min" ["key","default"] 0 ⟨[],[(aa "default",kv)]⟩ >>= _) _ _ s;refine wpAny_bind (wpAny_of_eq (show Wr "min" ["key","default"] 0 ⟨[],[(aa "default",kv)]⟩=pure [none,some kv] from rfl) ?_);refine wpAny_bind (wpAny_pure ?_);refine wpAny_bind (wpAny_pyIter_list aB ?_);refine wpAny_bind (wpAny_newObj_type ?_);rw [uk];have W:=Rx (prog:=prog) (w:=w) (A:=A.in1) e' s.heap.objs.size l (e9 cL) aV;have iK:(s.heap.push { cls:=.type "list_iterator",data:=.fields #[.ref l,.int 0 0] }).objs.size=s.heap.objs.size + 1:=uA ..;refine wpAny_pure ⟨plainId_quiet tj _,WF W _ (CmpOf.ints_lt (fun i=>bC.getD i 0) fun i v h=>aK i v h) _ ?_ kv _ aV.size 0 _ #[] _ rfl (gi _) ?_ (.inl ⟨rfl,rfl⟩) (e6 _ rfl) fun v h' cY di jw=>?_⟩
  .show (s.heap.push _).objs.size ∉ _;rw [iK];simp only [cP,fw,or_false,not_or];exact ⟨Wf _,eY (e9 (Mn cL))⟩
  .exact W.frame 0 (s.heap.push { cls:=.type "list_iterator",data:=.fields #[.ref l,.int 0 0] }) _ ⟨⟨_,e6 _ rfl,rfl,rfl⟩,aB.push _⟩ fun b _ o e=>er _ e
  .refine aN v h' cY ?_ fun b o e=>jw b o (fun hm=>?_) ?_ (er _ (er _ e))
   .rcases di with ⟨h0,ag⟩ | ⟨h0,ag⟩
    .exact .inl ⟨Qm.mp (by omega),ag⟩
    .obtain ⟨t,e⟩:=aK _ v ag;have af:=argBest_lt (fun i=>bC.getD i 0) (aV.size - 1);refine .inr ⟨_,t,?_,e⟩;rw [List.min?_eq_some_iff];have ak:argBest (fun i j=>decide (bC.getD i 0 < bC.getD j 0)) (aV.size - 1) < bC.length:=by omega
     refine ⟨?_,fun b fv=>?_⟩
     .rw [iF,cv ak];exact tB ak
     .obtain ⟨j,bb,rfl⟩:=rd fv;have:=af.2 j (by omega);rw [iF (i:=j),cv bb] at this;exact this
   .rw [nI.mp hm] at e;exact absurd (dt e) (pa _)
   .rw [iK];exact e9 (Mn (dt e))
 cases Y4:Manifest.signature? "min" with
 | none=>exact wpAny_pure key
 | some sig=>
  have aS:=UF (.ref l) kv;have ov:Bind.checkArgs "min" sig ⟨[.ref l],[(aa "default",kv)]⟩=pure ():=by simpa only [argsOk,Y4] using aS
  simp only [ov];exact wpAny_pure key
end
section
variable {X:a6}
noncomputable def Fl (K:a') (aZ:eI) (hT:TE):TE:=fun σ H Q=>aZ σ H fun vs H1=>hT σ H1 fun y az=>∃ l bC,vs=[.ref l]/\aH K az l (gb V.int bC)/\Q (match bC.min? with | some m=>.int m | none=>y) az
theorem Zp {p bg pos:Pos} (aq:X.calm=true) (a9:ip X "min") (hm:X.ai "min"=none) (aS:ck X [a] aZ) (hd:bD X d hT)
  (he:∀ pos,backTo pos (starEach [a] X.env)=(false,eval a X.env) :: backTo pos (starEach [] X.env):=by intro _;rfl) (d1:∀ pos,(backTo pos (starEach [a] X.env)).any (·.1)=false:=by intro _;rfl) :
  bD X (.Call (.Name "min" p) [a] [⟨some "default",d,bg⟩] pos) (Fl X.K aZ hT):=by
 intro ae s σ H Q J h;refine wpAny_Call_Name_kw (ss J a9 hm (show bootBuiltins "min"=some (.builtin "min") by ac_nf) ?_);refine callWith_kw (id := "min") (bM (aS pos ae s σ H _ J h) fun us s1 ct=>?_) (he:=he pos) (hplain:=d1 pos);obtain ⟨vs,H1,aY,bO,bQ⟩:=ct;refine kws_cons (bM (hd ae s1 σ H1 _ aY bQ) fun v s2 b7=>d2 b7 fun y az bX dn eK=>kws_nil ?_);obtain ⟨l,bC,rfl,a4,q⟩:=eK;cases bO with
 | cons r jd=>
  cases jd;cases r;obtain ⟨aV,b8,pl,ay⟩:=bX.list a4;have aB:=b8.length;rw [a8] at aB;refine af' (bX.ok.hd aq) pl.isList bC (by rw [eR];omega) (fun i v aK=>?_) fun iI h' cY qB aI=>⟨_,az,bX.kept aI,?_,q⟩
  .rw [Zd] at aK;have ak:i < bC.length:=by have:=(cW.mp aK).1;omega
   obtain ⟨w,hw,jY⟩:=b8.get (show (bC.map V.int)[i]? = some (.int bC[i]) by rw [dS,cv ak];rfl);rw [aK] at hw;cases hw;rw [iF,cv ak];exact jY
  .rcases qB with ⟨rfl,rfl⟩ | ⟨m,t,hm,rfl⟩
   .exact dn
   .rw [hm];exact ⟨t,rfl⟩
end
structure ah0 (K:a') (C:Addr):Prop where
 x:adj K C
 aS:dg K (.ref C) "__class__"=some (some (.builtin "object.__class__"))
 a0:rJ K (.builtin "object.__class__") "__get__"=some (some (.builtin "getset_descriptor.__get__"))
 FX:Cs K (.builtin "object.__class__")=some true
 hm:H' K C (.type "object")=some true
section
variable {prog:Program} {w:World} {A:Around} {E:Value->Shared->Prop} {s:Shared} {K:a'} {x C:Addr} {ez:Obj} {av:Addr} {vs:Array Value} {dv:Array (Option Value)}
end
section
variable {X:a6}
end
structure acz (k:Nat) (A:Around):Prop where
 jc:A.depth + 3 * k + 5 < recursionLimit
 un:A.units + 16 * k + 200 < cLine
structure ag9 (P:Program) (w:World) (K:a') (ai:Str->Option Value) (base:Heap) (CX:h7) (k:Nat) (f:Addr) (fd:FuncData) (ps:List Str) (sp:bF):Prop where
 len:∀ vs H Q E,sp vs H Q E->vs.length=ps.length
 run:∀ (A:Around) (outer:List Env) (s:Shared) (H:ah) (args:Args) (us:List Value) (vs:List V) (Q:cm) (E:eU),acz k A->mU P w K ai base A outer s H->BindsTo s fd args (ps.zip us)->bS vs us->sp vs H Q E ->
  codeAny (model P w) A (.call (.ref f) args) (Ly CX outer P w H s Q E) s
section
variable {X:a6} {CX:h7} {k:Nat} {f C:Addr} {fd:FuncData} {ps:List Str} {sp:bF} {dvs:List V} {ds:List Value} {E:eU} {x m:Str} {p pos fh:Pos} {e o:Expr} {aL:List Expr} {aZ:TE} {t:eI}
end
noncomputable def adt (CX:h7) (P:Program) (w:World) (K:a') (ai:Str->Option Value) (base:Heap) (N:List Str) (qual:Str) (scope:Scope) (f:Addr) (cd:Value) (A:Around) (outer:List Env) (s:Shared) (H:ah) (E:eU):a6 where
 prog:=P
 w:=w
 K:=K
 ai:=ai
 base:=base
 A:=A.deeper (envOfC qual scope s.heap.objs.size f cd)
 N:=N
 eX:=s
 pN:=H
 env:=envOfC qual scope s.heap.objs.size f cd
 outer:=outer
 stack:=envOfC qual scope s.heap.objs.size f cd :: outer
 ex:=[]
 calm:=false
 fn:=fun _=>true
 d3:=[]
 dj:=fun e aO=>wpAny (model P w) (A.deeper (envOfC qual scope s.heap.objs.size f cd)) (leaving (envOfC qual scope s.heap.objs.size f cd) e) (fun _ o4=>CX outer H s E e o4) (fun b5 o4=>CX outer H s E b5 o4) aO
section
variable {P:Program} {w:World} {K:a'} {ai:Str->Option Value} {base:Heap}
end
section
variable {X:a6}
end
section
variable {α:Type} {M:List α->Prop}
theorem fB (h:∀ a,M [a]):∀ us:List α,us.length=1->M us | [a],_=>h a
theorem gM (h:∀ a b,M [a,b]):∀ us:List α,us.length=2->M us | [a,b],_=>h a b
theorem fK (h:∀ a b c,M [a,b,c]):∀ us:List α,us.length=3->M us | [a,b,c],_=>h a b c
theorem Ci (h:∀ a b c d,M [a,b,c,d]):∀ us:List α,us.length=4->M us | [a,b,c,d],_=>h a b c d
theorem Y7 (h:∀ a b c d e,M [a,b,c,d,e]):∀ us:List α,us.length=5->M us | [a,b,c,d,e],_=>h a b c d e
theorem RC (h:∀ a b c d e f,M [a,b,c,d,e,f]):∀ us:List α,us.length=6->M us | [a,b,c,d,e,f],_=>h a b c d e f
theorem yp (h:∀ a b c d e f g,M [a,b,c,d,e,f,g]):∀ us:List α,us.length=7->M us | [a,b,c,d,e,f,g],_=>h a b c d e f g
theorem acR (h:∀ a b c d e f g i,M [a,b,c,d,e,f,g,i]):∀ us:List α,us.length=8->M us | [a,b,c,d,e,f,g,i],_=>h a b c d e f g i
end
structure aiv (K:a') (C:Addr):Prop where
 hd:AX K C=true
 dz:((abc K C).any fun cd=>FA cd.mro)=true
 FJ:dg K (.ref C) "__setattr__"=some (some (.builtin "object.__setattr__"))
 ga:dg K (.ref C) "__getattribute__"=some (some (.builtin "BaseException.__getattribute__"))
 gt:dg K (.ref C) "__getattr__"=some none
structure Dg (K:a') (C:Addr):Prop where
 aS:dg K (.ref C) "__class__"=some (some (.builtin "object.__class__"))
 a0:rJ K (.builtin "object.__class__") "__get__"=some (some (.builtin "getset_descriptor.__get__"))
 FX:Cs K (.builtin "object.__class__")=some true
 hm:H' K C (.type "object")=some true
theorem W6 {bC:List Int}:∀ {aV:List Value},bS (bC.map V.int) aV->∃ xs:List (Int × Tok),aV=xs.map (fun p=>mL p.1 p.2)/\xs.map (·.1)=bC:=by
 induction bC with
 | nil=>intro aV r;cases r;exact ⟨[],rfl,rfl⟩
 | cons k bC b2=>
  intro aV r;cases r with
  | cons h t=>
   obtain ⟨xs,ax,aD⟩:=b2 t;obtain ⟨cY,rfl⟩:=(show ∃ t,_=mL k t from h);exact ⟨(k,cY) :: xs,by rw [dP,<- ax],by rw [dP,aD]⟩
section
variable {X:a6}
theorem acx (aq:X.calm=true):mw X (.builtin "max") (fun xs H Q=>∃ l bC m,xs=[.ref l]/\aH X.K H l (gb V.int bC)/\(m ∈ bC/\∀ k ∈ bC,k <= m)/\Q (.int m) H):=by
 intro ae s σ H xs us Q J r h;obtain ⟨l,bC,m,rfl,a4,hm,q⟩:=h;obtain ⟨u,rfl,dU⟩:=ks r;cases dU;obtain ⟨aV,b8,pl,ay⟩:=J.list a4;obtain ⟨xs,ax,aD⟩:=W6 b8;have pd:aV.toArray=intItems xs.toArray:=by rw [ax];unfold intItems;simp
 have aa8:s.heap.IsList l (intItems xs.toArray):=by rw [<- pd];exact pl.isList
 have oq:xs.length=bC.length:=by rw [<- aD,a8]
 have dW:0 < xs.toArray.size:=by
  rw [eR,oq];exact List.length_pos_of_mem hm.1
 refine max_intList (J.ok.hd aq) aa8 dW fun v h' cY aK aI=>⟨.int m,H,J.kept aI,?_,q⟩
 obtain ⟨gY,rfl⟩:=intItems_at aK;refine ⟨gY,?_⟩;have af:=argBest_gt (numAt xs.toArray) (xs.toArray.size - 1);generalize argBest (fun i j=>decide (numAt xs.toArray i > numAt xs.toArray j)) (xs.toArray.size - 1)=j at af ⊢;have a0:∀ i,i < bC.length->bC[i]? = some (numAt xs.toArray i):=fun i ak=>by
  rw [numAt_eq,iF];show bC[i]? = some (((xs.map (·.1))[i]?).getD 0);rw [aD,cv ak];rfl
 rw [eR] at af dW;have ag:=hm.2 _ (c6 (a0 j (by omega)));obtain ⟨i,ak⟩:=iX hm.1;have pd:i < bC.length:=(cW.mp ak).1;have ar:=af.2 i (by omega);have bc:m=numAt xs.toArray i:=dZ (ak.symm.trans (a0 i pd));rw [show numAt xs.toArray j=m by omega]
noncomputable def Cy (K:a'):V->List V->ah->cm->Prop:=fun x vs H Q=>∃ l bC k,x=.ref l/\vs=[.int k]/\aH K H l (gb V.int bC)/\k ∈ bC/\bC.length <= 1000/\Q (.int (bC.idxOf k:Nat)) H
theorem WJ:n5 X "list.index" (Cy X.K):=by
 intro ae s σ H x xs v us Q J bp b8 h;obtain ⟨l,bC,k,rfl,rfl,a4,aI,aB,q⟩:=h;cases (show v=fC l from bp);obtain ⟨u,rfl,dU⟩:=ks b8;obtain ⟨qT,rfl⟩:=(show ∃ t,u=mL k t from dU);obtain ⟨aV,Ii,pl,ay⟩:=J.list a4;have ak:=Xp Ii;have hlen:=ak.length;have bb:bC.idxOf k < bC.length:=P5.mpr aI;obtain ⟨⟨cls,eS,data,dv⟩,aX,aq,n,hd⟩:=id pl.isList;simp only at aq hd;subst aq hd;refine call_meets Y6 ⟨_,aX,rfl⟩ PySem.F.entry_list_index (PySem.F.args_list_index_2 _ _)
  (PySem.SeqAt.list_indexAt l aV.toArray n eS dv (.int k qT) (isInt k) (bC.idxOf k) (by simpa [hlen] using bb) (by omega) ?_ ?_) ⟨aX,fun y bj=>(eq_isInt k qT ak y (by simpa using bj)).at _ _,.int _,H,J.tok _,⟨_,rfl⟩,q⟩
 .show isInt k aV[bC.idxOf k]=true;rw [isInt_at k ak _ (by omega) bb];simpa using List.getElem_idxOf bb
 .intro j Zg cL;show isInt k aV[j]=false;rw [isInt_at k ak j (by simpa using Zg) (by omega)];exact ne_of_lt_idxOf cL _
end
noncomputable def V2 (p d:Addr):Heap->Prop:=fun h=>PySem.W.KdlKeysView h p d
section
variable {X:a6}
noncomputable def nk:V->List V->ah->cm->Prop:=fun x vs H Q=>∃ d kvs,x=.ref d/\vs=[]/\H d=some (.bV kvs)/\∀ p,H p=none->Q (.ref p) (upd H p (.ext (V2 p d)))
end
noncomputable abbrev mq:=St->ah->Str->(Str->ah->Prop)->Prop
noncomputable def n6 (X:a6) (aL:List Expr) (t:mq):Prop:=
 ∀ (ae:List (Addr × Obj)) (s:Shared) (σ:St) (H:ah) (Q:Str->ah->Prop) (acc:Str) (R:Str->Shared->Prop),Inv X ae σ H s->t σ H acc Q ->
  (∀ out I aO,Inv X ae σ I aO->out.length <= sizeLine->Q out I->R out aO)->Joins (model X.prog X.w) X.A X.dj (evalEach aL X.env) acc R s
noncomputable def D':mq:=fun _ H acc Q=>acc.length <= sizeLine/\Q acc H
noncomputable def HH (c:Str) (t:mq):mq:=fun σ H acc Q=>acc.length + c.length <= sizeLine/\t σ H (acc ++ c) Q
noncomputable def Dv (bJ:TE) (t:mq):mq:=fun σ H acc Q=>bJ σ H fun v H1=>∃ i,v=.int i/\i.natAbs.log2 < 1920/\acc.length + (aa (toString i)).length <= sizeLine/\t σ H1 (acc ++ aa (toString i)) Q
noncomputable def Fu (bJ:TE) (t:mq):mq:=fun σ H acc Q=>bJ σ H fun v H1=>∃ x,v=.str x/\x.length <= 1000/\acc.length + x.length <= sizeLine/\t σ H1 (acc ++ x) Q
noncomputable def FR (t:mq):TE:=fun σ H Q=>t σ H lp fun y H1=>Q (.str y) H1
section
variable {X:a6} {e:Expr} {aL:List Expr} {t:mq} {bJ:TE} {pos:Pos}
theorem OF:n6 X [] D':=fun ae s σ H Q acc R J q h=>h acc H s J q.1 q.2
theorem TD {k:Nat} (h:n6 X aL t):n6 X (.Constant (.str c) k pos :: aL) (HH c t):=fun ae s σ H Q acc R J q gG=>by
 show wpAny _ _ _ _ _ _;exact afZ ⟨c,_,rfl,by rw [strLen_append];exact q.1,h ae _ σ H Q _ R (J.tok _) q.2 gG⟩
theorem Nu (he:bD X e bJ) (h:n6 X aL t):n6 X (.FormattedValue e (-1) none pos :: aL) (Dv bJ t):=fun ae s σ H Q acc R J q gG=>by
 show wpAny _ _ _ _ _ _;refine wpAny_FormattedValue_plain (bM (he ae s σ H _ J q) fun u s1 ct=>?_);obtain ⟨v,H1,aY,r,i,ev,ak,ay,bQ⟩:=ct;subst ev;obtain ⟨cY,rfl⟩:=(show ∃ cY,u=mL i cY from r);exact wpAny_formatField_int ak ⟨_,_,rfl,by rw [strLen_append];exact ay,h ae _ σ H1 Q _ R (aY.tok _) bQ gG⟩
theorem Px (he:bD X e bJ) (h:n6 X aL t):n6 X (.FormattedValue e (-1) none pos :: aL) (Fu bJ t):=fun ae s σ H Q acc R J q gG=>by
 show wpAny _ _ _ _ _ _;refine wpAny_FormattedValue_plain (bM (he ae s σ H _ J q) fun u s1 ct=>?_);obtain ⟨v,H1,aY,r,x,ev,ao,ay,bQ⟩:=ct;subst ev;obtain ⟨cY,rfl⟩:=(show ∃ cY,u=tK x cY from r);exact formatField_str (fun t' agN=>⟨x,_,rfl,by rw [strLen_append];exact ay,h ae _ σ H1 Q _ R (aY.tok _) bQ gG⟩) (by rw [sizeLine_eq];omega)
theorem O' (h:n6 X (e :: aD :: aL) t):bD X (.JoinedStr (e :: aD :: aL) pos) (FR t):=by
 intro ae s σ H Q J q;refine wpAny_JoinedStr (h ae s σ H _ _ _ J q fun out I aO jO aB ef=>⟨aB,?_⟩);exact ⟨.str out,I,jO.tok _,⟨_,rfl⟩,ef⟩
end
section
variable {X:a6}
end
structure ag7 (X:a6) (c Cb:Addr):Prop where
 code:X.env.code=.ref c
 hd:PySem.W.CodeHd X.base c Cb
 bm:X.base.BuiltinsAt X.ai Cb
section
variable {X:a6} {ae:List (Addr × Obj)} {σ:St} {H:ah} {s:Shared} {params:Arguments} {body:Expr} {scope:Scope} {pos:Pos} {c Cb:Addr} {ahY:List (Str × Addr)} {Q:Value->Shared->Prop}
end
section
variable {P:Program} {w:World} {K:a'} {ai:Str->Option Value} {base:Heap}
end
structure aiH (p y:Str) (sc:Scope):Prop where
 kind:sc.kind=.function
 co:sc.isCoroutine=false
 gen:sc.isGenerator=false
 ne:p ≠ y
 par:sc.names.lookup p=some .local
 Tu:sc.names.lookup y=some .free
 yP:∀ z ∈ sc.names,z.2 ≠ .cell
 one:∀ z ∈ sc.names,z.2=.free->z.1=y
section
variable {X:a6} {ae:List (Addr × Obj)} {σ:St} {H:ah} {s:Shared} {k:Nat} {f ho cl:Addr} {q p y:Str} {params:Arguments} {body:Expr} {scope:Scope} {v:V} {t:TE}
end
section
variable {P:Program} {w:World} {A:Around} {E:Value->Shared->Prop} {s:Shared}
structure r1 (h:Heap) (d:Addr) (o:Obj) (aL:Array DictEntry) (cC:Nat):Prop where
 at_:h.get? d=some o
 ex:o.ExactDict
 dat:o.data=.dict aL cC
theorem xL (r:r1 s.heap d o aL cC):s.TypeIs (.ref d) "dict" := ⟨o,r.at_,r.ex.1⟩
theorem ac7 (hd:(d == sysModules)=false) (r:r1 s.heap d o aL cC)
  (aN:Q (.ref s.heap.objs.size) { s with heap:=s.heap.push { cls:=.type "dict_keyiterator",data:=.fields #[.ref d,.int 0 0,.int aL.size 0,.int cC 0] } }) :
  wpAny (model P w) A (pyIter (.ref d)) Q E s:=by
 have iY:=xL r;refine wpAny_pyIter_slot iY Wb (wpAny_call_entry Wb iY F.entry_dict_iter ?_ (F.args_dict_iter_1 _));unfold Builtin.«dict.__iter__» agY;refine wpAny_bind (wpAny_bind (wpAny_notOrdered_dict iY (wpAny_pure ?_)));show wpAny _ _ (TM d >>= _) _ _ s;unfold TM;rw [if_neg (by rw [hd];exact gp)];refine wpAny_bind (wpAny_pure (wpAny_bind (wpAny_dictEntries r.at_ r.dat (wpAny_bind (wpAny_dictEpoch r.at_ r.dat ?_)))));refine wpAny_bind (wpAny_newObj_type (wpAny_pure ⟨_,rfl,"dict_keyiterator",_,⟨_,e6 _ rfl,rfl⟩,zp.lookup,?_⟩));simpa [rawInt] using aN
theorem aek {it d:Addr} {e:DictEntry} (hit:s.heap.IsKeyIter it d i aL.size cC) (r:r1 s.heap d o aL cC) (ao:aL[i]? = some e)
  (aN:∀ h',h'.IsKeyIter it d (i + 1) aL.size cC->sG it s.heap h'->Q (some e.key) { s with heap:=h' }):wpAny (model P w) A (pyNext (.ref it)) Q E s:=by
 obtain ⟨ab1,aX,aq,hd⟩:=id hit;have Ij:acT "dict_keyiterator"=false:=by decide
 have cL:i < aL.size:=by
  rcases Nat.lt_or_ge i aL.size with h | h
  .exact h
  .rw [aeZ h] at ao;cases ao
 unfold pyNext;refine wpAny_bind (wpAny_attempt (wpAny_callSpecial?_slot (name:=aa "__next__") hit.typeIs zp
  (wpAny_call_entry zp hit.typeIs aa9 ?_ (WN _))))
 refine wpAny_bind (wpAny_pure (wpAny_bind (wpAny_bind ?_)))
 first | refine wpAny_bind (wpAny_typeNameOfWhole_keyiter hit.typeIs (wpAny_pure ?_)) | refine wpAny_bind (wpAny_typeNameOf_keyiter hit.typeIs (wpAny_pure ?_))
 refine wpAny_bind (wpAny_fieldsOf aX hd ?_);simp only [Ij,vj,if_false];show wpAny _ _ (if (fC d == pB)=true then _ else _) _ _ s;rw [if_neg (show ¬ ((fC d == pB)=true) from gp)];refine wpAny_bind (wpAny_pure (wpAny_bind (wpAny_dictEntries r.at_ r.dat ?_)));rw [if_neg (by simp)];refine wpAny_bind (wpAny_pure (wpAny_bind (wpAny_dictEpoch r.at_ r.dat ?_)));rw [if_neg (by simp)];refine wpAny_pure ?_;simp only [show ¬ ((i:Int) < 0) from by omega,if_false,qg,ao];refine wpAny_bind ?_
 first | refine wpAny_bind (wpAny_typeNameOfWhole_keyiter hit.typeIs (wpAny_pure ?_)) | refine wpAny_bind (wpAny_typeNameOf_keyiter hit.typeIs (wpAny_pure ?_))
 refine wpAny_bind (wpAny_isOneOf_keyiter hit.typeIs ?_);show wpAny _ _ (setField (.ref it) 1 (rawInt ((i:Int) + 1)) >>= _) _ _ s;refine wpAny_bind (wpAny_setField aX hd (by simp) ?_);have Qp:(s.heap.update it (Ta (·.setIfInBounds 1 (rawInt ((i:Int) + 1))))).IsKeyIter it d (i + 1) aL.size cC:=
  ⟨_,Bw _ aX (Obj.isFreed_of_fields (aac hd _)),(Obj.cls_mapFields ..).trans aq,by rw [aac hd];simp [rawInt]⟩
 refine wpAny_bind (wpAny_holding (wpAny_bind (wpAny_isOneOf_keyiter (s:={ s with heap:=s.heap.update it (Ta (·.setIfInBounds 1 (rawInt ((i:Int) + 1)))) }) Qp.typeIs ?_)));show wpAny _ _ (pure e.key) _ _ _;exact wpAny_pure (wpAny_pure ⟨_,rfl,wpAny_pure (aN _ Qp (X_ ..))⟩)
theorem U7 {it d:Addr} (e':A.handled=none) (hit:s.heap.IsKeyIter it d i aL.size cC) (r:r1 s.heap d o aL cC) (ao:aL.size <= i)
  (aN:∀ h',Heap.ExtBut it s.heap h'->Q none { s with heap:=h' }):wpAny (model P w) A (pyNext (.ref it)) Q E s:=by
 obtain ⟨ab1,aX,aq,hd⟩:=id hit;have Ij:acT "dict_keyiterator"=false:=by decide
 unfold pyNext;refine wpAny_bind (wpAny_attempt (wpAny_callSpecial?_slot (name:=aa "__next__") hit.typeIs zp
  (wpAny_call_entry zp hit.typeIs aa9 ?_ (WN _))))
 refine wpAny_bind (wpAny_pure (wpAny_bind (wpAny_bind ?_)))
 first | refine wpAny_bind (wpAny_typeNameOfWhole_keyiter hit.typeIs (wpAny_pure ?_)) | refine wpAny_bind (wpAny_typeNameOf_keyiter hit.typeIs (wpAny_pure ?_))
 refine wpAny_bind (wpAny_fieldsOf aX hd ?_);simp only [Ij,vj,if_false];show wpAny _ _ (if (fC d == pB)=true then _ else _) _ _ s;rw [if_neg (show ¬ ((fC d == pB)=true) from gp)];refine wpAny_bind (wpAny_pure (wpAny_bind (wpAny_dictEntries r.at_ r.dat ?_)));rw [if_neg (by simp)];refine wpAny_bind (wpAny_pure (wpAny_bind (wpAny_dictEpoch r.at_ r.dat ?_)));rw [if_neg (by simp)];refine wpAny_pure ?_;simp only [show ¬ ((i:Int) < 0) from by omega,if_false,qg,aeZ ao];refine wpAny_bind ?_
 first | refine wpAny_bind (wpAny_typeNameOfWhole_keyiter hit.typeIs (wpAny_pure ?_)) | refine wpAny_bind (wpAny_typeNameOf_keyiter hit.typeIs (wpAny_pure ?_))
 show wpAny _ _ (setField (.ref it) 0 .none >>= _) _ _ s;refine wpAny_bind (wpAny_setField aX hd (by simp) ?_);show wpAny _ _ (newExc (.type "StopIteration") [] >>= _) _ _ _;refine wpAny_bind ?_;simp only [newExc,newTuple];refine wpAny_bind (wpAny_newObj_type ?_ (by size_fits));refine wpAny_bind (m:=firstArgMember _ _) (wpAny_of_eq (a:=pB) (by first | rfl | (simp only [firstArgMember];rfl)) ?_);refine wpAny_newObj_type ?_ (by size_fits);simp only [raiseNew];refine wpAny_bind (wpAny_handled ?_);rw [show A.in1.handled=none from e'];refine wpAny_bind (wpAny_pure (wpAny_throw ?_));refine wpAny_bind (wpAny_isInstance (T := "StopIteration") (b:=true) ⟨_,e6 _ rfl,rfl⟩ isSubtype_stop ?_);exact wpAny_pure (aN _ (((X_ ..).extBut.push _).push _))
end
noncomputable def abH (a:Addr) (o:Obj):Heap->Prop:=fun h=>h.get? a=some o
structure agI (P:Program) (w:World) (H:ah) (a:Addr) (kvs:List (List Key × V)) (o:Obj) (aL:Array DictEntry) (cC:Nat) (xs:List (List Key × Addr × Value)):Prop where
 at_:H a=some (.ext (abH a o))
 ex:o.ExactDict
 dat:o.data=.dict aL cC
 ent:aL.toList=xs.map (entryOfKey (tupleKind (hy P w)))
 aA:(xs.map (·.1)).Nodup
 bC:Paired (fun (p:List Key × V) (q:List Key × Addr × Value)=>p.1=q.1/\H q.2.1=some (.tup (p.1.map dM))/\bx p.2 q.2.2) kvs xs
 tR:kvs.length <= sizeLine
 ns:(a == sysModules)=false
section
variable {P:Program} {w:World} {H I:ah} {h:Heap} {a:Addr} {kvs:List (List Key × V)}
end
section
variable {X:a6} {ae:List (Addr × Obj)} {σ:St} {H:ah} {s:Shared} {a b:Addr} {kvs:List (List Key × V)} {k:List Key} {v:V} {r:Value} {A:Around} {E:Value->Shared->Prop}
theorem afJ (J:Inv X ae σ H s) (iv:r_ (H a)) (ex:∃ u,s.heap.get? a=some u) (new:fo X.prog X.w (upd H a cK) s.heap a cK):Inv X ae σ (upd H a cK) s:=
 J.un (t':=s.toks) (h':=s.heap) (gh.write iv (.inl rfl) (fun _ _ _ q=>q) ex) (J.bz.write iv (.inl rfl) (fun _ _ _ q=>q) ex new)
end
section
variable {X:a6} {o i e value:Expr} {pos pos' rO:Pos} {hT ty gY:TE}
end
section
variable {X:a6} {cH:Expr}
end
noncomputable def lx (p d:Addr):Heap->Prop:=fun h=>h.IsItemsView p d
theorem lx.ok {w:World} {h:Heap} {p d:Addr} (z:lx p d h):fo P w H h p (.ext (lx p d)):=
 ⟨z,let ⟨o,aX,_⟩:=z;⟨o,aX⟩,fun _ _ eJ k=>let ⟨o,aX,x⟩:=eJ;⟨o,k o aX,x⟩⟩
structure agS (H I:ah) (l:Addr) (as:List Addr) (kvs:List (Key × V)):Prop where
 same:∀ b o,H b=some o->I b=some o
 fresh:H l=none
 aiG:∀ a ∈ as,H a=none
 at_:I l=some (.lst (as.map V.ref))
 len:as.length=kvs.length
 al:∀ (j:Nat) (a:Addr) (q:Key × V),as[j]? = some a->kvs[j]? = some q->I a=some (.tup [dM q.1,q.2])
 only:∀ b o,I b=some o->H b=some o\/o=.lst (as.map V.ref)\/∃ q ∈ kvs,o=.tup [dM q.1,q.2]
section
variable {X:a6}
noncomputable def CG:V->List V->ah->cm->Prop:=fun x vs H Q=>∃ d kvs,x=.ref d/\vs=[]/\H d=some (.bV kvs)/\∀ p,H p=none->Q (.ref p) (upd H p (.ext (lx p d)))
theorem Wc:n5 X "dict.items" CG:=by
 intro ae s σ H x xs v us Q J bp b8 h;obtain ⟨d,kvs,rfl,rfl,e,q⟩:=h;cases (show v=fC d from bp);cases b8;obtain ⟨z,hd,vs,rel,eS⟩:=z4 J.bz e;refine call_meetsIn Yc eS.typeIs PySem.F.entry_dict_items (PySem.F.args_dict_items_1 _) (meets_dict_items (hy X.prog X.w) d hd) ⟨⟨_,eS⟩,?_⟩;exact ⟨.ref _,_,J.laid (o:=.ext (lx _ d)) (t':=s.toks) (fun b u e=>er _ e) (bW _) (lx.ok ⟨_,e6 _ rfl,rfl,rfl⟩),rfl,q _ (J.bz.fresh (bW _))⟩
end
section
open AutoSeq1 (wpAny_loadPart')
open MeetsSeq MeetsSeq2 MeetsSeq3 SeqRoads2
variable {P:Program} {w:World} {l b:Addr} {xs ys:Array Value} {n m:Nat} {eS ahA:Option Addr} {dv bf:Array (Option Value)}
end
theorem Tt (aA:(kvs.map (·.1)).Nodup) {k:Key} (h:(k,v) ∈ kvs):c8 kvs k=some v:=by
 induction kvs with
 | nil=>cases h
 | cons c1 r b2=>
  rw [dP,s9] at aA;unfold c8;rw [pY];rcases cP.mp h with e | e
  .rw [<- e];simp
  .have dW:c1.1 ≠ k:=fun z=>aA.1 (by rw [z];exact dN.mpr ⟨(k,v),e,rfl⟩)
   rw [decide_eq_false dW];exact b2 aA.2 e
section
variable {X:a6} {ae:List (Addr × Obj)} {σ:St} {H:ah} {s:Shared}
structure zT (H:ah) (p:Addr) (ps:List Addr) (bC:List (List (Key × V))):Prop where
 at_:H p=some (.lst (ps.map V.ref))
 len:ps.length=bC.length
 al:∀ (j:Nat) (a:Addr) (kvs:List (Key × V)),ps[j]? = some a->bC[j]? = some kvs->H a=some (.bV kvs)
end
section
variable {X:a6}
end
section
variable {X:a6} {ae:List (Addr × Obj)} {σ:St} {H:ah} {s:Shared} {d:Addr} {o:Obj} {kvs:List (Key × V)}
theorem L6 (J:Inv X ae σ H s) (e:H d=some (.bV kvs)) (g:s.heap.get? d=some o):Inv X ae σ (upd H d (.eb o (.bV kvs))) s:=
 afJ J (by rw [e];exact q6) ⟨o,g⟩ ⟨g,J.bz d _ e⟩
theorem adD (J:Inv X ae σ H s) (e:H d=some (.eb o (.bV kvs))) (iS:∀ o u,X.pN d ≠ some (.eb o u)):Inv X ae σ (upd H d (.bV kvs)) s:=by
 have ne:∀ {b:Addr} {u:Option dY},H b=u->(∀ cK,u ≠ some (.eb cK (.bV kvs)))->b ≠ d:=fun {b u} q h z=>h o (by rw [<- q,z];exact e)
 refine ⟨J.ok,J.os,J.bare,⟨J.base.keep,J.base.slot,fun b cK q n ao=>?_,J.base.there,fun b xs q=>?_,fun b cK u q=>?_,fun b ps q=>?_⟩,J.loc,J.cell,?_,fun x c q=>?_,fun p aw=>?_,fun b u q=>?_,J.len⟩
 .have h:=J.base.free b cK q n ao;rw [aW (ne h (fun _ z=>by cases z))];exact h
 .have h:=J.base.l2 b xs q;rw [aW (ne h (fun _ z=>by cases z))];exact h
 .have h:=J.base.kN b cK u q;rw [aW (fun z=>iS cK u (by rw [<- z];exact q))];exact h
 .obtain ⟨m,h⟩:=J.base.l1 b ps q;exact ⟨m,by rw [aW (ne h (fun _ z=>by cases z))];exact h⟩
 .rw [aW (ne J.free (fun _ z=>by cases z))];exact J.free
 .rw [aW (ne (J.jU x c q) (fun _ z=>by cases z))];exact J.jU x c q
 .obtain ⟨ag,ar,bc⟩:=J.pin p aw;exact ⟨ag,by rw [aW (ne ar (fun _ z=>by cases z))];exact ar,bc⟩
 .by_cases af:b=d
  .subst af;rw [aR] at q;cases q;exact (J.bz b _ e).2
  .rw [aW af] at q;refine (J.bz b u q).ml (fun _ _ _ r=>r) (fun c r=>?_) (fun c xs r=>?_)
   .rw [aW (ne r (fun _ z=>by cases z))];exact r
   .rw [aW (ne r (fun _ z=>by cases z))];exact r
end
noncomputable def MF (d:Addr) (o:Obj) (kvs:List (Key × V)):hU:=
 ⟨fun i H=>H d=some (.eb o (.bV kvs))/\i < kvs.length,fun i H x I=>I=H/\∃ k v,kvs[i]? = some (k,v)/\x=dM k,fun i H=>H d=some (.eb o (.bV kvs))/\kvs.length <= i⟩
theorem Z9 {w:World} {K:a'} {d it:Addr} (ex:o.ExactDict) (aX:o.data=.dict aL cC)
  (aB:aL.size=kvs.length) (bC:∀ (i:Nat) (e:DictEntry),aL[i]? = some e->∃ k v,kvs[i]? = some (k,v)/\bx (dM k) e.key):lW P w K cH (MF d o kvs) [it] it (fun i h=>h.IsKeyIter it d i aL.size cC) where
 mem:=by simp
 obj:=fun i h st b af=>by
  have e:b=it:=by simpa using af
  subst e;obtain ⟨o,e,c,d⟩:=st;exact ⟨o,e,fun v z=>by rw [d] at z;cases z⟩
 keep:=fun i h h' st k=>st.at fun o e=>k it (by simp) o e
 item:=by
  intro X di hw d9 aq i ae s σ H E J hf st a9;subst di hw d9;obtain ⟨a4,ao⟩:=a9;have r:r1 s.heap d o aL cC:=⟨(J.bz d _ a4).1,ex,aX⟩;obtain ⟨f0,f1,f2,e_,f4,eP⟩:=hf it (by simp);obtain ⟨q,Km⟩:∃ q,aL[i]? = some q:=⟨_,Array.getElem?_eq_getElem (show i < aL.size by omega)⟩;obtain ⟨k,v,q4,afe⟩:=bC i q Km;refine aek st r Km fun h' iC mu=>?_
  have aY:Inv X ae σ H { s with heap:=h' }:=J.turned (t':=s.toks) (fun b o af e=>(mu.2 b af).trans e) f0 f1 e_ f4 eP;obtain ⟨oj,e,c,eS⟩:=id iC;exact ⟨_,rfl,qM (s:={ s with heap:=h' }) e c eS (by decide) ⟨dM k,H,aY,afe,⟨rfl,k,v,q4,rfl⟩,iC,fun b af=>(hf b af).1⟩⟩
 done:=by
  intro X di hw d9 aq i ae s σ H E J hf st a9;subst di hw d9;obtain ⟨a4,ao⟩:=a9;have r:r1 s.heap d o aL cC:=⟨(J.bz d _ a4).1,ex,aX⟩;obtain ⟨f0,f1,f2,e_,f4,eP⟩:=hf it (by simp);exact U7 (J.ok.hd aq) st r (by omega) fun h' e8=>⟨rfl,J.turned (t':=s.toks) (fun b o af e=>e8 b o af e) f0 f1 e_ f4 eP⟩
 self:=fun _ _ _ _ _ st h=>wpAny_pyIter_keyiter st h
theorem KX {w:World} {k:Key} (h:(hy P w).is k v=true):bx (dM k) v:=by
 rcases lU (k:=k) (v:=v) h with ⟨i,t,rfl,rfl⟩ | ⟨x,t,rfl,rfl⟩
 .exact ⟨t,rfl⟩
 .exact ⟨t,rfl⟩
theorem M4 {w:World}:∀ {aL:List DictEntry} {vs:List (Key × Value)} {kvs:List (Key × V)},Pairs (hy P w) aL vs->fx kvs vs->aL.length=kvs.length/\∀ (i:Nat) (e:DictEntry),aL[i]? = some e->∃ k v,kvs[i]? = some (k,v)/\bx (dM k) e.key
 | _,_,_,.nil,r=>by
  unfold fx at r;cases r;exact ⟨rfl,fun i e h=>by simp at h⟩
 | _,_,_,.cons aI _ t,r=>by
  unfold fx at r;cases r with
  | @cons p q ps qs h fu=>
   obtain ⟨l,al⟩:=M4 t (kvs:=ps) fu;refine ⟨by rw [fp,fp,l],fun i e he=>?_⟩;cases i with
   | zero=>
    cases he;refine ⟨p.1,p.2,rfl,KX (P:=P) (w:=w) ?_⟩;rw [h.1];exact aI
   | succ i=>exact al i e he
section
variable {X:a6} {cH:Expr}
noncomputable def Hp (c9:TE):TI:=fun σ H R=>c9 σ H fun x H1=>∃ d kvs,x=.ref d/\H1 d=some (.bV kvs)/\∀ o,R (MF d o kvs) (upd H1 d (.eb o (.bV kvs)))
theorem Xj (aB:bD X l c9):k4 X cH l (Hp c9):=by
 intro ae s σ H R J h;refine bM (aB ae s σ H _ J h) fun v s1 b7=>d2 b7 fun x H1 aY bO bQ=>?_
 obtain ⟨d,kvs,e,qE,q⟩:=bQ;subst e;cases bO;obtain ⟨_,hd,vs,rel,o,aL,cC,g,ex,dat,_,pr,_⟩:=z4 aY.bz qE;obtain ⟨aB,bC⟩:=M4 pr rel;have bX:=L6 aY qE g;refine ac7 hd ⟨g,ex,dat⟩ ?_;refine ⟨s1.heap.objs.size,[s1.heap.objs.size],_,_,_,rfl,bX.kept (t':=s1.toks) fun b o e=>er _ e,Z9 ex dat (by rw [<- aB];exact oI.symm) (fun i e h=>bC i e (by rw [<- Me] at h;exact h)),⟨_,e6 _ rfl,rfl,rfl⟩,fun b af=>?_,q o⟩;have e:b=s1.heap.objs.size:=by simpa using af
 subst e;exact bX.kD (bW _) (bX.bz.fresh (bW _))
noncomputable def GU (t:TE):TE:=fun σ H Q=>∃ d kvs,H d=some (.bV kvs)/\t σ H fun v I=>∃ o,I d=some (.eb o (.bV kvs))/\Q v (upd I d (.bV kvs))
theorem abN {e:Expr} {t:TE} (h:bD X e t):bD X e (GU t):=by
 intro ae s σ H Q J q;obtain ⟨d,kvs,qE,q⟩:=q;refine bM (h ae s σ H _ J q) fun v s1 ⟨x,H1,aY,bO,o,ax,bQ⟩=>⟨x,_,adD aY ax (fun cK u z=>?_),bO,bQ⟩
 have:=J.base.kN d cK u z;rw [qE] at this;cases this
noncomputable def Ck:V->List V->ah->cm->Prop:=fun x vs H Q=>∃ z i,x=.str z/\vs=[.int i]/\PadOk i=true/\Q (.str (nd z i)) H
theorem OB:n5 X "str.ljust" Ck:=by
 intro ae s σ H x xs v us Q J bp b8 h;obtain ⟨z,i,rfl,rfl,aw,q⟩:=h;obtain ⟨t,rfl⟩:=bp;obtain ⟨u,rfl,t',rfl⟩:=ks b8;exact PySem.SC.ljust aw fun t' k=>⟨.str _,H,J.tok _,⟨_,rfl⟩,q⟩
end
theorem Mq {w:World} {K:a'} (x:K.lookup a=some ⟨.type "dict",none,.dict aL n,#[]⟩) (y:Dt w.params aL.toList)
  (z:∀ x v,(x,v) ∈ kvs->∃ iR,zk K a x=some (some iR)/\bx v iR):rq w K (.ref a) kvs:=⟨a,aL,n,rfl,x,y,z⟩
theorem Kf {K:a'} {x:Str} (h:zk K a x=some (some u)) (r:bx v u):∃ iR,zk K a x=some (some iR)/\bx v iR:=⟨u,h,r⟩
structure ahU (X:a6) (ae:List (Addr × Obj)) (H:ah) (S:Addr):Prop where
 nn:H S=none
 nl:S ≠ X.env.locals
 ge:X.eX.heap.objs.size <= S
 aip:∀ x c,X.env.cells.lookup x=some c->c ≠ S
 np:∀ p ∈ X.d3 ++ ae,p.1 ≠ S
 iS:S ∉ X.a_
section
variable {X:a6} {A:Around} {ae:List (Addr × Obj)} {σ:St} {H:ah} {l q J S:Addr} {n:Nat} {P:Nat->Value->Prop} {R:Result->Shared->Prop}
end
structure ag6 (p y z:Str) (sc:Scope):Prop where
 kind:sc.kind=.function
 co:sc.isCoroutine=false
 gen:sc.isGenerator=false
 ne:y ≠ z
 par:sc.names.lookup p=some .local
 Tu:sc.names.lookup y=some .free
 Qn:sc.names.lookup z=some .free
 yP:∀ z ∈ sc.names,z.2 ≠ .cell
 two:∀ b ∈ sc.names,b.2=.free->b.1=y\/b.1=z
section
variable {X:a6} {A:Around} {ae:List (Addr × Obj)} {σ:St} {H:ah} {s:Shared} {k:Nat} {f ho fg pQ:Addr} {q p y z:Str} {params:Arguments} {body:Expr} {scope:Scope} {v1 v2:V} {t:TE}
end
theorem c3 (t u:en) (D:gu) (σ:St) (H:ah):EQ t u D σ H=(t { D with cF:=u D } σ H):=rfl
theorem PJ (K:a'):OG K aZ gY f D σ H=(gY σ H fun y H1=>aZ σ H1 fun x az=>ed x fun a=>∃ C av a_,az a=some (.ins C av a_)/\eg K C/\bB K C f/\a_.length < 1000 /\
 D.cF σ (upd az a (.ins C av (dk f y a_)))):=rfl
theorem Lh (K:a') (dy:V->V->ah->cm->Prop):Mf K aZ gY dy f D σ H=(aZ σ H fun x H1=>∃ a C av a_ v,x=.ref a/\H1 a=some (.ins C av a_)/\eg K C/\bB K C f/\a_.lookup f=some v /\
 gY σ H1 fun y az=>dy v y az fun z cj=>∃ fm l7,cj a=some (.ins C fm l7)/\l7.length < 1000/\D.cF σ (upd cj a (.ins C fm (dk f z l7)))):=rfl
theorem KO (t:eI):Hq C m sp dvs E aZ t σ H Q=(aZ σ H fun x H1=>ed x fun a=>∃ av a_,H1 a=some (.ins C av a_)/\a_.lookup m=none /\
 t σ H1 fun vs az=>sp (x :: (vs ++ dvs)) az Q E):=rfl
theorem MD (t:eI):XL C sp dvs E t σ H Q=(t σ H fun vs H1=>∀ x av,H1 x=none->H1 av=none->av ≠ x ->
 sp (.ref x :: (vs ++ dvs)) (upd (upd H1 av (.own x)) x (.ins C av [])) (fun v az=>v=.b4/\Q (.ref x) az) E):=rfl
theorem JB (K:a') (x:V) (lo:Option Int) (ak:Option Int) (H:ah) (Q:cm):NX K x lo ak H Q=(∃ a xs,x=.ref a/\cU K H a xs /\
 ¬ (fa.cA xs.length 0 lo=0/\fa.cA xs.length xs.length ak=xs.length)/\∀ p,H p=none->Q (.ref p) (upd H p (.tup (kK xs lo ak)))):=rfl
theorem QJ (t:eI):J5 k' m lM E aZ t σ H Q=(aZ σ H fun x H1=>∃ a C av a_,x=.ref a/\H1 a=some (.ins C av a_)/\k' C/\a_.lookup m=none /\
 t σ H1 fun vs az=>lM C (x :: vs) az Q E):=rfl
noncomputable def ec (cE:hU) (g:fS) (cB:en) (D:gu) (σ:St) (H:ah):Prop:=∃ W:Nat->Nat->St->ah->Prop,(∃ m,W 0 m σ H)/\∀ i m σ H,W i m σ H ->
 (cE.stop i H/\D.cF σ H)\/(cE.go i H/\∃ N:St->ah->Prop,(∀ aQ I,N aQ I->∃ dF,dF < m/\W (i + 1) dF aQ I)/\∀ x I,cE.oy i H x I->g x σ I fun c5 az=>cB { D with cF:=N,e1:=N,bw:=D.cF } c5 az)
theorem NF:Pq hr g cB D σ H=hr σ H fun cE H1=>ec cE g cB D σ H1:=rfl
noncomputable def cZ (cE:hU) (g:fS) (c2:TT) (bJ:TE) (de:St) (Q:cm) (H:ah):Prop:=∃ W:Nat->Nat->List V->ah->Prop,(∃ m,W 0 m [] H)/\pF cE g c2 bJ de Q W
theorem O3:HB hr g c2 bJ sel σ H Q=hr σ H fun cE H1=>cZ cE g c2 bJ (kU sel σ) Q H1:=rfl
theorem Mc:Le aZ σ H R=(aZ σ H fun vs H1=>kI vs fun x=>fb x fun j=>-4611686018427387904 <= j/\j < 4611686018427387904/\R (lA 0 j.toNat) H1):=rfl
theorem af2 (f:α->β):[].map f=[]:=rfl
theorem UJ (f:α->β) (a:α) (l:List α):(a :: l).map f=f a :: l.map f:=rfl
theorem Sn (l:List α):[] ++ l=l:=rfl
theorem abI (a:α) (l r:List α):(a :: l) ++ r=a :: (l ++ r):=rfl
theorem Q0 (a b:α) (l:List α):(a :: l).set 0 b=b :: l:=rfl
theorem aby (a b:α) (l:List α) (n:Nat):(a :: l).set (n + 1) b=a :: l.set n b:=rfl
theorem XT (a:α) (l:List α):(a :: l)[0]? = some a:=rfl
theorem X8 (a:α) (l:List α) (n:Nat):(a :: l)[n + 1]? = l[n]?:=rfl
theorem Sd:([]:List α).length=0:=rfl
theorem acK (a:α) (l:List α):(a :: l).length=l.length + 1:=rfl
theorem Xa (f:α->Option β):(none:Option α).bind f=none:=rfl
theorem abO (f:α->Option β) (a:α):(some a).bind f=f a:=rfl
theorem Tz (a:Option α):(some a).join=a:=rfl
theorem V4:(none:Option (Option α)).join=none:=rfl
theorem Pg (sel:List (Option Nat)) (σ:St):kU sel σ=sel.map fun o=>o.bind fun j=>(σ[j]?).join:=rfl
theorem cG {t u:en} (b:Bool) (aq:∀ Q:Bool->ah->Prop,Q b H->c σ H Q) (ag:b=true->t D σ H) (ar:b=false->u D σ H):II c t u D σ H:=by
 refine aq _ ?_;cases b with
 | true=>exact ag rfl
 | false=>exact ar rfl
theorem jA {t u:en} (R:Bool->ah->Prop) (aq:∀ Q:Bool->ah->Prop,(∀ b I,R b I->Q b I)->c σ H Q) (ag:∀ I,R true I->t D σ I) (ar:∀ I,R false I->u D σ I):II c t u D σ H:=by
 refine aq _ fun b I r=>?_
 cases b with
 | true=>exact ag I r
 | false=>exact ar I r
theorem rc {t:en} {D:gu} {σ:St} {H:ah} (R:St->ah->Prop) (h:∀ dq:gu,(∀ σ H,R σ H->dq.cF σ H)->dq.kW=D.kW->dq.bw=D.bw->dq.e1=D.e1->t dq σ H) (gG:∀ σ H,R σ H->D.cF σ H):t D σ H:=h D gG rfl rfl rfl
theorem Uu {t:en} {D:gu} {σ:St} {H:ah} (R:St->ah->Prop) (h:∀ dq:gu,(∀ σ H,R σ H->dq.cF σ H)->t dq σ H) (gG:∀ M,M=D.cF->∀ σ H,R σ H->M σ H):t D σ H:=h D (gG _ rfl)
theorem I4 {p:Prop} (h:∀ q,q=p->q):p:=h p rfl
theorem Gw {t:en} {D:gu} {σ:St} {H:ah} (R:St->ah->Prop) (h:∀ dq:gu,(∀ σ H,R σ H->dq.cF σ H)->t dq σ H) (gG:∀ σ H,R σ H->D.cF σ H):t D σ H:=h D gG
theorem fW {t u:en} {D:gu} {σ:St} {H:ah} (R:St->ah->Prop) (h:∀ dq:gu,(∀ σ H,R σ H->dq.cF σ H)->t dq σ H) (gG:∀ M,M=u D->∀ σ H,R σ H->M σ H):EQ t u D σ H:=h { D with cF:=u D } (gG _ rfl)
theorem JZ (v:V) (aq:∀ Q:cm,Q v H->bJ σ H Q) (h:D.kW v H):BD bJ D σ H:=aq _ h
theorem Ix (x y:Str):(x ++ y).length=x.length + y.length:=by
 show (x.cps ++ y.cps).size=_;rw [Array.size_append];rfl
theorem ec.range {lo:Int} {n:Nat} {g:fS} {cB:en} {D:gu} {σ:St} {H:ah} (Pv:Nat->St->ah->Prop) (h0:Pv 0 σ H)
  (aC:∀ i σ H,i < n->Pv i σ H->g (.int (lo + i)) σ H fun c5 az=>cB { D with cF:=Pv (i + 1),e1:=Pv (i + 1),bw:=D.cF } c5 az) (hd:∀ σ H,Pv n σ H->D.cF σ H):ec (lA lo n) g cB D σ H:=aeU Pv h0 aC hd
theorem ec.list {K:a'} (Pv:Nat->St->ah->Prop) (h0:Pv 0 σ H) (aB:∀ i σ H,i <= xs.length->Pv i σ H->aH K H a xs)
  (aC:∀ i x σ H,xs[i]? = some x->Pv i σ H->g x σ H fun c5 az=>cB { D with cF:=Pv (i + 1),e1:=Pv (i + 1),bw:=D.cF } c5 az) (hd:∀ σ H,Pv xs.length σ H->D.cF σ H):ec (mE K a) g cB D σ H:=aeC Pv h0 aB aC hd
theorem cZ.list {K:a'} (Pv:Nat->List V->ah->Prop) (ay:xs.length <= sizeLine) (h0:Pv 0 [] H) (aB:∀ i ys H,i <= xs.length->Pv i ys H->aH K H a xs/\ys.length <= i)
  (aC:∀ i x ys H,xs[i]? = some x->Pv i ys H->nH Pv g c2 bJ de i x ys H) (hd:∀ ys H,Pv xs.length ys H->∀ p,H p=none->Q (.ref p) (upd H p (.lst ys))):cZ (mE K a) g c2 bJ de Q H:=abP Pv ay h0 aB aC hd
theorem cZ.aV (Pv:Nat->List V->ah->Prop) (ay:xs.length <= sizeLine) (h0:Pv 0 [] H) (aB:∀ i ys H,i <= xs.length->Pv i ys H->ys.length <= i)
  (aC:∀ i x ys H,xs[i]? = some x->Pv i ys H->nH Pv g c2 bJ de i x ys H) (hd:∀ ys H,Pv xs.length ys H->∀ p,H p=none->Q (.ref p) (upd H p (.lst ys))):cZ (wy xs) g c2 bJ de Q H:=RF Pv ay h0 aB aC hd
theorem cZ.range {lo:Int} {n:Nat} {g:fS} {c2:TT} {bJ:TE} {de:St} {Q:cm} {H:ah} (Pv:Nat->List V->ah->Prop) (ay:n <= sizeLine) (h0:Pv 0 [] H) (aB:∀ i ys H,i <= n->Pv i ys H->ys.length <= i)
  (aC:∀ i ys H,i < n->Pv i ys H->nH Pv g c2 bJ de i (.int (lo + i)) ys H) (hd:∀ ys H,Pv n ys H->∀ p,H p=none->Q (.ref p) (upd H p (.lst ys))):cZ (lA lo n) g c2 bJ de Q H:=VX Pv ay h0 aB aC hd
theorem Ua {α β:Type} {xs:List α} {i:Nat} {x:α} (f:α->β) (h:xs[i]? = some x):(xs.take (i + 1)).map f=(xs.take i).map f ++ [f x]:=by
 rw [q5,h,eQ];rfl
theorem cZ.ace {xs:List V} {g:fS} {bJ:TE} {de:St} {Q:cm} {H:ah} (f:V->V) (ay:xs.length <= sizeLine) (aC:∀ (i:Nat) (x:V) (N:V->ah->Prop),xs[i]? = some x->N (f x) H->g x de H fun c5 az=>Sub de c5/\bJ c5 az N)
  (hd:∀ p,H p=none->Q (.ref p) (upd H p (.lst (xs.map f)))):cZ (wy xs) g oA bJ de Q H:=by
 refine cZ.aV (fun i ys I=>I=H/\ys=(xs.take i).map f) ay ⟨rfl,rfl⟩ (fun i ys I ak ⟨_,e⟩=>?_) (fun i x ys I ao ⟨ax,aD⟩ N bl=>?_) (fun ys I ⟨ax,aD⟩ p aw=>?_)
 .rw [e,a8,fq];omega
 .subst ax;exact aC i x (fun y dC=>N (ys ++ [y]) dC) ao (bl _ _ ⟨rfl,by rw [aD,Ua f ao]⟩)
 .subst ax;rw [aD,o3];exact hd p aw
theorem cZ.uQ {lo:Int} {n:Nat} {g:fS} {bJ:TE} {de:St} {Q:cm} {H:ah} (f:Nat->V) (ay:n <= sizeLine) (aC:∀ (i:Nat) (N:V->ah->Prop),i < n->N (f i) H->g (.int (lo + i)) de H fun c5 az=>Sub de c5/\bJ c5 az N)
  (hd:∀ p,H p=none->Q (.ref p) (upd H p (.lst ((dG n).map f)))):cZ (lA lo n) g oA bJ de Q H:=by
 refine cZ.range (fun i ys I=>I=H/\ys=(dG i).map f) ay ⟨rfl,rfl⟩ (fun i ys I ak ⟨_,e⟩=>?_) (fun i ys I ak ⟨ax,aD⟩ N bl=>?_) (fun ys I ⟨ax,aD⟩ p aw=>?_)
 .rw [e,a8,jN];exact bW _
 .subst ax;exact aC i (fun y dC=>N (ys ++ [y]) dC) ak (bl _ _ ⟨rfl,by rw [aD,z',eQ];rfl⟩)
 .subst ax;rw [aD];exact hd p aw
theorem cZ.aeT {K:a'} (f:V->dY) (aB:aH K H a xs) (ay:xs.length <= sizeLine) (a0:∀ x,nC (f x)=true)
  (aC:∀ (i:Nat) (x:V) (H1:ah) (N:V->ah->Prop),xs[i]? = some x->aF H H1->(aM H->aM H1)->(∀ q,H1 q=none->N (.ref q) (upd H1 q (f x)))->g x de H1 fun c5 az=>Sub de c5/\bJ c5 az N)
  (hd:∀ (qs:List Addr) (H1:ah),aF H H1->(aM H->aM H1)->qs.length=xs.length->(∀ (j:Nat) (q:Addr) (x:V),qs[j]? = some q->xs[j]? = some x->H1 q=some (f x)/\H q=none)->∀ p,H1 p=none->Q (.ref p) (upd H1 p (.lst (qs.map V.ref)))):cZ (mE K a) g oA bJ de Q H:=by
 refine cZ.list (fun i ys I=>∃ qs:List Addr,ys=qs.map V.ref/\qs.length=i/\aF H I/\(aM H->aM I)/\∀ (j:Nat) (q:Addr) (x:V),qs[j]? = some q->xs[j]? = some x->I q=some (f x)/\H q=none) ay
  ⟨[],rfl,rfl,aF.refl H,id,fun j q x h _=>by simp at h⟩ ?_ ?_ ?_
 .rintro i ys I ak bh;refine I4 fun fD a7=>?_
  obtain ⟨qs,e,aD,bf,_,_⟩:=bh;subst a7;exact ⟨aB.same bf,by rw [e,a8];omega⟩
 .rintro i x ys I ao ⟨qs,ax,aD,bf,a5,al⟩ N bl;refine aC i x I (fun y dC=>N (ys ++ [y]) dC) ao bf a5 fun q a4=>bl _ _ ⟨qs ++ [q],by rw [ax,eQ];rfl,by rw [eV,aD];rfl,bf.gB (bf.free a4),fun n=>(a5 n).upd (a0 x),fun j ef YO ag ar=>?_⟩
  by_cases bb:j < qs.length
  .rw [uP bb] at ag;obtain ⟨eJ,e3⟩:=al j ef YO ag ar;exact ⟨by rw [aW (cV eJ a4)];exact eJ,e3⟩
  .rw [se (by omega)] at ag;have v9:j - qs.length=0:=by
    cases e':j - qs.length with
    | zero=>rfl
    | succ n=>rw [e'] at ag;simp at ag
   rw [v9] at ag;have cu:q=ef:=by simpa using ag
   subst cu;have gr:j=i:=by omega
   subst gr;rw [ao] at ar;cases ar;exact ⟨aR,bf.free a4⟩
 .rintro ys I ⟨qs,ax,aD,bf,a5,al⟩ p aw;subst ax;exact hd qs I bf a5 aD al p aw
theorem ec.of (Pv:Nat->St->ah->Prop) (h0:Pv 0 σ H) (s_:∀ i σ H,i < n->Pv i σ H->cE.go i H) (gk:∀ σ H,Pv n σ H->cE.stop n H)
  (aC:∀ i σ H x I,i < n->Pv i σ H->cE.oy i H x I->g x σ I fun c5 az=>cB { D with cF:=Pv (i + 1),e1:=Pv (i + 1),bw:=D.cF } c5 az) (hd:∀ σ H,Pv n σ H->D.cF σ H):ec cE g cB D σ H:=by
 refine ⟨fun i m σ H=>m=n - i/\i <= n/\Pv i σ H,⟨n,by simp,gi _,h0⟩,?_⟩;rintro i m σ H ⟨rfl,ak,p⟩;by_cases cL:i < n
 .exact .inr ⟨s_ i σ H cL p,Pv (i + 1),fun aQ I uf=>⟨n - (i + 1),by omega,rfl,cL,uf⟩,fun x I y=>aC i σ H x I cL p y⟩
 .have e:i=n:=by omega
  subst e;exact .inl ⟨gk σ H p,hd σ H p⟩
theorem cZ.of (Pv:Nat->List V->ah->Prop) (ay:n <= sizeLine) (h0:Pv 0 [] H) (s_:∀ i ys H,i < n->Pv i ys H->cE.go i H) (gk:∀ ys H,Pv n ys H->cE.stop n H) (aB:∀ i ys H,i < n->Pv i ys H->ys.length <= i)
  (aC:∀ i ys H x I,i < n->Pv i ys H->cE.oy i H x I->nH Pv g c2 bJ de i x ys I) (hd:∀ ys H,Pv n ys H->∀ p,H p=none->Q (.ref p) (upd H p (.lst ys))):cZ cE g c2 bJ de Q H:=by
 refine ⟨fun i m ys H=>m=n - i/\i <= n/\Pv i ys H,⟨n,by simp,gi _,h0⟩,?_⟩;rintro i m ys H ⟨rfl,ak,p⟩;by_cases cL:i < n
 .have Bj:=aB i ys H cL p;refine .inr ⟨s_ i ys H cL p,by omega,fun x I y=>?_⟩;exact aC i ys H x I cL p y (fun iG I=>∃ dF,dF < n - i/\dF=n - (i + 1)/\i + 1 <= n/\Pv (i + 1) iG I) fun iG I r=>⟨n - (i + 1),by omega,rfl,cL,r⟩
 .have e:i=n:=by omega
  subst e;exact .inl ⟨gk ys H p,hd ys H p⟩
section
variable {K:a'} {a b:Addr} {xs ys:List V} {g:fS} {cB:en} {D:gu} {σ de:St} {H:ah} {c2:TT} {bJ:TE} {Q:cm}
theorem ec.enum (Pv:Nat->St->ah->Prop) (h0:Pv 0 σ H) (aB:∀ i σ H,i <= xs.length->Pv i σ H->aH K H a xs)
  (aC:∀ i x σ H p,xs[i]? = some x->Pv i σ H->H p=none->g (.ref p) σ (upd H p (.tup [.int i,x])) fun c5 az=>cB { D with cF:=Pv (i + 1),e1:=Pv (i + 1),bw:=D.cF } c5 az) (hd:∀ σ H,Pv xs.length σ H->D.cF σ H):ec (Bt K a) g cB D σ H:=by
 refine ec.of (n:=xs.length) Pv h0 (fun i σ H ak p=>⟨xs,xs[i],aB i σ H (om ak) p,by simp [ak]⟩) (fun σ H p=>⟨xs,aB _ σ H (bW _) p,bW _⟩) (fun i σ H v I ak p y=>?_) hd;obtain ⟨q,x,a4,rfl,ao,rfl⟩:=y;exact aC i x σ H q (ao xs (aB i σ H (om ak) p)) p a4
theorem cZ.enum (Pv:Nat->List V->ah->Prop) (ay:xs.length <= sizeLine) (h0:Pv 0 [] H) (aB:∀ i ys H,i <= xs.length->Pv i ys H->aH K H a xs/\ys.length <= i)
  (aC:∀ i x ys H p,xs[i]? = some x->Pv i ys H->H p=none->nH Pv g c2 bJ de i (.ref p) ys (upd H p (.tup [.int i,x]))) (hd:∀ ys H,Pv xs.length ys H->∀ p,H p=none->Q (.ref p) (upd H p (.lst ys))):cZ (Bt K a) g c2 bJ de Q H:=by
 refine cZ.of (n:=xs.length) Pv ay h0 (fun i ys H ak p=>⟨xs,xs[i],(aB i ys H (om ak) p).1,by simp [ak]⟩) (fun ys H p=>⟨xs,(aB _ ys H (bW _) p).1,bW _⟩) (fun i ys H ak p=>(aB i ys H (om ak) p).2) (fun i zs H v I ak p y=>?_) hd;obtain ⟨q,x,a4,rfl,ao,rfl⟩:=y;exact aC i x zs H q (ao xs (aB i zs H (om ak) p).1) p a4
theorem Vg {p:Addr} {x y:V} (h:cU K H p [x,y]) (q:R ((σ.set i (some x)).set j (some y)) H):qZ K 2 (pb (i7 i) (pb (i7 j) w9)) (.ref p) σ H R:=
 ⟨p,_,rfl,h,rfl,x,_,rfl,y,_,rfl,rfl,q⟩
theorem gl {p:Addr} {x y:V} (q:R ((σ.set i (some x)).set j (some y)) (upd H p (.tup [x,y]))):qZ K 2 (pb (i7 i) (pb (i7 j) w9)) (.ref p) σ (upd H p (.tup [x,y])) R:=
 Vg (.inl (.inl aR)) q
end
theorem Sub.xD {v w:Option V}:Sub (none :: none :: r) (v :: w :: r):=by
 refine ⟨rfl,fun i u h=>?_⟩
 match i with
 | 0=>cases h
 | 1=>cases h
 | i + 2=>exact h
theorem Sub.NB {v w z:Option V}:Sub (none :: none :: none :: r) (v :: w :: z :: r):=by
 refine ⟨rfl,fun i u h=>?_⟩
 match i with
 | 0=>cases h
 | 1=>cases h
 | 2=>cases h
 | i + 3=>exact h
theorem cZ.r' {K:a'} (aB:aH K H a xs) (ay:xs.length <= sizeLine) (he:zs.length=xs.length)
  (aC:∀ (i:Nat) (x z:V) (N:V->ah->Prop),xs[i]? = some x->zs[i]? = some z->N z H->g x de H fun c5 az=>Sub de c5/\bJ c5 az N) (hd:∀ p,H p=none->Q (.ref p) (upd H p (.lst zs))):cZ (mE K a) g oA bJ de Q H:=by
 refine cZ.list (fun i ys I=>I=H/\ys=zs.take i) ay ⟨rfl,rfl⟩ (fun i ys I ak ⟨da,e⟩=>?_) (fun i x ys I ao ⟨ax,aD⟩ N bl=>?_) (fun ys I ⟨ax,aD⟩ p aw=>?_)
 .subst da;exact ⟨aB,by rw [e,fq];omega⟩
 .subst ax;have ak:i < zs.length:=by rw [he];exact (cW.mp ao).1
  have ia:zs[i]? = some zs[i]:=cv ak;exact aC i x zs[i] (fun y dC=>N (ys ++ [y]) dC) ao ia (bl _ _ ⟨rfl,by rw [aD,q5,ia];rfl⟩)
 .subst ax;rw [aD,<- he,o3];exact hd p aw
theorem cZ.acB {K:a'} (aB:cU K H a xs) (ay:xs.length <= sizeLine) (he:zs.length=xs.length)
  (aC:∀ (i:Nat) (x z:V) (N:V->ah->Prop),xs[i]? = some x->zs[i]? = some z->N z H->g x de H fun c5 az=>Sub de c5/\bJ c5 az N) (hd:∀ p,H p=none->Q (.ref p) (upd H p (.lst zs))):cZ (zG K a) g oA bJ de Q H:=by
 refine Nr (xs:=xs) (fun i ys I=>I=H/\ys=zs.take i) ay ⟨rfl,rfl⟩ (fun i ys I ak ⟨da,e⟩=>?_) (fun i x ys I ao ⟨ax,aD⟩ N bl=>?_) (fun ys I ⟨ax,aD⟩ p aw=>?_)
 .subst da;exact ⟨aB,by rw [e,fq];omega⟩
 .subst ax;have ak:i < zs.length:=by rw [he];exact (cW.mp ao).1
  have ia:zs[i]? = some zs[i]:=cv ak;exact aC i x zs[i] (fun y dC=>N (ys ++ [y]) dC) ao ia (bl _ _ ⟨rfl,by rw [aD,q5,ia];rfl⟩)
 .subst ax;rw [aD,<- he,o3];exact hd p aw
theorem Sub.name:Sub (none :: r) (v :: r):=by
 refine ⟨rfl,fun i w h=>?_⟩;cases i with
 | zero=>cases h
 | succ i=>exact h
theorem bI {x:Str} {e:Expr} (bl:X.N.Nodup) (he:bD X e bJ) (ak:X.N[i]? = some x:=by rfl) (ao:Loc X.env.scope x:=by exact l3 rfl) (aC:swapsWith e (some (.Name x pos')) pos.line X.env=pure false:=by rfl) (hf:X.fn x=true\/X.env.scope.names.lookup x=some .local:=by first | exact .inl rfl | exact .inr rfl | assumption):gS X (.Assign [.Name x pos'] e pos) (rL bJ (i7 i)):=rA bl ak ao he aC hf
theorem b1 {x:Str} (bl:X.N.Nodup) (ak:X.N[i]? = some x:=by rfl) (ao:Loc X.env.scope x:=by exact l3 rfl) (hf:X.fn x=true\/X.env.scope.names.lookup x=some .local:=by first | exact .inl rfl | exact .inr rfl | assumption):ll X (.Name x pos) (i7 i):=Ms bl ak ao hf
theorem cx (aj:tp X r) (aS:bD X a aZ) (af:bD X b cB) (aC:LV b:=by exact fun _ _=>rfl):bD X (.Subscript a b pos) (pw r aZ cB):=Yp aj aS af aC
theorem bq {k:Nat} {fd:FuncData} {x:Str} {p pos:Pos} {e:Expr} {t:eI} (F:cg X.prog X.w X.K X.ai X.base c7 k f fd ps sp) (aj:eM k X.A) (hm:X.ai x=some (.ref f)) (aI:qG X.K (.ref f)=true) (af:ac X.K fd ps []) (aS:ck X (e :: aL) t) (a9:ip X x:=by rfl) (f5:(x == ("__debug__" : Str))=false:=by decide) (he:starEach (e :: aL) X.env=(false,eval e X.env) :: starEach aL X.env:=by rfl) (d1:(backTo pos (starEach aL X.env)).any (·.1)=false:=by rfl):bD X (.Call (.Name x p) (e :: aL) [] pos) (tx sp [] K9 t):=Yo F aj a9 hm aI af .nil b0 aS f5 he d1
end L2
local macro_rules|`(tactic|nofun)=>do let f(s:String):=(s.splitOn " ").toArray.map fun x=>Lean.mkCIdent x.toName;let c:=f "L2.yv L2.ql L2.yW L2.H3 L2.Ez L2.C5 L2.B5 L2.DP L2.Cu L2.eH L2.c3 L2.Du L2.BD L2.CA L2.EL L2.i7 L2.w9 L2.pb L2.qZ L2.Ho L2.rL L2.CM L2.Ht L2.pw L2.EN L2.rI L2.nB L2.yy L2.E5 L2.Hs L2.EH L2.IL L2.PJ L2.Lh L2.wP L2.rP L2.EG L2.Df L2.D6 L2.tx L2.KO L2.MD L2.xS L2.Ip L2.H0 L2.HF L2.JB L2.Ia L2.IM L2.Iv L2.Eh L2.Dn L2.AP L2.E8 L2.FD L2.Fz L2.Ik L2.F7 L2.Iw L2.GM L2.Gy L2.Hw L2.CF L2.oA L2.Fp L2.HM L2.G9 L2.G7 L2.QJ L2.EA L2.IS L2.EK L2.HQ L2.Fl L2.Cy L2.nk L2.D' L2.HH L2.Dv L2.Fu L2.FR L2.CG L2.Hp L2.GU L2.Ck L2.NF L2.O3 L2.Mc L2.PA L2.Mm L2.M6 L2.KJ L2.KK L2.LL L2.Ja L2.start L2.Pg Nat.reduceAdd Nat.reduceSub List.replicate";let a:=f "L2.qD L2.adt L2.a6.w5 L2.a6.jS L2.a6.block L2.af2 L2.UJ L2.Sn L2.abI L2.Q0 L2.aby L2.XT L2.X8 L2.Sd L2.acK L2.Xa L2.abO L2.Tz L2.V4"++c;let b:=c++f "L2.RL L2.UZ L2.IN L2.WR L2.VF List.map_cons List.map_nil Option.bind_none Option.bind_some Option.join_some Option.join_none List.length_cons List.length_nil Nat.zero_add List.cons_append List.nil_append List.append_nil List.set_cons_zero List.set_cons_succ List.getElem?_cons_zero List.getElem?_cons_succ Option.some.injEq L2.V.int.injEq L2.V.bk.injEq L2.V.str.injEq L2.V.ref.injEq L2.V.ty.injEq exists_eq_left' exists_eq_left exists_and_left List.cons.injEq and_true true_and and_assoc Int.zero_add reduceCtorEq false_and exists_false and_false ite_true ite_false if_true if_false Bool.false_eq_true L2.Hb L2.AJ false_or or_false Bool.not_true Bool.not_false decide_true decide_false";`(tactic|((try dsimp only [$[$a:ident],*]);(try simp only [$[$b:ident],*])))
local macro_rules | `(tactic| walk_at "B")=>`(tactic| first | rfl | (dsimp only [L2.a6.block];done) | (dsimp only [L2.a6.block];exact rfl))
local macro_rules | `(tactic| walk_at "F")=>`(tactic| exact ⟨rfl,rfl,rfl,by ac_nf,rfl,by ac_nf,by ac_nf⟩)
namespace L2
open PySem
theorem bA {P:Program} {w:World} {K:a'} {ai:Str->Option Value} {base:Heap} {C:h7} {m n:Nat} {f a:Addr} {fd b:FuncData} {ps q:List Str} {sp S:bF} (h:cg P w K ai base C m f fd ps sp) (g:cg P w K ai base C n f fd ps sp->cg P w K ai base C (n+1) a b q S) (hm:m<=n:=by decide):cg P w K ai base C (n+1) a b q S:=g (h.mono hm)
end L2
set_option hygiene false
local macro_rules | `(tactic| walk_at "O")=>`(tactic| (intro vs H Q E h;repeat (first | (obtain ⟨rfl,_⟩:=h;rfl) | (obtain ⟨_,h⟩:=h))))
set_option hygiene true
set_option hygiene false
local macro_rules | `(tactic| ac_rfl)=>`(tactic| refine I4 fun fD a7=>?_)
local macro_rules | `(tactic| exists $e,0)=>`(tactic| refine Uu $e (fun dq bu=>?_) fun fD a7=>?_)
local macro_rules | `(tactic| exists $e,9)=>`(tactic| refine ($e) (by walk_at "O") (fun _ _ _ s H vs Q E aj h=>?_))
set_option hygiene true
namespace My
open PySem L2
local macro_rules|`(~~~$x)=>`(some (L2.V.ref $x))
abbrev nf:List Str:=["self","name"]
abbrev kS:List Str:=["plan","name","turn"]
abbrev jk:List Str:=["self","name","start","end","off","near","least"]
abbrev yt:List Str:=["_law_script","_law_k","_law_many"]
abbrev xm:List Str:=["spans","name"]
abbrev sv:List Str:=["plan","name"]
abbrev yE:List Str:=["self","good"]
abbrev Eu:List Str:=["self","low","high"]
abbrev uL:List Str:=["word","signs","most"]
abbrev sL:List Str:=["crossing","one","other"]
abbrev n9:List Str:=["crossing","size","spans"]
abbrev o7:List Str:=["_law_script","_law_k"]
abbrev yo:List Str:=["self","choices"]
abbrev tq:List Str:=["word","most_figures"]
abbrev qo:List Str:=["_law_script"]
abbrev AI:List Str:=["self","kind","name","start","end","off","near","least"]
abbrev uJ:List Str:=["name","rows"]
abbrev IB:List Str:=["plan","turn"]
abbrev u5:List Str:=["crossing","text"]
abbrev x1:List Str:=["book","name"]
abbrev vc:List Str:=["plan","turn","many"]
abbrev rN:List Str:=["self","row","told"]
abbrev zr:List Str:=["reader","places","start"]
abbrev z_:List Str:=["sort","name","start","end","off","near","least"]
abbrev Ct:List Str:=["begin","rows"]
abbrev yA:List Str:=["places","way","second"]
abbrev H6:List Str:=["size","spans","name"]
abbrev xn:List Str:=["reader","part"]
abbrev zi:List Str:=["self","row"]
abbrev FK:List Str:=["word","low","high"]
abbrev GX:List Str:=["reader","ways"]
abbrev A9:List Str:=["reader","places","ways"]
abbrev A2:List Str:=["places","way","place"]
abbrev z7:List Str:=["crossing","spans"]
abbrev Ds:List Str:=["way","size","spans"]
abbrev Co:List Str:=["reader","crossing","size","spans"]
abbrev Ek:List Str:=["size","spans","place"]
abbrev Ic:List Str:=["crossing","one","other","since_one","since_other"]
abbrev Hl:List Str:=["crossing","size","rows"]
abbrev BR:List Str:=["_law_script","_law_many"]
abbrev yn:List Str:=["_law_script","_law_many","_law_places_here"]
abbrev yN:List Str:=["_law_places_here","_law_ways_here"]
abbrev BF:List Str:=["_law_script","_law_ways_here","_law_more"]
abbrev zC:List Str:=["_law_desk","_law_script","_law_k","_law_book_here","_law_plan_here","_law_names_here"]
abbrev x5:List Str:=["self","places","ways"]
abbrev zD:List Str:=["self","crossing","size","spans"]
abbrev EC:List Str:=["self","first","parts","text"]
abbrev Hd:List Str:=["self","first","parts"]
abbrev AZ:List Str:=["called","begin","turns","name"]
abbrev xX:List Str:=["name","begin","turns"]
abbrev Gl:List Str:=["begin","rows","figures","texts"]
abbrev Cj:List Str:=["size","spans","place","name","begin","turns","others"]
abbrev HW:List Str:=["_law_desk","_law_script","_law_k","_law_book_here","_law_plan_here","_law_names_here","_law_way","_law_turn_here","_law_name","_law_shown","_law_due","_law_wait","_law_many","_law_texts","_law_row"]
abbrev F2:List Str:=["at","span","place"]
abbrev B6:List Str:=["later","many","begin","size"]
seal L2.ck L2.bD L2.gS L2.ij L2.hN L2.gy
noncomputable def hn (K:a') (a:Addr) (xs:List V):Prop:=∀ H:ah,cU K H a xs
theorem abh {K:a'} {a:Addr} {eS:Option Addr} {aV:Array Value} {n:Nat} {dv:Array (Option Value)} {xs:List V} (x:K.lookup a=some ⟨.type "tuple",eS,.seq aV n,dv⟩) (y:aV.size <= sizeLine) (z:bS xs aV.toList):hn K a xs:=
 fun _=>.inr ⟨_,aV,n,x,rfl,rfl,y,z⟩
noncomputable def yr (w:World) (K:a') (a:Addr) (bC:List Str):Prop:=∃ aL n,(a == sysModules)=false/\K.lookup a=some ⟨.type "dict",none,.dict aL n,#[]⟩/\Dt w.params aL.toList/\bS (bC.map V.str) (aL.toList.map (·.key))
theorem VL {w:World} {K:a'} {a:Addr} {aL:Array DictEntry} {n:Nat} {bC:List Str} (x:K.lookup a=some ⟨.type "dict",none,.dict aL n,#[]⟩) (y:Dt w.params aL.toList) (u:(a == sysModules)=false) (z:bS (bC.map V.str) (aL.toList.map (·.key))):yr w K a bC:=⟨aL,n,u,x,y,z⟩
noncomputable def top (i:Nat):Stmt:=PySem.Challenge.pw_lampway_k80_a_desk_answers.main.body.getD i (.Pass ⟨0,0,0,0⟩)
noncomputable abbrev AU:Stmt:=top 16
theorem YQ:bU ["text"] ["text"] (br AU):=(by walk_at "F")
noncomputable abbrev xJ:Stmt:=top 17
theorem aco:bU uL uL (br xJ):=(by walk_at "F")
noncomputable abbrev HO:Stmt:=top 18
theorem JU:bU tq tq (br HO):=(by walk_at "F")
noncomputable abbrev CR:Stmt:=top 19
theorem Qo:bU ["word","low","high","number"] FK (br CR):=(by walk_at "F")
noncomputable abbrev Fc:Stmt:=top 20
theorem X7:bU ["word"] ["word"] (br Fc):=(by walk_at "F")
noncomputable abbrev IG:Stmt:=top 21
theorem aft:bU ["word"] ["word"] (br IG):=(by walk_at "F")
noncomputable abbrev Aj:Stmt:=top 24
theorem Ze:bU ["text"] ["text"] (br Aj):=(by walk_at "F")
noncomputable abbrev F8:Stmt:=top 38
theorem LP:bU ["reader","places"] ["reader"] (br F8):=(by walk_at "F")
noncomputable abbrev zF:Stmt:=top 39
theorem Oc:bU ["reader","ways","name"] GX (br zF):=(by walk_at "F")
noncomputable abbrev IH:Stmt:=top 40
theorem adN:bU zr zr (br IH):=(by walk_at "F")
noncomputable abbrev CP:Stmt:=top 41
theorem acE:bU z_ z_ (br CP):=(by walk_at "F")
noncomputable abbrev C3:Stmt:=top 42
theorem nS:bU ["reader","places","ways","sort","name","start","end","off","near","least"] A9 (br C3):=(by walk_at "F")
noncomputable abbrev Ey:Stmt:=top 43
theorem ua:bU ["text","rows","places","ways","reader"] ["text"] (br Ey):=(by walk_at "F")
noncomputable abbrev Bz:Stmt:=top 48
theorem NC:bU ["name","rows","signs"] uJ (br Bz):=(by walk_at "F")
noncomputable abbrev vC:Stmt:=top 49
theorem C0:bU Gl Ct (br vC):=(by walk_at "F")
noncomputable abbrev DS:Stmt:=top 51
theorem NJ:bU ["places","way","place","steps"] A2 (br DS):=(by walk_at "F")
noncomputable abbrev G3:Stmt:=top 52
theorem T3:bU yA yA (br G3):=(by walk_at "F")
noncomputable abbrev B':Stmt:=top 53
theorem GO:bU ["crossing","one","other","way","second"] sL (br B'):=(by walk_at "F")
noncomputable abbrev Gz:Stmt:=top 54
theorem Gf:bU ["crossing","one","other","way","second"] sL (br Gz):=(by walk_at "F")
noncomputable abbrev Hr:Stmt:=top 94
theorem Ki:bU ["crossing","spans","name"] z7 (br Hr):=(by walk_at "F")
noncomputable abbrev Dx:Stmt:=top 97
theorem n3:bU ["crossing","size","spans","place","span","name","begin","turns","way","needed"] n9 (br Dx):=(by walk_at "F")
noncomputable abbrev Ha:Stmt:=top 100
theorem Uf:bU ["crossing","size","spans","since","name","one","other"] n9 (br Ha):=(by walk_at "F")
noncomputable abbrev CQ:Stmt:=top 77
theorem Wu:bU kS kS (br CQ):=(by walk_at "F")
noncomputable abbrev FH:Stmt:=top 78
theorem DR:bU ["plan","turn","shown","name"] IB (br FH):=(by walk_at "F")
noncomputable abbrev Fj:Stmt:=top 79
theorem TN:bU kS kS (br Fj):=(by walk_at "F")
noncomputable abbrev Im:Stmt:=top 80
theorem Kd:bU ["plan","name","wait"] sv (br Im):=(by walk_at "F")
noncomputable abbrev DU:Stmt:=top 82
theorem rb:bU ["marks","size","steps","untils","place"] ["marks"] (br DU):=(by walk_at "F")
noncomputable abbrev HG:Stmt:=top 83
theorem afn:bU ["marks"] ["marks"] (br HG):=(by walk_at "F")
noncomputable abbrev zZ:Stmt:=top 88
theorem S3:bU xm xm (br zZ):=(by walk_at "F")
noncomputable abbrev Ab:Stmt:=top 89
theorem tU:bU ["size","spans","name","marks","begin","turns","step"] H6 (br Ab):=(by walk_at "F")
noncomputable abbrev BE:Stmt:=top 90
theorem Go:bU ["way","size","spans","shown","begin","turns","step"] Ds (br BE):=(by walk_at "F")
noncomputable abbrev Gb:Stmt:=top 91
theorem Od:bU ["reader","size"] ["reader"] (br Gb):=(by walk_at "F")
noncomputable abbrev yz:Stmt:=top 92
theorem zh:bU ["reader","crossing","size","spans","name","begin","turns"] Co (br yz):=(by walk_at "F")
noncomputable abbrev C':Stmt:=top 93
theorem va:bU ["crossing","text","rows","size","spans","reader"] u5 (br C'):=(by walk_at "F")
noncomputable abbrev wk:Stmt:=top 96
theorem ub:bU Cj Ek (br wk):=(by walk_at "F")
noncomputable abbrev D8:Stmt:=top 99
theorem yX:bU ["crossing","one","other","since_one","since_other","between","turn","steps"] Ic (br D8):=(by walk_at "F")
noncomputable abbrev A0:Stmt:=top 102
theorem uo:bU ["crossing","size","rows","spans","name","begin","turns"] Hl (br A0):=(by walk_at "F")
noncomputable abbrev Hh:Stmt:=top 126
theorem Kr:bU ["reader","name"] ["reader"] (br Hh):=(by walk_at "F")
noncomputable abbrev Hm:Stmt:=top 128
theorem ms:bU ["reader","turn"] ["reader"] (br Hm):=(by walk_at "F")
noncomputable abbrev HR:Stmt:=top 131
theorem aao:bU xn xn (br HR):=(by walk_at "F")
noncomputable abbrev zV:Stmt:=top 132
theorem zQ:bU ["told","reader","first","parts"] ["told"] (br zV):=(by walk_at "F")
noncomputable abbrev C1:Stmt:=top 133
theorem rp:bU ["row","told","line_end","text","first","parts"] ["row"] (br C1):=(by walk_at "F")
noncomputable abbrev Cv:Stmt:=top 147
theorem abo:bU x1 x1 (br Cv):=(by walk_at "F")
noncomputable abbrev y':Stmt:=top 148
theorem ZW:bU ["shown"] ["shown"] (br y'):=(by walk_at "F")
noncomputable abbrev Cw:Stmt:=top 149
theorem Zz:bU kS kS (br Cw):=(by walk_at "F")
noncomputable abbrev em:Stmt:=top 150
theorem Hc:bU ["plan","name","wait","turn"] sv (br em):=(by walk_at "F")
noncomputable abbrev As:Stmt:=top 151
theorem Zu:bU vc vc (br As):=(by walk_at "F")
noncomputable abbrev Iz:Stmt:=top 156
theorem DW:bU ["_law_script","_law_k","_law_many","_law_cell","_law_seed"] yt (br Iz):=(by walk_at "F")
noncomputable abbrev am:Stmt:=top 157
theorem aee:bU qo qo (br am):=(by walk_at "F")
noncomputable abbrev x7:Stmt:=top 158
theorem k5:bU ["_law_script","_law_many","_law_letters","_law_word","_law_size","_law_at","_law_first","_law_some","_law_k","_law_name","_law_sign"] BR (br x7):=(by walk_at "F")
noncomputable abbrev Hi:Stmt:=top 159
theorem jT:bU ["_law_script","_law_many","_law_places_here","_law_names_here","_law_one_end","_law_ways_here","_law_k","_law_start","_law_end","_law_off","_law_near","_law_sort","_law_least"] yn (br Hi):=(by walk_at "F")
noncomputable abbrev x4:Stmt:=top 160
theorem GQ:bU ["_law_places_here","_law_ways_here","_law_rows","_law_way"] yN (br x4):=(by walk_at "F")
noncomputable abbrev Io:Stmt:=top 161
theorem kz:bU ["_law_script","_law_ways_here","_law_more","_law_rows","_law_at","_law_first","_law_k","_law_way","_law_turns","_law_size","_law_by","_law_texts","_law_row"] BF (br Io):=(by walk_at "F")
noncomputable abbrev xU:Stmt:=top 162
theorem HE:bU ["_law_script","_law_k","_law_letters","_law_size"] o7 (br xU):=(by walk_at "F")
noncomputable abbrev Gq:Stmt:=top 163
theorem Mz:bU ["_law_script","_law_k","_law_cell"] o7 (br Gq):=(by walk_at "F")
noncomputable abbrev w':Stmt:=top 164
theorem kc:bU HW zC (br w'):=(by walk_at "F")
noncomputable abbrev yH:Stmt:=top 165
theorem jM:bU ["_law_script","_law_places_here","_law_ways_here","_law_text_here","_law_rows","_law_names_here","_law_plan_here","_law_desk","_law_books","_law_k","_law_row"] qo (br yH):=(by walk_at "F")
noncomputable abbrev F5:Stmt:=fF (top 23) 0
theorem YV:bU rN rN (br F5):=(by walk_at "F")
noncomputable abbrev DK:Stmt:=fF (top 23) 1
theorem acw:bU ["self"] ["self"] (br DK):=(by walk_at "F")
noncomputable abbrev Dw:Stmt:=fF (top 23) 2
theorem Rr:bU ["self"] ["self"] (br Dw):=(by walk_at "F")
noncomputable abbrev HI:Stmt:=fF (top 23) 4
theorem aah:bU yE yE (br HI):=(by walk_at "F")
noncomputable abbrev Cx:Stmt:=fF (top 23) 5
theorem Ka:bU ["self","choices","found"] yo (br Cx):=(by walk_at "F")
noncomputable abbrev El:Stmt:=fF (top 23) 6
theorem Qg:bU ["self","low","high","found"] Eu (br El):=(by walk_at "F")
noncomputable abbrev GS:Stmt:=fF (top 23) 7
theorem Wp:bU ["self"] ["self"] (br GS):=(by walk_at "F")
noncomputable abbrev HU:Stmt:=fF (top 26) 0
theorem aeb:bU AI AI (br HU):=(by walk_at "F")
noncomputable abbrev E7:Stmt:=fF (top 27) 0
theorem TO:bU jk jk (br E7):=(by walk_at "F")
noncomputable abbrev FF:Stmt:=fF (top 27) 1
theorem W3:bU ["self"] ["self"] (br FF):=(by walk_at "F")
noncomputable abbrev HZ:Stmt:=fF (top 27) 2
theorem abM:bU ["self"] ["self"] (br HZ):=(by walk_at "F")
noncomputable abbrev HV:Stmt:=fF (top 28) 0
theorem Xk:bU jk jk (br HV):=(by walk_at "F")
noncomputable abbrev Ej:Stmt:=fF (top 28) 1
theorem aab:bU ["self"] ["self"] (br Ej):=(by walk_at "F")
noncomputable abbrev HY:Stmt:=fF (top 28) 2
theorem Rk:bU ["self"] ["self"] (br HY):=(by walk_at "F")
noncomputable abbrev Dr:Stmt:=fF (top 29) 0
theorem RH:bU jk jk (br Dr):=(by walk_at "F")
noncomputable abbrev IQ:Stmt:=fF (top 29) 1
theorem abA:bU ["self"] ["self"] (br IQ):=(by walk_at "F")
noncomputable abbrev G1:Stmt:=fF (top 29) 2
theorem Yy:bU ["self"] ["self"] (br G1):=(by walk_at "F")
noncomputable abbrev Ef:Stmt:=fF (top 37) 0
theorem GH:bU ["self","places","ways","number","way"] x5 (br Ef):=(by walk_at "F")
noncomputable abbrev yk:Stmt:=fF (top 37) 1
theorem YD:bU ["self"] ["self"] (br yk):=(by walk_at "F")
noncomputable abbrev GZ:Stmt:=fF (top 37) 2
theorem adw:bU nf nf (br GZ):=(by walk_at "F")
noncomputable abbrev G_:Stmt:=fF (top 37) 3
theorem adG:bU nf nf (br G_):=(by walk_at "F")
noncomputable abbrev D3:Stmt:=fF (top 87) 0
theorem LI:bU ["self","crossing","size","spans","name"] zD (br D3):=(by walk_at "F")
noncomputable abbrev He:Stmt:=fF (top 154) 0
theorem Yh:bU ["self"] ["self"] (br He):=(by walk_at "F")
noncomputable abbrev EZ:Stmt:=fF (top 154) 1
theorem Tl:bU ["self","row","first","parts","text"] zi (br EZ):=(by walk_at "F")
noncomputable abbrev En:Stmt:=fF (top 154) 2
theorem O8:bU ["self","first","parts","text","crossing","stages"] EC (br En):=(by walk_at "F")
noncomputable abbrev FQ:Stmt:=fF (top 154) 4
theorem JL:bU ["self","first","parts","plan"] Hd (br FQ):=(by walk_at "F")
noncomputable abbrev CH:List (Str × V):=[((aa "stop"),.str (aa ".")),((aa "ready"),.str (aa ":")),((aa "free"),.str (aa "|")),((aa "fade"),.str (aa "~"))]
set_option genInjectivity false in
set_option genInjectivity false in
structure bt where
 {qA wM rV wL w2 vO sH ry Re tv vB q8 oT tf wC sq wN xc th oW p_ pZ wD u7 ue uq vW t5 uv uw wt xi wK pU tJ we vP u' wg rG uz wB wm tr wZ wo vR qQ r5 vE rz ru sZ tb tw q_ w6 ad rl rt sE qI q7 qy rg pV sk so pz s7 wf pe sX si p2 q1 q9 pK pO pH pM qV ri dR io ew et es eF mb mA eE uj e0 pS D0 D_ K0 GY HD HT Hn KU P0 LW vw:Addr}
 {sQ xQ w7 AH yw Tk wY xa AK Bn xN uO sF yf Ah uE zI A_ zm tI u3 vt Bf AO xA x' AA AG zy xT BM xy za qW Ai AE AB yO Bc uR Aq Bh zf xx dl Ay Ax tY tL yF ui xo v' wQ yV tN sr re Bi Bk BL vn zW wq x_ vZ Av y1 t6 Ad ii wF xV bi wG BB ya u_ ug t7 vA z8 ye:FuncData}
 {y0 Aw z9 yJ y8 xP yS yD By y9 zP Pi yl Ag yh A7 Bp:Value}
noncomputable abbrev GD (t:bt):List (Str × V):=[((aa "crossing"),.ref t.D0),((aa "plan"),.ref t.D_),((aa "stages"),.ref t.K0),((aa "colours"),.ref t.GY),((aa "wait"),.ref t.HD),((aa "longest"),.ref t.HT),((aa "draw"),.ref t.Hn),((aa "turn"),.ref t.KU),((aa "worst"),.ref t.P0),((aa "shortest"),.ref t.LW)]
structure Txt (w:World) (K:a') (ai:Str->Option Value) (t:bt):Prop where
 hc:(ai "words"=some (.ref t.qA))/\(aT K "words" "words" AU t.qA t.sQ)/\(ai "is_made_of"=some (.ref t.wM))/\(aT K "is_made_of" "is_made_of" xJ t.wM t.xQ)/\(ai "is_number"=some (.ref t.rV))/\(aT K "is_number" "is_number" HO t.rV t.w7)/\(ai "figured"=some (.ref t.wL))/\(aT K "figured" "figured" CR t.wL t.AH)/\(ai "turned"=some (.ref t.w2))/\(aT K "turned" "turned" Fc t.w2 t.yw)/\(ai "is_name"=some (.ref t.vO))/\(aT K "is_name" "is_name" IG t.vO t.Tk)/\(ai "readers"=some (.ref t.sH))/\(aT K "readers" "readers" Aj t.sH t.wY)/\(ai "read_ring"=some (.ref t.ry))/\(aT K "read_ring" "read_ring" F8 t.ry t.xa)/\(ai "read_new_name"=some (.ref t.Re))/\(aT K "read_new_name" "read_new_name" zF t.Re t.AK)/\(ai "read_end"=some (.ref t.tv))/\(aT K "read_end" "read_end" IH t.tv t.Bn)
 hx:(ai "made_way"=some (.ref t.vB))/\(aT K "made_way" "made_way" CP t.vB t.xN)/\(ai "read_way"=some (.ref t.q8))/\(aT K "read_way" "read_way" C3 t.q8 t.uO)/\(ai "read_crossing"=some (.ref t.oT))/\(aT K "read_crossing" "read_crossing" Ey t.oT t.sF)/\(ai "drawn_way"=some (.ref t.tf))/\(aT K "drawn_way" "drawn_way" Bz t.tf t.yf)/\(ai "drawn"=some (.ref t.wC))/\(aT K "drawn" "drawn" vC t.wC t.Ah)/\(ai "in_bow"=some (.ref t.sq))/\(aT K "in_bow" "in_bow" DS t.sq t.uE)/\(ai "bows_cross"=some (.ref t.wN))/\(aT K "bows_cross" "bows_cross" G3 t.wN t.zI)/\(ai "meet"=some (.ref t.xc))/\(aT K "meet" "meet" B' t.xc t.A_)/\(ai "gap"=some (.ref t.th))/\(aT K "gap" "gap" Gz t.th t.zm)/\(ai "refuse_never"=some (.ref t.oW))/\(aT K "refuse_never" "refuse_never" Hr t.oW t.tI)
 hX:(ai "refuse_short"=some (.ref t.p_))/\(aT K "refuse_short" "refuse_short" Dx t.p_ t.u3)/\(ai "refuse_clash"=some (.ref t.pZ))/\(aT K "refuse_clash" "refuse_clash" Ha t.pZ t.vt)/\(ai "colour"=some (.ref t.wD))/\(aT K "colour" "colour" CQ t.wD t.Bf)/\(ai "colours"=some (.ref t.u7))/\(aT K "colours" "colours" FH t.u7 t.AO)/\(ai "next_free"=some (.ref t.ue))/\(aT K "next_free" "next_free" Fj t.ue t.xA)/\(ai "longest"=some (.ref t.uq))/\(aT K "longest" "longest" Im t.uq t.x')/\(ai "until_marked"=some (.ref t.vW))/\(aT K "until_marked" "until_marked" DU t.vW t.AA)/\(ai "since_marked"=some (.ref t.t5))/\(aT K "since_marked" "since_marked" HG t.t5 t.AG)/\(ai "spans_of"=some (.ref t.uv))/\(aT K "spans_of" "spans_of" zZ t.uv t.zy)/\(ai "free_marks"=some (.ref t.uw))/\(aT K "free_marks" "free_marks" Ab t.uw t.xT)
 g_:(ai "lamp"=some (.ref t.wt))/\(aT K "lamp" "lamp" BE t.wt t.BM)/\(ai "read_size"=some (.ref t.xi))/\(aT K "read_size" "read_size" Gb t.xi t.xy)/\(ai "read_span"=some (.ref t.wK))/\(aT K "read_span" "read_span" yz t.wK t.za)/\(ai "read_plan"=some (.ref t.pU))/\(aT K "read_plan" "read_plan" C' t.pU t.qW)/\(ai "turns_to_next_begin"=some (.ref t.tJ))/\(aT K "turns_to_next_begin" "turns_to_next_begin" wk t.tJ t.Ai)/\(ai "refuse_clash_of"=some (.ref t.we))/\(aT K "refuse_clash_of" "refuse_clash_of" D8 t.we t.AE)/\(ai "made_plan"=some (.ref t.vP))/\(aT K "made_plan" "made_plan" A0 t.vP t.AB)/\(ai "read_name"=some (.ref t.u'))/\(aT K "read_name" "read_name" Hh t.u' t.yO)/\(ai "read_turn"=some (.ref t.wg))/\(aT K "read_turn" "read_turn" Hm t.wg t.Bc)/\(ai "read_part"=some (.ref t.rG))/\(aT K "read_part" "read_part" HR t.rG t.uR)
 hp:(ai "read_words"=some (.ref t.uz))/\(aT K "read_words" "read_words" zV t.uz t.Aq)/\(ai "read_saying"=some (.ref t.wB))/\(aT K "read_saying" "read_saying" C1 t.wB t.Bh)/\(ai "looked_up"=some (.ref t.wm))/\(aT K "looked_up" "looked_up" Cv t.wm t.zf)/\(ai "colours_row"=some (.ref t.tr))/\(aT K "colours_row" "colours_row" y' t.tr t.xx)/\(ai "wait_row"=some (.ref t.wZ))/\(aT K "wait_row" "wait_row" Cw t.wZ t.dl)/\(ai "longest_row"=some (.ref t.wo))/\(aT K "longest_row" "longest_row" em t.wo t.Ay)/\(ai "draw_rows"=some (.ref t.vR))/\(aT K "draw_rows" "draw_rows" As t.vR t.Ax)/\(ai "_law_draw"=some (.ref t.qQ))/\(aT K "_law_draw" "_law_draw" Iz t.qQ t.tY)/\(ai "_law_places"=some (.ref t.r5))/\(aT K "_law_places" "_law_places" am t.r5 t.tL)/\(ai "_law_names"=some (.ref t.vE))/\(aT K "_law_names" "_law_names" x7 t.vE t.yF)
 iz:(ai "_law_ways"=some (.ref t.rz))/\(aT K "_law_ways" "_law_ways" Hi t.rz t.ui)/\(ai "_law_text"=some (.ref t.ru))/\(aT K "_law_text" "_law_text" x4 t.ru t.xo)/\(ai "_law_plan"=some (.ref t.sZ))/\(aT K "_law_plan" "_law_plan" Io t.sZ t.v')/\(ai "_law_book"=some (.ref t.tb))/\(aT K "_law_book" "_law_book" xU t.tb t.wQ)/\(ai "_law_turn"=some (.ref t.tw))/\(aT K "_law_turn" "_law_turn" Gq t.tw t.yV)/\(ai "_law_is_told"=some (.ref t.q_))/\(aT K "_law_is_told" "_law_is_told" w' t.q_ t.tN)/\(ai "law"=some (.ref t.w6))/\(aT K "law" "law" yH t.w6 t.sr)/\(ai "RowReader"=some (.ref t.dR))/\(dg K (.ref t.dR) "__init__"=some (some (.ref t.ad)))/\(aT K "__init__" "RowReader.__init__" F5 t.ad t.re)/\(dg K (.ref t.dR) "ahead"=some (some (.ref t.rl)))/\(aT K "ahead" "RowReader.ahead" DK t.rl t.Bi)/\(dg K (.ref t.dR) "has_more"=some (some (.ref t.rt)))
 kE:(aT K "has_more" "RowReader.has_more" Dw t.rt t.Bk)/\(dg K (.ref t.dR) "take"=some (some (.ref t.sE)))/\(aT K "take" "RowReader.take" HI t.sE t.BL)/\(dg K (.ref t.dR) "one_of"=some (some (.ref t.qI)))/\(aT K "one_of" "RowReader.one_of" Cx t.qI t.vn)/\(dg K (.ref t.dR) "figures"=some (some (.ref t.q7)))/\(aT K "figures" "RowReader.figures" El t.q7 t.zW)/\(dg K (.ref t.dR) "finish"=some (some (.ref t.qy)))/\(aT K "finish" "RowReader.finish" GS t.qy t.wq)/\(ai "Way"=some (.ref t.io))/\(dg K (.ref t.io) "__init__"=some (some (.ref t.rg)))/\(aT K "__init__" "Way.__init__" HU t.rg t.x_)/\(ai "CarWay"=some (.ref t.ew))/\(dg K (.ref t.ew) "__init__"=some (some (.ref t.pV)))/\(aT K "__init__" "CarWay.__init__" E7 t.pV t.vZ)/\(dg K (.ref t.ew) "ready"=some (some (.ref t.sk)))/\(aT K "ready" "CarWay.ready" FF t.sk t.Av)/\(dg K (.ref t.ew) "fade"=some (some (.ref t.so)))/\(aT K "fade" "CarWay.fade" HZ t.so t.y1)/\(ai "FootWay"=some (.ref t.et))
 kZ:(dg K (.ref t.et) "__init__"=some (some (.ref t.pz)))/\(aT K "__init__" "FootWay.__init__" HV t.pz t.t6)/\(dg K (.ref t.et) "ready"=some (some (.ref t.s7)))/\(aT K "ready" "FootWay.ready" Ej t.s7 t.Ad)/\(dg K (.ref t.et) "fade"=some (some (.ref t.wf)))/\(aT K "fade" "FootWay.fade" HY t.wf t.ii)/\(ai "TramWay"=some (.ref t.es))/\(dg K (.ref t.es) "__init__"=some (some (.ref t.pe)))/\(aT K "__init__" "TramWay.__init__" Dr t.pe t.wF)/\(dg K (.ref t.es) "ready"=some (some (.ref t.sX)))/\(aT K "ready" "TramWay.ready" IQ t.sX t.xV)/\(dg K (.ref t.es) "fade"=some (some (.ref t.si)))/\(aT K "fade" "TramWay.fade" G1 t.si t.bi)/\(ai "Crossing"=some (.ref t.eF))/\(dg K (.ref t.eF) "__init__"=some (some (.ref t.p2)))/\(aT K "__init__" "Crossing.__init__" Ef t.p2 t.wG)/\(dg K (.ref t.eF) "names"=some (some (.ref t.q1)))/\(aT K "names" "Crossing.names" yk t.q1 t.BB)/\(dg K (.ref t.eF) "number"=some (some (.ref t.q9)))/\(aT K "number" "Crossing.number" GZ t.q9 t.ya)
 jC:(dg K (.ref t.eF) "called"=some (some (.ref t.pK)))/\(aT K "called" "Crossing.called" G_ t.pK t.u_)/\(ai "Plan"=some (.ref t.eE))/\(dg K (.ref t.eE) "__init__"=some (some (.ref t.pO)))/\(aT K "__init__" "Plan.__init__" D3 t.pO t.ug)/\(ai "Desk"=some (.ref t.e0))/\(dg K (.ref t.e0) "__init__"=some (some (.ref t.pH)))/\(aT K "__init__" "Desk.__init__" He t.pH t.t7)/\(dg K (.ref t.e0) "say"=some (some (.ref t.pM)))/\(aT K "say" "Desk.say" EZ t.pM t.vA)/\(dg K (.ref t.e0) "take_text"=some (some (.ref t.qV)))/\(aT K "take_text" "Desk.take_text" En t.qV t.z8)/\(dg K (.ref t.e0) "answer_of_plan"=some (some (.ref t.ri)))/\(aT K "answer_of_plan" "Desk.answer_of_plan" FQ t.ri t.ye)/\(eg K t.dR)/\(iB K t.dR t.ad)/\(dD K t.dR "ahead" t.rl)/\(dD K t.dR "has_more" t.rt)/\(dD K t.dR "take" t.sE)/\(dD K t.dR "one_of" t.qI)
 kA:(dD K t.dR "figures" t.q7)/\(dD K t.dR "finish" t.qy)/\(bB K t.dR "row")/\(bB K t.dR "told")/\(bB K t.dR "place")/\(eg K t.io)/\(bB K t.io "kind")/\(bB K t.io "name")/\(bB K t.io "start")/\(bB K t.io "end")/\(bB K t.io "off")/\(bB K t.io "near")/\(bB K t.io "least")/\(eg K t.ew)/\(iB K t.ew t.pV)/\(dD K t.ew "ready" t.sk)/\(dD K t.ew "fade" t.so)/\(bB K t.ew "kind")/\(bB K t.ew "name")/\(bB K t.ew "start")
 g7:(bB K t.ew "end")/\(bB K t.ew "off")/\(bB K t.ew "near")/\(bB K t.ew "least")/\(eg K t.et)/\(iB K t.et t.pz)/\(dD K t.et "ready" t.s7)/\(dD K t.et "fade" t.wf)/\(bB K t.et "kind")/\(bB K t.et "name")/\(bB K t.et "start")/\(bB K t.et "end")/\(bB K t.et "off")/\(bB K t.et "near")/\(bB K t.et "least")/\(eg K t.es)/\(iB K t.es t.pe)/\(dD K t.es "ready" t.sX)/\(dD K t.es "fade" t.si)/\(bB K t.es "kind")
 jR:(bB K t.es "name")/\(bB K t.es "start")/\(bB K t.es "end")/\(bB K t.es "off")/\(bB K t.es "near")/\(bB K t.es "least")/\(eg K t.eF)/\(iB K t.eF t.p2)/\(dD K t.eF "names" t.q1)/\(dD K t.eF "number" t.q9)/\(dD K t.eF "called" t.pK)/\(bB K t.eF "places")/\(bB K t.eF "ways")/\(bB K t.eF "numbers")/\(ai "Stages"=some (.ref t.mb))/\(eg K t.mb)/\(bB K t.mb "crossing")/\(bB K t.mb "many")/\(bB K t.mb "leasts")/\(bB K t.mb "mosts")
 sT:(bB K t.mb "members")/\(bB K t.mb "sorts")/\(bB K t.mb "homes")/\(bB K t.mb "changes")/\(ai "Keeper"=some (.ref t.mA))/\(eg K t.mA)/\(bB K t.mA "stages")/\(bB K t.mA "showing")/\(bB K t.mA "lasted")/\(bB K t.mA "left")/\(bB K t.mA "sought")/\(bB K t.mA "gone")/\(bB K t.mA "waiting")/\(bB K t.mA "picked")/\(eg K t.eE)/\(iB K t.eE t.pO)/\(bB K t.eE "crossing")/\(bB K t.eE "size")/\(bB K t.eE "spans")/\(bB K t.eE "lamps")
 kL:(bB K t.eE "untils")/\(ai "Wanted"=some (.ref t.uj))/\(eg K t.uj)/\(bB K t.uj "many")/\(bB K t.uj "alones")/\(bB K t.uj "steps")/\(eg K t.e0)/\(iB K t.e0 t.pH)/\(dD K t.e0 "say" t.pM)/\(dD K t.e0 "take_text" t.qV)/\(dD K t.e0 "answer_of_plan" t.ri)/\(bB K t.e0 "crossings")/\(bB K t.e0 "plans")/\(bB K t.e0 "keepers")/\(t.io ≠ t.ew)/\(t.io ≠ t.et)/\(t.io ≠ t.es)/\(t.ew ≠ t.et)/\(t.ew ≠ t.es)/\(t.et ≠ t.es)
 iM:(EI K t.io "__init__" t.rg)/\(ai "AHEAD"=some t.y0)/\(bx (.int 9) t.y0)/\(ai "FIGURES"=some t.Aw)/\(bx (.str (aa "0123456789")) t.Aw)/\(ai "FORMS"=some (.ref t.pS))/\(rq w K (.ref t.pS) (GD t))/\(yr w K t.pS [(aa "crossing"),(aa "plan"),(aa "stages"),(aa "colours"),(aa "wait"),(aa "longest"),(aa "draw"),(aa "turn"),(aa "worst"),(aa "shortest")])/\(hn K t.D0 [V.str (aa "name")])/\(hn K t.D_ [V.str (aa "name"),V.str (aa "name")])/\(hn K t.K0 [V.str (aa "name"),V.str (aa "name")])/\(hn K t.GY [V.str (aa "name"),V.str (aa "turn")])/\(hn K t.HD [V.str (aa "name"),V.str (aa "name"),V.str (aa "turn")])/\(hn K t.HT [V.str (aa "name"),V.str (aa "name")])/\(hn K t.Hn [V.str (aa "name"),V.str (aa "turn"),V.str (aa "many")])/\(hn K t.KU [V.str (aa "name"),V.str (aa "names")])/\(hn K t.P0 [V.str (aa "name"),V.str (aa "name")])/\(hn K t.LW [V.str (aa "name"),V.str (aa "wants")])/\(ai "LEAST_PLACES"=some t.z9)/\(bx (.int 2) t.z9)
 g5:(ai "LETTERS"=some t.yJ)/\(bx (.str (aa "abcdefghijklmnopqrstuvwxyz")) t.yJ)/\(ai "MOST_DRAWN"=some t.y8)/\(bx (.int 200) t.y8)/\(ai "MOST_FIGURES"=some t.xP)/\(bx (.int 3) t.xP)/\(ai "MOST_LEAST"=some t.yS)/\(bx (.int 60) t.yS)/\(ai "MOST_LETTERS_drawing"=some t.yD)/\(bx (.int 8) t.yD)/\(ai "MOST_LETTERS_words"=some t.By)/\(bx (.int 8) t.By)/\(ai "MOST_NEAR"=some t.y9)/\(bx (.int 30) t.y9)/\(ai "MOST_OFF"=some t.zP)/\(bx (.int 30) t.zP)/\(ai "MOST_PLACES"=some t.Pi)/\(bx (.int 99) t.Pi)/\(ai "MOST_SIZE"=some t.yl)/\(bx (.int 240) t.yl)
 g6:(ai "MOST_SPANS"=some t.Ag)/\(bx (.int 3) t.Ag)/\(ai "MOST_TURN_FIGURES"=some t.yh)/\(bx (.int 59) t.yh)/\(ai "MOST_WAYS"=some t.A7)/\(bx (.int 12) t.A7)/\(ai "SIGNS"=some t.Bp)/\(rq w K t.Bp CH)/\(ai "WITH_TEXT"=some (.ref t.vw))/\(hn K t.vw [V.str (aa "crossing"),V.str (aa "plan"),V.str (aa "stages")])/\(ai "refuse_clash_plans"=some (.ref t.pZ))/\(ai "refuse_never_plans"=some (.ref t.oW))/\(ai "refuse_short_plans"=some (.ref t.p_))/\(ai "all"=none)/\(ai "enumerate"=none)/\(ai "int"=none)/\(ai "len"=none)/\(ai "list"=none)/\(ai "max"=none)/\(ai "min"=none)
 Ak:(ai "range"=none)/\(ai "reversed"=none)/\(ai "str"=none)/\(∀ (s:Shared) (u:Value),BindsTo s t.sr ⟨[u],[]⟩ [("_law_script",u)])
section
variable {w:World} {K:a'} {ai:Str->Option Value} {t:bt} (T:Txt w K ai t)
include T
theorem Txt.L9:ai "words"=some (.ref t.qA):=T.hc.1
theorem Txt.Be:aT K "words" "words" AU t.qA t.sQ:=T.hc.2.1
theorem Txt.C2:ai "is_made_of"=some (.ref t.wM):=T.hc.2.2.1
theorem Txt.u4:aT K "is_made_of" "is_made_of" xJ t.wM t.xQ:=T.hc.2.2.2.1
theorem Txt.Ma:ai "is_number"=some (.ref t.rV):=T.hc.2.2.2.2.1
theorem Txt.vU:aT K "is_number" "is_number" HO t.rV t.w7:=T.hc.2.2.2.2.2.1
theorem Txt.U1:ai "figured"=some (.ref t.wL):=T.hc.2.2.2.2.2.2.1
theorem Txt.FU:aT K "figured" "figured" CR t.wL t.AH:=T.hc.2.2.2.2.2.2.2.1
theorem Txt.aaS:ai "turned"=some (.ref t.w2):=T.hc.2.2.2.2.2.2.2.2.1
theorem Txt.Fd:aT K "turned" "turned" Fc t.w2 t.yw:=T.hc.2.2.2.2.2.2.2.2.2.1
theorem Txt.M9:ai "is_name"=some (.ref t.vO):=T.hc.2.2.2.2.2.2.2.2.2.2.1
theorem Txt.zq:aT K "is_name" "is_name" IG t.vO t.Tk:=T.hc.2.2.2.2.2.2.2.2.2.2.2.1
theorem Txt.K6:ai "readers"=some (.ref t.sH):=T.hc.2.2.2.2.2.2.2.2.2.2.2.2.1
theorem Txt.BN:aT K "readers" "readers" Aj t.sH t.wY:=T.hc.2.2.2.2.2.2.2.2.2.2.2.2.2.1
theorem Txt.KB:ai "read_ring"=some (.ref t.ry):=T.hc.2.2.2.2.2.2.2.2.2.2.2.2.2.2.1
theorem Txt.CI:aT K "read_ring" "read_ring" F8 t.ry t.xa:=T.hc.2.2.2.2.2.2.2.2.2.2.2.2.2.2.2.1
theorem Txt.adh:ai "read_new_name"=some (.ref t.Re):=T.hc.2.2.2.2.2.2.2.2.2.2.2.2.2.2.2.2.1
theorem Txt.HN:aT K "read_new_name" "read_new_name" zF t.Re t.AK:=T.hc.2.2.2.2.2.2.2.2.2.2.2.2.2.2.2.2.2.1
theorem Txt.Wl:ai "read_end"=some (.ref t.tv):=T.hc.2.2.2.2.2.2.2.2.2.2.2.2.2.2.2.2.2.2.1
theorem Txt.F0:aT K "read_end" "read_end" IH t.tv t.Bn:=T.hc.2.2.2.2.2.2.2.2.2.2.2.2.2.2.2.2.2.2.2
theorem Txt.SP:ai "made_way"=some (.ref t.vB):=T.hx.1
theorem Txt.C9:aT K "made_way" "made_way" CP t.vB t.xN:=T.hx.2.1
theorem Txt.Yu:ai "read_way"=some (.ref t.q8):=T.hx.2.2.1
theorem Txt.HX:aT K "read_way" "read_way" C3 t.q8 t.uO:=T.hx.2.2.2.1
theorem Txt.Dq:ai "read_crossing"=some (.ref t.oT):=T.hx.2.2.2.2.1
theorem Txt.tg:aT K "read_crossing" "read_crossing" Ey t.oT t.sF:=T.hx.2.2.2.2.2.1
theorem Txt.aeK:ai "drawn_way"=some (.ref t.tf):=T.hx.2.2.2.2.2.2.1
theorem Txt.E':aT K "drawn_way" "drawn_way" Bz t.tf t.yf:=T.hx.2.2.2.2.2.2.2.1
theorem Txt.Pj:ai "drawn"=some (.ref t.wC):=T.hx.2.2.2.2.2.2.2.2.1
theorem Txt.yu:aT K "drawn" "drawn" vC t.wC t.Ah:=T.hx.2.2.2.2.2.2.2.2.2.1
theorem Txt.LM:ai "in_bow"=some (.ref t.sq):=T.hx.2.2.2.2.2.2.2.2.2.2.1
theorem Txt.z3:aT K "in_bow" "in_bow" DS t.sq t.uE:=T.hx.2.2.2.2.2.2.2.2.2.2.2.1
theorem Txt.ac6:ai "bows_cross"=some (.ref t.wN):=T.hx.2.2.2.2.2.2.2.2.2.2.2.2.1
theorem Txt.FE:aT K "bows_cross" "bows_cross" G3 t.wN t.zI:=T.hx.2.2.2.2.2.2.2.2.2.2.2.2.2.1
theorem Txt.acL:ai "meet"=some (.ref t.xc):=T.hx.2.2.2.2.2.2.2.2.2.2.2.2.2.2.1
theorem Txt.Fg:aT K "meet" "meet" B' t.xc t.A_:=T.hx.2.2.2.2.2.2.2.2.2.2.2.2.2.2.2.1
theorem Txt.W0:ai "gap"=some (.ref t.th):=T.hx.2.2.2.2.2.2.2.2.2.2.2.2.2.2.2.2.1
theorem Txt.SL:aT K "gap" "gap" Gz t.th t.zm:=T.hx.2.2.2.2.2.2.2.2.2.2.2.2.2.2.2.2.2.1
theorem Txt.F3:aT K "refuse_never" "refuse_never" Hr t.oW t.tI:=T.hx.2.2.2.2.2.2.2.2.2.2.2.2.2.2.2.2.2.2.2
theorem Txt.Fk:aT K "refuse_short" "refuse_short" Dx t.p_ t.u3:=T.hX.2.1
theorem Txt.C6:aT K "refuse_clash" "refuse_clash" Ha t.pZ t.vt:=T.hX.2.2.2.1
theorem Txt.V5:ai "colour"=some (.ref t.wD):=T.hX.2.2.2.2.1
theorem Txt.BW:aT K "colour" "colour" CQ t.wD t.Bf:=T.hX.2.2.2.2.2.1
theorem Txt.zg:ai "colours"=some (.ref t.u7):=T.hX.2.2.2.2.2.2.1
theorem Txt.s6:aT K "colours" "colours" FH t.u7 t.AO:=T.hX.2.2.2.2.2.2.2.1
theorem Txt.Lm:ai "next_free"=some (.ref t.ue):=T.hX.2.2.2.2.2.2.2.2.1
theorem Txt.yx:aT K "next_free" "next_free" Fj t.ue t.xA:=T.hX.2.2.2.2.2.2.2.2.2.1
theorem Txt.Jq:ai "longest"=some (.ref t.uq):=T.hX.2.2.2.2.2.2.2.2.2.2.1
theorem Txt.yi:aT K "longest" "longest" Im t.uq t.x':=T.hX.2.2.2.2.2.2.2.2.2.2.2.1
theorem Txt.OK:ai "until_marked"=some (.ref t.vW):=T.hX.2.2.2.2.2.2.2.2.2.2.2.2.1
theorem Txt.Au:aT K "until_marked" "until_marked" DU t.vW t.AA:=T.hX.2.2.2.2.2.2.2.2.2.2.2.2.2.1
theorem Txt.sw:ai "since_marked"=some (.ref t.t5):=T.hX.2.2.2.2.2.2.2.2.2.2.2.2.2.2.1
theorem Txt.Hz:aT K "since_marked" "since_marked" HG t.t5 t.AG:=T.hX.2.2.2.2.2.2.2.2.2.2.2.2.2.2.2.1
theorem Txt.tC:ai "spans_of"=some (.ref t.uv):=T.hX.2.2.2.2.2.2.2.2.2.2.2.2.2.2.2.2.1
theorem Txt.pk:aT K "spans_of" "spans_of" zZ t.uv t.zy:=T.hX.2.2.2.2.2.2.2.2.2.2.2.2.2.2.2.2.2.1
theorem Txt.Os:ai "free_marks"=some (.ref t.uw):=T.hX.2.2.2.2.2.2.2.2.2.2.2.2.2.2.2.2.2.2.1
theorem Txt.ze:aT K "free_marks" "free_marks" Ab t.uw t.xT:=T.hX.2.2.2.2.2.2.2.2.2.2.2.2.2.2.2.2.2.2.2
theorem Txt.abg:ai "lamp"=some (.ref t.wt):=T.g_.1
theorem Txt.GI:aT K "lamp" "lamp" BE t.wt t.BM:=T.g_.2.1
theorem Txt.afL:ai "read_size"=some (.ref t.xi):=T.g_.2.2.1
theorem Txt.E0:aT K "read_size" "read_size" Gb t.xi t.xy:=T.g_.2.2.2.1
theorem Txt.Vr:ai "read_span"=some (.ref t.wK):=T.g_.2.2.2.2.1
theorem Txt.Ee:aT K "read_span" "read_span" yz t.wK t.za:=T.g_.2.2.2.2.2.1
theorem Txt.Cf:ai "read_plan"=some (.ref t.pU):=T.g_.2.2.2.2.2.2.1
theorem Txt.u9:aT K "read_plan" "read_plan" C' t.pU t.qW:=T.g_.2.2.2.2.2.2.2.1
theorem Txt.aeG:ai "turns_to_next_begin"=some (.ref t.tJ):=T.g_.2.2.2.2.2.2.2.2.1
theorem Txt.Cg:aT K "turns_to_next_begin" "turns_to_next_begin" wk t.tJ t.Ai:=T.g_.2.2.2.2.2.2.2.2.2.1
theorem Txt.Yq:ai "refuse_clash_of"=some (.ref t.we):=T.g_.2.2.2.2.2.2.2.2.2.2.1
theorem Txt.Ch:aT K "refuse_clash_of" "refuse_clash_of" D8 t.we t.AE:=T.g_.2.2.2.2.2.2.2.2.2.2.2.1
theorem Txt.RX:ai "made_plan"=some (.ref t.vP):=T.g_.2.2.2.2.2.2.2.2.2.2.2.2.1
theorem Txt.ap:aT K "made_plan" "made_plan" A0 t.vP t.AB:=T.g_.2.2.2.2.2.2.2.2.2.2.2.2.2.1
theorem Txt.agq:ai "read_name"=some (.ref t.u'):=T.g_.2.2.2.2.2.2.2.2.2.2.2.2.2.2.1
theorem Txt.HA:aT K "read_name" "read_name" Hh t.u' t.yO:=T.g_.2.2.2.2.2.2.2.2.2.2.2.2.2.2.2.1
theorem Txt.U2:ai "read_turn"=some (.ref t.wg):=T.g_.2.2.2.2.2.2.2.2.2.2.2.2.2.2.2.2.1
theorem Txt.DZ:aT K "read_turn" "read_turn" Hm t.wg t.Bc:=T.g_.2.2.2.2.2.2.2.2.2.2.2.2.2.2.2.2.2.1
theorem Txt.RE:ai "read_part"=some (.ref t.rG):=T.g_.2.2.2.2.2.2.2.2.2.2.2.2.2.2.2.2.2.2.1
theorem Txt.GA:aT K "read_part" "read_part" HR t.rG t.uR:=T.g_.2.2.2.2.2.2.2.2.2.2.2.2.2.2.2.2.2.2.2
theorem Txt.abf:ai "read_words"=some (.ref t.uz):=T.hp.1
theorem Txt.Dz:aT K "read_words" "read_words" zV t.uz t.Aq:=T.hp.2.1
theorem Txt.abi:ai "read_saying"=some (.ref t.wB):=T.hp.2.2.1
theorem Txt.Hg:aT K "read_saying" "read_saying" C1 t.wB t.Bh:=T.hp.2.2.2.1
theorem Txt.Lu:ai "looked_up"=some (.ref t.wm):=T.hp.2.2.2.2.1
theorem Txt.im:aT K "looked_up" "looked_up" Cv t.wm t.zf:=T.hp.2.2.2.2.2.1
theorem Txt.R3:ai "colours_row"=some (.ref t.tr):=T.hp.2.2.2.2.2.2.1
theorem Txt.Hf:aT K "colours_row" "colours_row" y' t.tr t.xx:=T.hp.2.2.2.2.2.2.2.1
theorem Txt.Sr:ai "wait_row"=some (.ref t.wZ):=T.hp.2.2.2.2.2.2.2.2.1
theorem Txt.B1:aT K "wait_row" "wait_row" Cw t.wZ t.dl:=T.hp.2.2.2.2.2.2.2.2.2.1
theorem Txt.afb:ai "longest_row"=some (.ref t.wo):=T.hp.2.2.2.2.2.2.2.2.2.2.1
theorem Txt.Ge:aT K "longest_row" "longest_row" em t.wo t.Ay:=T.hp.2.2.2.2.2.2.2.2.2.2.2.1
theorem Txt.SN:ai "draw_rows"=some (.ref t.vR):=T.hp.2.2.2.2.2.2.2.2.2.2.2.2.1
theorem Txt.Ew:aT K "draw_rows" "draw_rows" As t.vR t.Ax:=T.hp.2.2.2.2.2.2.2.2.2.2.2.2.2.1
theorem Txt.el:ai "_law_draw"=some (.ref t.qQ):=T.hp.2.2.2.2.2.2.2.2.2.2.2.2.2.2.1
theorem Txt.d5:aT K "_law_draw" "_law_draw" Iz t.qQ t.tY:=T.hp.2.2.2.2.2.2.2.2.2.2.2.2.2.2.2.1
theorem Txt.RU:ai "_law_places"=some (.ref t.r5):=T.hp.2.2.2.2.2.2.2.2.2.2.2.2.2.2.2.2.1
theorem Txt.H9:aT K "_law_places" "_law_places" am t.r5 t.tL:=T.hp.2.2.2.2.2.2.2.2.2.2.2.2.2.2.2.2.2.1
theorem Txt.X0:ai "_law_names"=some (.ref t.vE):=T.hp.2.2.2.2.2.2.2.2.2.2.2.2.2.2.2.2.2.2.1
theorem Txt.BZ:aT K "_law_names" "_law_names" x7 t.vE t.yF:=T.hp.2.2.2.2.2.2.2.2.2.2.2.2.2.2.2.2.2.2.2
theorem Txt.Yr:ai "_law_ways"=some (.ref t.rz):=T.iz.1
theorem Txt.Hy:aT K "_law_ways" "_law_ways" Hi t.rz t.ui:=T.iz.2.1
theorem Txt.VE:ai "_law_text"=some (.ref t.ru):=T.iz.2.2.1
theorem Txt.E1:aT K "_law_text" "_law_text" x4 t.ru t.xo:=T.iz.2.2.2.1
theorem Txt.Jv:ai "_law_plan"=some (.ref t.sZ):=T.iz.2.2.2.2.1
theorem Txt.A8:aT K "_law_plan" "_law_plan" Io t.sZ t.v':=T.iz.2.2.2.2.2.1
theorem Txt.Op:ai "_law_book"=some (.ref t.tb):=T.iz.2.2.2.2.2.2.1
theorem Txt.ur:aT K "_law_book" "_law_book" xU t.tb t.wQ:=T.iz.2.2.2.2.2.2.2.1
theorem Txt.Xe:ai "_law_turn"=some (.ref t.tw):=T.iz.2.2.2.2.2.2.2.2.1
theorem Txt.E4:aT K "_law_turn" "_law_turn" Gq t.tw t.yV:=T.iz.2.2.2.2.2.2.2.2.2.1
theorem Txt.afg:ai "_law_is_told"=some (.ref t.q_):=T.iz.2.2.2.2.2.2.2.2.2.2.1
theorem Txt.Dy:aT K "_law_is_told" "_law_is_told" w' t.q_ t.tN:=T.iz.2.2.2.2.2.2.2.2.2.2.2.1
theorem Txt.ab9:ai "law"=some (.ref t.w6):=T.iz.2.2.2.2.2.2.2.2.2.2.2.2.1
theorem Txt.Uk:aT K "law" "law" yH t.w6 t.sr:=T.iz.2.2.2.2.2.2.2.2.2.2.2.2.2.1
theorem Txt.LZ:ai "RowReader"=some (.ref t.dR):=T.iz.2.2.2.2.2.2.2.2.2.2.2.2.2.2.1
theorem Txt.N0:aT K "__init__" "RowReader.__init__" F5 t.ad t.re:=T.iz.2.2.2.2.2.2.2.2.2.2.2.2.2.2.2.2.1
theorem Txt.Kt:aT K "ahead" "RowReader.ahead" DK t.rl t.Bi:=T.iz.2.2.2.2.2.2.2.2.2.2.2.2.2.2.2.2.2.2.1
theorem Txt.P1:aT K "has_more" "RowReader.has_more" Dw t.rt t.Bk:=T.kE.1
theorem Txt.Pz:aT K "take" "RowReader.take" HI t.sE t.BL:=T.kE.2.2.1
theorem Txt.Jb:aT K "one_of" "RowReader.one_of" Cx t.qI t.vn:=T.kE.2.2.2.2.1
theorem Txt.NA:aT K "figures" "RowReader.figures" El t.q7 t.zW:=T.kE.2.2.2.2.2.2.1
theorem Txt.JK:aT K "finish" "RowReader.finish" GS t.qy t.wq:=T.kE.2.2.2.2.2.2.2.2.1
theorem Txt.Dd:ai "Way"=some (.ref t.io):=T.kE.2.2.2.2.2.2.2.2.2.1
theorem Txt.KC:aT K "__init__" "Way.__init__" HU t.rg t.x_:=T.kE.2.2.2.2.2.2.2.2.2.2.2.1
theorem Txt.Vd:ai "CarWay"=some (.ref t.ew):=T.kE.2.2.2.2.2.2.2.2.2.2.2.2.1
theorem Txt.Oq:aT K "__init__" "CarWay.__init__" E7 t.pV t.vZ:=T.kE.2.2.2.2.2.2.2.2.2.2.2.2.2.2.1
theorem Txt.Pm:aT K "ready" "CarWay.ready" FF t.sk t.Av:=T.kE.2.2.2.2.2.2.2.2.2.2.2.2.2.2.2.2.1
theorem Txt.M0:aT K "fade" "CarWay.fade" HZ t.so t.y1:=T.kE.2.2.2.2.2.2.2.2.2.2.2.2.2.2.2.2.2.2.1
theorem Txt.afH:ai "FootWay"=some (.ref t.et):=T.kE.2.2.2.2.2.2.2.2.2.2.2.2.2.2.2.2.2.2.2
theorem Txt.QL:aT K "__init__" "FootWay.__init__" HV t.pz t.t6:=T.kZ.2.1
theorem Txt.J0:aT K "ready" "FootWay.ready" Ej t.s7 t.Ad:=T.kZ.2.2.2.1
theorem Txt.Jg:aT K "fade" "FootWay.fade" HY t.wf t.ii:=T.kZ.2.2.2.2.2.1
theorem Txt.ady:ai "TramWay"=some (.ref t.es):=T.kZ.2.2.2.2.2.2.1
theorem Txt.OE:aT K "__init__" "TramWay.__init__" Dr t.pe t.wF:=T.kZ.2.2.2.2.2.2.2.2.1
theorem Txt.Ks:aT K "ready" "TramWay.ready" IQ t.sX t.xV:=T.kZ.2.2.2.2.2.2.2.2.2.2.1
theorem Txt.P4:aT K "fade" "TramWay.fade" G1 t.si t.bi:=T.kZ.2.2.2.2.2.2.2.2.2.2.2.2.1
theorem Txt.Z7:ai "Crossing"=some (.ref t.eF):=T.kZ.2.2.2.2.2.2.2.2.2.2.2.2.2.1
theorem Txt.JV:aT K "__init__" "Crossing.__init__" Ef t.p2 t.wG:=T.kZ.2.2.2.2.2.2.2.2.2.2.2.2.2.2.2.1
theorem Txt.JI:aT K "names" "Crossing.names" yk t.q1 t.BB:=T.kZ.2.2.2.2.2.2.2.2.2.2.2.2.2.2.2.2.2.1
theorem Txt.LS:aT K "number" "Crossing.number" GZ t.q9 t.ya:=T.kZ.2.2.2.2.2.2.2.2.2.2.2.2.2.2.2.2.2.2.2
theorem Txt.LD:aT K "called" "Crossing.called" G_ t.pK t.u_:=T.jC.2.1
theorem Txt.YE:ai "Plan"=some (.ref t.eE):=T.jC.2.2.1
theorem Txt.MN:aT K "__init__" "Plan.__init__" D3 t.pO t.ug:=T.jC.2.2.2.2.1
theorem Txt.WY:ai "Desk"=some (.ref t.e0):=T.jC.2.2.2.2.2.1
theorem Txt.Oe:aT K "__init__" "Desk.__init__" He t.pH t.t7:=T.jC.2.2.2.2.2.2.2.1
theorem Txt.Ni:aT K "say" "Desk.say" EZ t.pM t.vA:=T.jC.2.2.2.2.2.2.2.2.2.1
theorem Txt.PY:aT K "take_text" "Desk.take_text" En t.qV t.z8:=T.jC.2.2.2.2.2.2.2.2.2.2.2.1
theorem Txt.O2:aT K "answer_of_plan" "Desk.answer_of_plan" FQ t.ri t.ye:=T.jC.2.2.2.2.2.2.2.2.2.2.2.2.2.1
theorem Txt.dJ:eg K t.dR:=T.jC.2.2.2.2.2.2.2.2.2.2.2.2.2.2.1
theorem Txt.Pa:iB K t.dR t.ad:=T.jC.2.2.2.2.2.2.2.2.2.2.2.2.2.2.2.1
theorem Txt.ce:dD K t.dR "ahead" t.rl:=T.jC.2.2.2.2.2.2.2.2.2.2.2.2.2.2.2.2.1
theorem Txt.Y8:dD K t.dR "has_more" t.rt:=T.jC.2.2.2.2.2.2.2.2.2.2.2.2.2.2.2.2.2.1
theorem Txt.lf:dD K t.dR "take" t.sE:=T.jC.2.2.2.2.2.2.2.2.2.2.2.2.2.2.2.2.2.2.1
theorem Txt.sY:dD K t.dR "one_of" t.qI:=T.jC.2.2.2.2.2.2.2.2.2.2.2.2.2.2.2.2.2.2.2
theorem Txt.mf:dD K t.dR "figures" t.q7:=T.kA.1
theorem Txt.xk:dD K t.dR "finish" t.qy:=T.kA.2.1
theorem Txt.YM:bB K t.dR "row" := T.kA.2.2.1
theorem Txt.K5:bB K t.dR "told" := T.kA.2.2.2.1
theorem Txt.Cz:bB K t.dR "place" := T.kA.2.2.2.2.1
theorem Txt.Dk:eg K t.ew:=T.kA.2.2.2.2.2.2.2.2.2.2.2.2.2.1
theorem Txt.Xu:iB K t.ew t.pV:=T.kA.2.2.2.2.2.2.2.2.2.2.2.2.2.2.1
theorem Txt.XX:dD K t.ew "ready" t.sk:=T.kA.2.2.2.2.2.2.2.2.2.2.2.2.2.2.2.1
theorem Txt.ad7:dD K t.ew "fade" t.so:=T.kA.2.2.2.2.2.2.2.2.2.2.2.2.2.2.2.2.1
theorem Txt.Zy:bB K t.ew "kind" := T.kA.2.2.2.2.2.2.2.2.2.2.2.2.2.2.2.2.2.1
theorem Txt.adl:bB K t.ew "name" := T.kA.2.2.2.2.2.2.2.2.2.2.2.2.2.2.2.2.2.2.1
theorem Txt.Ym:bB K t.ew "start" := T.kA.2.2.2.2.2.2.2.2.2.2.2.2.2.2.2.2.2.2.2
theorem Txt.QY:bB K t.ew "end" := T.g7.1
theorem Txt.VC:bB K t.ew "off" := T.g7.2.1
theorem Txt.afI:bB K t.ew "near" := T.g7.2.2.1
theorem Txt.afX:bB K t.ew "least" := T.g7.2.2.2.1
theorem Txt.BU:eg K t.et:=T.g7.2.2.2.2.1
theorem Txt.R':iB K t.et t.pz:=T.g7.2.2.2.2.2.1
theorem Txt.We:dD K t.et "ready" t.s7:=T.g7.2.2.2.2.2.2.1
theorem Txt.ad9:dD K t.et "fade" t.wf:=T.g7.2.2.2.2.2.2.2.1
theorem Txt.Wi:bB K t.et "kind" := T.g7.2.2.2.2.2.2.2.2.1
theorem Txt.UG:bB K t.et "name" := T.g7.2.2.2.2.2.2.2.2.2.1
theorem Txt.afp:bB K t.et "start" := T.g7.2.2.2.2.2.2.2.2.2.2.1
theorem Txt.aeR:bB K t.et "end" := T.g7.2.2.2.2.2.2.2.2.2.2.2.1
theorem Txt.Xm:bB K t.et "off" := T.g7.2.2.2.2.2.2.2.2.2.2.2.2.1
theorem Txt.ac0:bB K t.et "near" := T.g7.2.2.2.2.2.2.2.2.2.2.2.2.2.1
theorem Txt.afQ:bB K t.et "least" := T.g7.2.2.2.2.2.2.2.2.2.2.2.2.2.2.1
theorem Txt.Ga:eg K t.es:=T.g7.2.2.2.2.2.2.2.2.2.2.2.2.2.2.2.1
theorem Txt.aev:iB K t.es t.pe:=T.g7.2.2.2.2.2.2.2.2.2.2.2.2.2.2.2.2.1
theorem Txt.agm:dD K t.es "ready" t.sX:=T.g7.2.2.2.2.2.2.2.2.2.2.2.2.2.2.2.2.2.1
theorem Txt.VR:dD K t.es "fade" t.si:=T.g7.2.2.2.2.2.2.2.2.2.2.2.2.2.2.2.2.2.2.1
theorem Txt.Zs:bB K t.es "kind" := T.g7.2.2.2.2.2.2.2.2.2.2.2.2.2.2.2.2.2.2.2
theorem Txt.af1:bB K t.es "name" := T.jR.1
theorem Txt.Rh:bB K t.es "start" := T.jR.2.1
theorem Txt.ZD:bB K t.es "end" := T.jR.2.2.1
theorem Txt.aga:bB K t.es "off" := T.jR.2.2.2.1
theorem Txt.afA:bB K t.es "near" := T.jR.2.2.2.2.1
theorem Txt.agk:bB K t.es "least" := T.jR.2.2.2.2.2.1
theorem Txt.gg:eg K t.eF:=T.jR.2.2.2.2.2.2.1
theorem Txt.TZ:iB K t.eF t.p2:=T.jR.2.2.2.2.2.2.2.1
theorem Txt.o6:dD K t.eF "names" t.q1:=T.jR.2.2.2.2.2.2.2.2.1
theorem Txt.adS:dD K t.eF "number" t.q9:=T.jR.2.2.2.2.2.2.2.2.2.1
theorem Txt.Gc:dD K t.eF "called" t.pK:=T.jR.2.2.2.2.2.2.2.2.2.2.1
theorem Txt.Lr:bB K t.eF "places" := T.jR.2.2.2.2.2.2.2.2.2.2.2.1
theorem Txt.K7:bB K t.eF "ways" := T.jR.2.2.2.2.2.2.2.2.2.2.2.2.1
theorem Txt.Qu:bB K t.eF "numbers" := T.jR.2.2.2.2.2.2.2.2.2.2.2.2.2.1
theorem Txt.ny:eg K t.eE:=T.sT.2.2.2.2.2.2.2.2.2.2.2.2.2.2.1
theorem Txt.XY:iB K t.eE t.pO:=T.sT.2.2.2.2.2.2.2.2.2.2.2.2.2.2.2.1
theorem Txt.JS:bB K t.eE "crossing" := T.sT.2.2.2.2.2.2.2.2.2.2.2.2.2.2.2.2.1
theorem Txt.Is:bB K t.eE "size" := T.sT.2.2.2.2.2.2.2.2.2.2.2.2.2.2.2.2.2.1
theorem Txt.age:bB K t.eE "spans" := T.sT.2.2.2.2.2.2.2.2.2.2.2.2.2.2.2.2.2.2.1
theorem Txt.Ov:bB K t.eE "lamps" := T.sT.2.2.2.2.2.2.2.2.2.2.2.2.2.2.2.2.2.2.2
theorem Txt.QN:bB K t.eE "untils" := T.kL.1
theorem Txt.h9:eg K t.e0:=T.kL.2.2.2.2.2.2.1
theorem Txt.So:iB K t.e0 t.pH:=T.kL.2.2.2.2.2.2.2.1
theorem Txt.lF:dD K t.e0 "say" t.pM:=T.kL.2.2.2.2.2.2.2.2.1
theorem Txt.Xl:dD K t.e0 "take_text" t.qV:=T.kL.2.2.2.2.2.2.2.2.2.1
theorem Txt.Uq:dD K t.e0 "answer_of_plan" t.ri:=T.kL.2.2.2.2.2.2.2.2.2.2.1
theorem Txt.Ow:bB K t.e0 "crossings" := T.kL.2.2.2.2.2.2.2.2.2.2.2.1
theorem Txt.NW:bB K t.e0 "plans" := T.kL.2.2.2.2.2.2.2.2.2.2.2.2.1
theorem Txt.Wy:bB K t.e0 "keepers" := T.kL.2.2.2.2.2.2.2.2.2.2.2.2.2.1
theorem Txt.Cl:t.ew ≠ t.et:=T.kL.2.2.2.2.2.2.2.2.2.2.2.2.2.2.2.2.2.1
theorem Txt.QE:t.ew ≠ t.es:=T.kL.2.2.2.2.2.2.2.2.2.2.2.2.2.2.2.2.2.2.1
theorem Txt.NV:t.et ≠ t.es:=T.kL.2.2.2.2.2.2.2.2.2.2.2.2.2.2.2.2.2.2.2
theorem Txt.Iq:EI K t.io "__init__" t.rg:=T.iM.1
theorem Txt.Ss:ai "AHEAD"=some t.y0:=T.iM.2.1
theorem Txt.afo:bx (.int 9) t.y0:=T.iM.2.2.1
theorem Txt.QM:ai "FIGURES"=some t.Aw:=T.iM.2.2.2.1
theorem Txt.Mt:bx (.str (aa "0123456789")) t.Aw:=T.iM.2.2.2.2.1
theorem Txt.Kx:ai "FORMS"=some (.ref t.pS):=T.iM.2.2.2.2.2.1
theorem Txt.Z4:rq w K (.ref t.pS) (GD t):=T.iM.2.2.2.2.2.2.1
theorem Txt.aeW:yr w K t.pS [(aa "crossing"),(aa "plan"),(aa "stages"),(aa "colours"),(aa "wait"),(aa "longest"),(aa "draw"),(aa "turn"),(aa "worst"),(aa "shortest")]:=T.iM.2.2.2.2.2.2.2.1
theorem Txt.GE:hn K t.D0 [V.str (aa "name")]:=T.iM.2.2.2.2.2.2.2.2.1
theorem Txt.VD:hn K t.D_ [V.str (aa "name"),V.str (aa "name")]:=T.iM.2.2.2.2.2.2.2.2.2.1
theorem Txt.adn:hn K t.GY [V.str (aa "name"),V.str (aa "turn")]:=T.iM.2.2.2.2.2.2.2.2.2.2.2.1
theorem Txt.ZG:hn K t.HD [V.str (aa "name"),V.str (aa "name"),V.str (aa "turn")]:=T.iM.2.2.2.2.2.2.2.2.2.2.2.2.1
theorem Txt.SJ:hn K t.HT [V.str (aa "name"),V.str (aa "name")]:=T.iM.2.2.2.2.2.2.2.2.2.2.2.2.2.1
theorem Txt.SH:hn K t.Hn [V.str (aa "name"),V.str (aa "turn"),V.str (aa "many")]:=T.iM.2.2.2.2.2.2.2.2.2.2.2.2.2.2.1
theorem Txt.nw:ai "LEAST_PLACES"=some t.z9:=T.iM.2.2.2.2.2.2.2.2.2.2.2.2.2.2.2.2.2.2.1
theorem Txt.aef:bx (.int 2) t.z9:=T.iM.2.2.2.2.2.2.2.2.2.2.2.2.2.2.2.2.2.2.2
theorem Txt.aaw:ai "LETTERS"=some t.yJ:=T.g5.1
theorem Txt.RQ:bx (.str (aa "abcdefghijklmnopqrstuvwxyz")) t.yJ:=T.g5.2.1
theorem Txt.S2:ai "MOST_DRAWN"=some t.y8:=T.g5.2.2.1
theorem Txt.V9:bx (.int 200) t.y8:=T.g5.2.2.2.1
theorem Txt.Ts:ai "MOST_FIGURES"=some t.xP:=T.g5.2.2.2.2.1
theorem Txt.Wg:bx (.int 3) t.xP:=T.g5.2.2.2.2.2.1
theorem Txt.RM:ai "MOST_LEAST"=some t.yS:=T.g5.2.2.2.2.2.2.1
theorem Txt.adk:bx (.int 60) t.yS:=T.g5.2.2.2.2.2.2.2.1
theorem Txt.ZT:ai "MOST_LETTERS_drawing"=some t.yD:=T.g5.2.2.2.2.2.2.2.2.1
theorem Txt.afh:bx (.int 8) t.yD:=T.g5.2.2.2.2.2.2.2.2.2.1
theorem Txt.VS:ai "MOST_LETTERS_words"=some t.By:=T.g5.2.2.2.2.2.2.2.2.2.2.1
theorem Txt.Vv:bx (.int 8) t.By:=T.g5.2.2.2.2.2.2.2.2.2.2.2.1
theorem Txt.Ww:ai "MOST_NEAR"=some t.y9:=T.g5.2.2.2.2.2.2.2.2.2.2.2.2.1
theorem Txt.ab6:bx (.int 30) t.y9:=T.g5.2.2.2.2.2.2.2.2.2.2.2.2.2.1
theorem Txt.Q3:ai "MOST_OFF"=some t.zP:=T.g5.2.2.2.2.2.2.2.2.2.2.2.2.2.2.1
theorem Txt.Rn:bx (.int 30) t.zP:=T.g5.2.2.2.2.2.2.2.2.2.2.2.2.2.2.2.1
theorem Txt.TR:ai "MOST_PLACES"=some t.Pi:=T.g5.2.2.2.2.2.2.2.2.2.2.2.2.2.2.2.2.1
theorem Txt.Zo:bx (.int 99) t.Pi:=T.g5.2.2.2.2.2.2.2.2.2.2.2.2.2.2.2.2.2.1
theorem Txt.afK:ai "MOST_SIZE"=some t.yl:=T.g5.2.2.2.2.2.2.2.2.2.2.2.2.2.2.2.2.2.2.1
theorem Txt.Rc:bx (.int 240) t.yl:=T.g5.2.2.2.2.2.2.2.2.2.2.2.2.2.2.2.2.2.2.2
theorem Txt.acN:ai "MOST_SPANS"=some t.Ag:=T.g6.1
theorem Txt.adE:bx (.int 3) t.Ag:=T.g6.2.1
theorem Txt.pp:ai "MOST_TURN_FIGURES"=some t.yh:=T.g6.2.2.1
theorem Txt.afB:bx (.int 59) t.yh:=T.g6.2.2.2.1
theorem Txt.adm:ai "MOST_WAYS"=some t.A7:=T.g6.2.2.2.2.1
theorem Txt.SX:bx (.int 12) t.A7:=T.g6.2.2.2.2.2.1
theorem Txt.Zh:ai "SIGNS"=some t.Bp:=T.g6.2.2.2.2.2.2.1
theorem Txt.KM:rq w K t.Bp CH:=T.g6.2.2.2.2.2.2.2.1
theorem Txt.XC:ai "WITH_TEXT"=some (.ref t.vw):=T.g6.2.2.2.2.2.2.2.2.1
theorem Txt.adX:hn K t.vw [V.str (aa "crossing"),V.str (aa "plan"),V.str (aa "stages")]:=T.g6.2.2.2.2.2.2.2.2.2.1
theorem Txt.RB:ai "refuse_clash_plans"=some (.ref t.pZ):=T.g6.2.2.2.2.2.2.2.2.2.2.1
theorem Txt.QT:ai "refuse_never_plans"=some (.ref t.oW):=T.g6.2.2.2.2.2.2.2.2.2.2.2.1
theorem Txt.aaQ:ai "refuse_short_plans"=some (.ref t.p_):=T.g6.2.2.2.2.2.2.2.2.2.2.2.2.1
theorem Txt.TU:ai "all"=none:=T.g6.2.2.2.2.2.2.2.2.2.2.2.2.2.1
theorem Txt.vg:ai "enumerate"=none:=T.g6.2.2.2.2.2.2.2.2.2.2.2.2.2.2.1
theorem Txt.KQ:ai "int"=none:=T.g6.2.2.2.2.2.2.2.2.2.2.2.2.2.2.2.1
theorem Txt.jg:ai "len"=none:=T.g6.2.2.2.2.2.2.2.2.2.2.2.2.2.2.2.2.1
theorem Txt.A3:ai "list"=none:=T.g6.2.2.2.2.2.2.2.2.2.2.2.2.2.2.2.2.2.1
theorem Txt.N2:ai "max"=none:=T.g6.2.2.2.2.2.2.2.2.2.2.2.2.2.2.2.2.2.2.1
theorem Txt.PP:ai "min"=none:=T.g6.2.2.2.2.2.2.2.2.2.2.2.2.2.2.2.2.2.2.2
theorem Txt.iU:ai "range"=none:=T.Ak.1
theorem Txt.Dh:ai "reversed"=none:=T.Ak.2.1
theorem Txt.jn:ai "str"=none:=T.Ak.2.2.1
theorem Txt.aeJ:∀ (s:Shared) (u:Value),BindsTo s t.sr ⟨[u],[]⟩ [("_law_script",u)]:=T.Ak.2.2.2
theorem Txt.KG:ac K t.sQ ["text"] []:=T.Be.binds fun _ _ _ _ _ _=>fB fun _=>rfl
theorem Txt.CY:ac K t.xQ uL []:=T.u4.binds fun _ _ _ _ _ _=>fK fun _ _ _=>rfl
theorem Txt.Ol:ac K t.w7 tq []:=T.vU.binds fun _ _ _ _ _ _=>gM fun _ _=>rfl
theorem Txt.XD:ac K t.AH FK []:=T.FU.binds fun _ _ _ _ _ _=>fK fun _ _ _=>rfl
theorem Txt.Yb:ac K t.yw ["word"] []:=T.Fd.binds fun _ _ _ _ _ _=>fB fun _=>rfl
theorem Txt.Nm:ac K t.Tk ["word"] []:=T.zq.binds fun _ _ _ _ _ _=>fB fun _=>rfl
theorem Txt.LY:ac K t.wY ["text"] []:=T.BN.binds fun _ _ _ _ _ _=>fB fun _=>rfl
theorem Txt.afw:ac K t.xa ["reader"] []:=T.CI.binds fun _ _ _ _ _ _=>fB fun _=>rfl
theorem Txt.bv:ac K t.AK GX []:=T.HN.binds fun _ _ _ _ _ _=>gM fun _ _=>rfl
theorem Txt.wE:ac K t.Bn zr []:=T.F0.binds fun _ _ _ _ _ _=>fK fun _ _ _=>rfl
theorem Txt.Yv:ac K t.xN z_ []:=T.C9.binds fun _ _ _ _ _ _=>yp fun _ _ _ _ _ _ _=>rfl
theorem Txt.TV:ac K t.uO A9 []:=T.HX.binds fun _ _ _ _ _ _=>fK fun _ _ _=>rfl
theorem Txt.Gv:ac K t.sF ["text"] []:=T.tg.binds fun _ _ _ _ _ _=>fB fun _=>rfl
theorem Txt.Vu:ac K t.yf uJ []:=T.E'.binds fun _ _ _ _ _ _=>gM fun _ _=>rfl
theorem Txt.Qc:ac K t.Ah Ct []:=T.yu.binds fun _ _ _ _ _ _=>gM fun _ _=>rfl
theorem Txt.K8:ac K t.uE A2 []:=T.z3.binds fun _ _ _ _ _ _=>fK fun _ _ _=>rfl
theorem Txt.af0:ac K t.zI yA []:=T.FE.binds fun _ _ _ _ _ _=>fK fun _ _ _=>rfl
theorem Txt.Y3:ac K t.A_ sL []:=T.Fg.binds fun _ _ _ _ _ _=>fK fun _ _ _=>rfl
theorem Txt.ae3:ac K t.zm sL []:=T.SL.binds fun _ _ _ _ _ _=>fK fun _ _ _=>rfl
theorem Txt.U5:ac K t.tI z7 []:=T.F3.binds fun _ _ _ _ _ _=>gM fun _ _=>rfl
theorem Txt.X2:ac K t.u3 n9 []:=T.Fk.binds fun _ _ _ _ _ _=>fK fun _ _ _=>rfl
theorem Txt.aau:ac K t.vt n9 []:=T.C6.binds fun _ _ _ _ _ _=>fK fun _ _ _=>rfl
theorem Txt.Yz:ac K t.Bf kS []:=T.BW.binds fun _ _ _ _ _ _=>fK fun _ _ _=>rfl
theorem Txt.xI:ac K t.AO IB []:=T.s6.binds fun _ _ _ _ _ _=>gM fun _ _=>rfl
theorem Txt.OD:ac K t.xA kS []:=T.yx.binds fun _ _ _ _ _ _=>fK fun _ _ _=>rfl
theorem Txt.Qz:ac K t.x' sv []:=T.yi.binds fun _ _ _ _ _ _=>gM fun _ _=>rfl
theorem Txt.Do:ac K t.AA ["marks"] []:=T.Au.binds fun _ _ _ _ _ _=>fB fun _=>rfl
theorem Txt.X':ac K t.AG ["marks"] []:=T.Hz.binds fun _ _ _ _ _ _=>fB fun _=>rfl
theorem Txt.ux:ac K t.zy xm []:=T.pk.binds fun _ _ _ _ _ _=>gM fun _ _=>rfl
theorem Txt.JO:ac K t.xT H6 []:=T.ze.binds fun _ _ _ _ _ _=>fK fun _ _ _=>rfl
theorem Txt.YB:ac K t.BM Ds []:=T.GI.binds fun _ _ _ _ _ _=>fK fun _ _ _=>rfl
theorem Txt.XA:ac K t.xy ["reader"] []:=T.E0.binds fun _ _ _ _ _ _=>fB fun _=>rfl
theorem Txt.YZ:ac K t.za Co []:=T.Ee.binds fun _ _ _ _ _ _=>Ci fun _ _ _ _=>rfl
theorem Txt.DV:ac K t.qW u5 []:=T.u9.binds fun _ _ _ _ _ _=>gM fun _ _=>rfl
theorem Txt.UR:ac K t.Ai Ek []:=T.Cg.binds fun _ _ _ _ _ _=>fK fun _ _ _=>rfl
theorem Txt.abV:ac K t.AE Ic []:=T.Ch.binds fun _ _ _ _ _ _=>Y7 fun _ _ _ _ _=>rfl
theorem Txt.aey:ac K t.AB Hl []:=T.ap.binds fun _ _ _ _ _ _=>fK fun _ _ _=>rfl
theorem Txt.WG:ac K t.yO ["reader"] []:=T.HA.binds fun _ _ _ _ _ _=>fB fun _=>rfl
theorem Txt.abW:ac K t.Bc ["reader"] []:=T.DZ.binds fun _ _ _ _ _ _=>fB fun _=>rfl
theorem Txt.SB:ac K t.uR xn []:=T.GA.binds fun _ _ _ _ _ _=>gM fun _ _=>rfl
theorem Txt.aeH:ac K t.Aq ["told"] []:=T.Dz.binds fun _ _ _ _ _ _=>fB fun _=>rfl
theorem Txt.afd:ac K t.Bh ["row"] []:=T.Hg.binds fun _ _ _ _ _ _=>fB fun _=>rfl
theorem Txt.O_:ac K t.zf x1 []:=T.im.binds fun _ _ _ _ _ _=>gM fun _ _=>rfl
theorem Txt.VZ:ac K t.xx ["shown"] []:=T.Hf.binds fun _ _ _ _ _ _=>fB fun _=>rfl
theorem Txt.ab3:ac K t.dl kS []:=T.B1.binds fun _ _ _ _ _ _=>fK fun _ _ _=>rfl
theorem Txt.RS:ac K t.Ay sv []:=T.Ge.binds fun _ _ _ _ _ _=>gM fun _ _=>rfl
theorem Txt.ZZ:ac K t.Ax vc []:=T.Ew.binds fun _ _ _ _ _ _=>fK fun _ _ _=>rfl
theorem Txt.ei:ac K t.tY yt []:=T.d5.binds fun _ _ _ _ _ _=>fK fun _ _ _=>rfl
theorem Txt.YC:ac K t.tL qo []:=T.H9.binds fun _ _ _ _ _ _=>fB fun _=>rfl
theorem Txt.Zn:ac K t.yF BR []:=T.BZ.binds fun _ _ _ _ _ _=>gM fun _ _=>rfl
theorem Txt.Vx:ac K t.ui yn []:=T.Hy.binds fun _ _ _ _ _ _=>fK fun _ _ _=>rfl
theorem Txt.acA:ac K t.xo yN []:=T.E1.binds fun _ _ _ _ _ _=>gM fun _ _=>rfl
theorem Txt.QI:ac K t.v' BF []:=T.A8.binds fun _ _ _ _ _ _=>fK fun _ _ _=>rfl
theorem Txt.ED:ac K t.wQ o7 []:=T.ur.binds fun _ _ _ _ _ _=>gM fun _ _=>rfl
theorem Txt.T5:ac K t.yV o7 []:=T.E4.binds fun _ _ _ _ _ _=>gM fun _ _=>rfl
theorem Txt.aeg:ac K t.tN zC []:=T.Dy.binds fun _ _ _ _ _ _=>RC fun _ _ _ _ _ _=>rfl
theorem Txt.PL:ac K t.re rN []:=T.N0.binds fun _ _ _ _ _ _=>fK fun _ _ _=>rfl
theorem Txt.qK:ac K t.Bi ["self"] []:=T.Kt.binds fun _ _ _ _ _ _=>fB fun _=>rfl
theorem Txt.Xo:ac K t.Bk ["self"] []:=T.P1.binds fun _ _ _ _ _ _=>fB fun _=>rfl
theorem Txt.vu:ac K t.BL yE []:=T.Pz.binds fun _ _ _ _ _ _=>gM fun _ _=>rfl
theorem Txt.sb:ac K t.vn yo []:=T.Jb.binds fun _ _ _ _ _ _=>gM fun _ _=>rfl
theorem Txt.mB:ac K t.zW Eu []:=T.NA.binds fun _ _ _ _ _ _=>fK fun _ _ _=>rfl
theorem Txt.uh:ac K t.wq ["self"] []:=T.JK.binds fun _ _ _ _ _ _=>fB fun _=>rfl
theorem Txt.Fx:ac K t.x_ AI []:=T.KC.binds fun _ _ _ _ _ _=>acR fun _ _ _ _ _ _ _ _=>rfl
theorem Txt.VW:ac K t.vZ jk []:=T.Oq.binds fun _ _ _ _ _ _=>yp fun _ _ _ _ _ _ _=>rfl
theorem Txt.abT:ac K t.Av ["self"] []:=T.Pm.binds fun _ _ _ _ _ _=>fB fun _=>rfl
theorem Txt.abX:ac K t.y1 ["self"] []:=T.M0.binds fun _ _ _ _ _ _=>fB fun _=>rfl
theorem Txt.Z8:ac K t.t6 jk []:=T.QL.binds fun _ _ _ _ _ _=>yp fun _ _ _ _ _ _ _=>rfl
theorem Txt.Yi:ac K t.Ad ["self"] []:=T.J0.binds fun _ _ _ _ _ _=>fB fun _=>rfl
theorem Txt.XW:ac K t.ii ["self"] []:=T.Jg.binds fun _ _ _ _ _ _=>fB fun _=>rfl
theorem Txt.ZP:ac K t.wF jk []:=T.OE.binds fun _ _ _ _ _ _=>yp fun _ _ _ _ _ _ _=>rfl
theorem Txt.S6:ac K t.xV ["self"] []:=T.Ks.binds fun _ _ _ _ _ _=>fB fun _=>rfl
theorem Txt.Vf:ac K t.bi ["self"] []:=T.P4.binds fun _ _ _ _ _ _=>fB fun _=>rfl
theorem Txt.adQ:ac K t.wG x5 []:=T.JV.binds fun _ _ _ _ _ _=>fK fun _ _ _=>rfl
theorem Txt.qh:ac K t.BB ["self"] []:=T.JI.binds fun _ _ _ _ _ _=>fB fun _=>rfl
theorem Txt.adU:ac K t.ya nf []:=T.LS.binds fun _ _ _ _ _ _=>gM fun _ _=>rfl
theorem Txt.mz:ac K t.u_ nf []:=T.LD.binds fun _ _ _ _ _ _=>gM fun _ _=>rfl
theorem Txt.aay:ac K t.ug zD []:=T.MN.binds fun _ _ _ _ _ _=>Ci fun _ _ _ _=>rfl
theorem Txt.Yx:ac K t.t7 ["self"] []:=T.Oe.binds fun _ _ _ _ _ _=>fB fun _=>rfl
theorem Txt.lL:ac K t.vA zi []:=T.Ni.binds fun _ _ _ _ _ _=>gM fun _ _=>rfl
theorem Txt.ut:ac K t.z8 EC []:=T.PY.binds fun _ _ _ _ _ _=>Ci fun _ _ _ _=>rfl
theorem Txt.Tm:ac K t.ye Hd []:=T.O2.binds fun _ _ _ _ _ _=>fK fun _ _ _=>rfl
end
noncomputable def cn (ns:List Int) (k m:Int):Int:=
 ((((if 0 < (ns.length:Int) then ns.getD (k % (ns.length:Int)).toNat 0 else 0) % 1000003 + 31 * k * k + 1) * 48271 % 999983 * 7919) % 524287) % m
theorem fe (ns:List Int) (k:Int) {m:Int} (h:0 < m):0 <= cn ns k m:=gQ _ (by omega)
theorem fl (ns:List Int) (k:Int) {m:Int} (h:0 < m):cn ns k m < m:=h1 _ h
noncomputable def ep (K:a') (a:Addr) (ns:List Int):bF:=fun vs H Q _=>∃ k m,vs=[.ref a,.int k,.int m]/\Sc K a ns H/\(0 <= k/\k < 1000000)/\0 < m/\Q (.int (cn ns k m)) H
variable {P:Program} {w:World} {K:a'} {ai:Str->Option Value} {base:Heap} {t:bt}
abbrev bT (P:Program) (base:Heap) {w:World} {K:a'} {ai:Str->Option Value} {t:bt} (_:Txt w K ai t):=cg P w K ai base c7
variable (T:Txt w K ai t)
theorem ot (a:Addr) (ns:List Int) (fQ:ns.length <= 63):bT P base T 1 t.qQ t.tY yt (ep K a ns):=by
 exists T.d5.ok DW,9
 obtain ⟨k,m,rfl,S,⟨h0,ag⟩,hm,q⟩:=h;refine ⟨_,(aE (bI (i:=3) DW.aA (wH (cy zL (hZ jx rfl T.jg i_ (ab (U 0) au)) aJ (cc _)) (cx dm (U 0) (Db gz (U 1) (hZ jx rfl T.jg i_ (ab (U 0) au)))) aJ))
   (aE (bI (i:=4) DW.aA (Db cO (Db cO (Db gz (U 3) aJ) (Db hW (Db hW aJ (U 1)) (U 1))) aJ))
   (aU (bL (Db gz (Db gz (Db hW (Db gz (Db hW (U 4) aJ) aJ) aJ) aJ) (U 2)))))),?_⟩
 nofun;refine ⟨_,.inl S.seq,?_⟩;rw [a8];have HJ:(0:Int) <= k * k/\k * k < 1000000 * 1000000:=⟨Int.mul_nonneg h0 h0,Int.mul_lt_mul' (by omega) ag h0 (by decide)⟩;have fin:∀ i:Int,(0:Int) < 1000003/\oo 31 k/\oo (31 * k) k/\oo (i % 1000003 + 31 * k * k + 1) 48271/\(0:Int) < 999983/\oo ((i % 1000003 + 31 * k * k + 1) * 48271 % 999983) 7919/\(0:Int) < 524287/\0 < m:=by
  intro i;refine ⟨by decide,.inl (by decide),.inr (by omega),.inr (by decide),by decide,.inr (by decide),by decide,hm⟩
 by_cases c:(0:Int) < (ns.length:Int)
 .rw [if_pos (decide_eq_true c)];have aI:0 <= k % (ns.length:Int)/\k % (ns.length:Int) < (ns.length:Int):=⟨gQ _ (by omega),h1 _ c⟩;refine ⟨_,.inl S.seq,by rw [a8];exact c,_,S.seq,?_⟩;rw [a8];have bb:(k % (ns.length:Int)).toNat < ns.length:=by omega
  refine ⟨.int ns[(k % (ns.length:Int)).toNat],?_,_,rfl,?_⟩
  .have e:=dh (xs:=ns.map V.int) (j:=(k % (ns.length:Int)).toNat) (v:=.int ns[(k % (ns.length:Int)).toNat]) (by rw [dS,cv bb] <;> rfl);rwa [l4 aI.1] at e
  .obtain ⟨f1,f2,e_,f4,eP,uS,sU,f8⟩:=fin ns[(k % (ns.length:Int)).toNat];refine ⟨f1,f2,e_,f4,eP,uS,sU,f8,?_⟩;have e:cn ns k m=(((ns[(k % (ns.length:Int)).toNat] % 1000003 + 31 * k * k + 1) * 48271 % 999983 * 7919) % 524287) % m:=by
    unfold cn;rw [if_pos c,iF,cv bb];rfl
   rw [<- e];exact q
 .rw [if_neg (by simpa using c)];obtain ⟨f1,f2,e_,f4,eP,uS,sU,f8⟩:=fin 0;refine ⟨f1,f2,e_,f4,eP,uS,sU,f8,?_⟩;have e:cn ns k m=(((0 % 1000003 + 31 * k * k + 1) * 48271 % 999983 * 7919) % 524287) % m:=by
   unfold cn;rw [if_neg c]
  rw [<- e];exact q
theorem tO {w:Str}:w=aa "" ↔ w.length=0:=by
 constructor
 .rintro rfl;ac_nf
 .intro h;have e:w.cps=#[]:=Array.eq_empty_of_size_eq_zero h;have aD:(aa "").cps=#[]:=by ac_nf
  cases w;cases ar:aa "";rw [ar] at aD;simp only at e aD;rw [e,aD]
noncomputable def p1 (eG:Str) (c:Nat):Bool:=!(lb eG (ea c) 0 eG.length 1).isEmpty
theorem GF (eG:Str) (c:Nat):p1 eG c=decide (c ∈ eG.cps.toList):=acC eG c
noncomputable def made (w eG:Str) (m:Int):Bool:=if w=aa "" then false else if m < (w.length:Int) then false else w.cps.toList.all (p1 eG)
noncomputable def zM:bF:=fun vs H Q _=>∃ w eG m,vs=[.str w,.str eG,.int m]/\w.length <= 1000/\aM H/\Q (.bk (made w eG m)) H
noncomputable def Ya:bF:=fun vs H Q _=>∃ w eG m,vs=[.str w,.str eG,.int m]/\w.length <= 1000/\∀ I,aF H I->Q (.bk (made w eG m)) I
theorem DF:bT P base T 1 t.wM t.xQ uL zM:=by
 refine cg.forget (sp:=Ya) ?_ fun vs H Q E h=>?_
 .exists T.u4.ok aco,9
  obtain ⟨w,eG,m,rfl,ay,q⟩:=h;have ia:w.length <= sizeLine:=cp ay (by decide);refine ⟨_,(aE (cI (gy.pt (zU (cy dE (U 0) bG (cc _)) (ym (cy zL (hZ abU rfl T.jg i_ (ab (U 0) au)) (U 2) (cc _))))) (aU (bL jp)) cM)
   (aU (bL (hZ (sK rfl) rfl T.TU Zf (ab (ig rfl (TA (U 0)) (fU (sc:=br xJ) rfl (by ac_nf)) (N:=["sign","signs"]) (sel:=[none,some 1]) (gf (M:=uL) (by ac_nf)) (eZ.of (fun _ _ _ _=>(b1 (i:=0) (eC (N:=["sign","signs"]) (by ac_nf) rfl))) (fun _ _ _ _=>⟨_,gX,by walk_at "B"⟩) (fun _ _ _ _=>⟨_,(hb afq (U 0) (U 1) (by with_unfolding_all rfl)),by walk_at "B"⟩))) au))))),?_⟩
  nofun;refine cG (decide (w=aa "") || decide (m < (w.length:Int))) (fun Q aN=>?_) (fun af=>?_) (fun af=>?_)
  .nofun;by_cases c:w=aa ""
   .rw [if_pos (decide_eq_true c)];rw [decide_eq_true c,BO] at aN;exact aN
   .rw [if_neg (by simpa using c)];rw [decide_eq_false c,xp] at aN;exact ⟨ia,aN⟩
  .nofun;have e:made w eG m=false:=by
    unfold made;simp only [Az,decide_eq_true_eq] at af;by_cases c:w=aa ""
    .rw [if_pos c]
    .rw [if_neg c,if_pos (af.resolve_left c)]
   have:=q H (aF.refl H);rw [e] at this;exact this
  .nofun;have e:made w eG m=w.cps.toList.all (p1 eG):=by
    unfold made;simp only [Qx,decide_eq_false_iff_not] at af;rw [if_neg af.1,if_neg af.2]
   refine cZ.ace (fun x=>match x with | .str y=>.bk (!(lb eG y 0 eG.length 1).isEmpty) | _=>.b4) (by rw [Oo];exact ia) (fun i x N ao bl=>?_) (fun p aw=>?_)
   .unfold kY at ao;rw [dS] at ao;cases aq:w.cps.toList[i]? with
    | none=>rw [aq] at ao;cases ao
    | some c=>
     rw [aq] at ao;have k7:V.str (ea c)=x:=dZ ao;subst k7;nofun;exact ⟨Sub.name,bl⟩
   .refine ⟨p,rfl,w.cps.toList.map (p1 eG),aH.of ?_,?_⟩
    .rw [aR];unfold kY;rw [lG,lG];rfl
    .have:=q (upd H p (.lst (gb (fun x=>match x with | .str y=>.bk (!(lb eG y 0 eG.length 1).isEmpty) | _=>.b4) (kY w)))) (bN aw);rw [e] at this;rw [List.all_map];exact this
 .obtain ⟨w,eG,m,e,ay,a5,q⟩:=h;exact ⟨a5,w,eG,m,e,ay,fun I bf=>⟨bf,q⟩⟩
noncomputable abbrev m4:Str:=aa "0123456789"
noncomputable def hD (c:Nat):Bool:=decide (48 <= c/\c <= 57)
theorem P7 (c:Nat):p1 m4 c=hD c:=by
 rw [GF,show m4.cps.toList=List.range' 48 10 by ac_nf];unfold hD;refine decide_eq_decide.mpr ?_;rw [List.mem_range'_1];exact and_congr_right fun _=>show c < 58↔c <= 57 from Nat.lt_succ_iff
noncomputable abbrev cs (w:Str):List Nat:=w.cps.toList
theorem ls (w:Str):(cs w).length=w.length:=by simp [cs,lK]
noncomputable def jh (w:Str):Bool:=decide (1 <= (cs w).length) && decide ((cs w).length <= 3) && (cs w).all hD && (decide ((cs w).length <= 1) || decide ((cs w).headD 0 ≠ 48))
noncomputable abbrev val (w:Str):Int:=((Fb (cs w):Nat):Int)
noncomputable def k_ (w:Str) (lo ak:Int):V:=if jh w && !(decide (val w < lo) || decide (ak < val w)) then .int (val w) else .b4
theorem xG {w:Str} {c:Nat}:w=⟨#[c]⟩↔cs w=[c]:=by
 constructor
 .rintro rfl;rfl
 .intro h;cases w with
  | mk a=>
   have e:a=#[c]:=WL.mp h;rw [e]
theorem vy:aa "0"=⟨#[48]⟩:=by ac_nf
theorem J_ (w:Str):made w m4 3=(decide (1 <= (cs w).length) && decide ((cs w).length <= 3) && (cs w).all hD):=by
 unfold made;have e:(p1 m4)=hD:=funext P7;rw [e];by_cases ag:w=aa ""
 .have ar:=tO.mp ag;rw [if_pos ag,ls,ar];rfl
 .have ar:¬ w.length=0:=fun z=>ag (tO.mpr z)
  rw [if_neg ag,ls];by_cases bc:(3:Int) < (w.length:Int)
  .rw [if_pos bc,decide_eq_false (show ¬ w.length <= 3 by omega),Us,q0]
  .rw [if_neg bc,decide_eq_true (show 1 <= w.length by omega),decide_eq_true (show w.length <= 3 by omega)];rfl
theorem N9 {l:List Nat} (h:l.all hD=true):NumText.AllDigits l:=fun c aq=>by
 have:=o1.mp h c aq;simpa [hD] using this
theorem adR (c:Nat):decide ((⟨#[c]⟩:Str)=aa "0")=decide (c=48):=by
 rw [vy];by_cases jI:c=48
 .rw [jI];simp
 .rw [decide_eq_false jI,decide_eq_false];intro z;have e3:=xG.mp z;exact jI (r0 e3).1
theorem afv {w:Str} (h:jh w=true):(1 <= (cs w).length/\(cs w).length <= 3)/\(cs w).all hD=true:=by
 unfold jh at h;simp only [iV,decide_eq_true_eq] at h;exact h.1
noncomputable def K1:bF:=fun vs H Q _=>∃ w,vs=[.str w,.int 3]/\w.length <= 1000/\aM H/\Q (.bk (jh w)) H
noncomputable def Tg:bF:=fun vs H Q _=>∃ w lo ak,vs=[.str w,.int lo,.int ak]/\w.length <= 1000/\aM H/\Q (k_ w lo ak) H
theorem ac3:bT P base T 2 t.rV t.w7 tq K1:=by
 refine bA (DF T) fun vh=>?_;exists T.vU.ok JU,9
 obtain ⟨w,rfl,ay,a5,q⟩:=h;have ia:w.length <= sizeLine:=cp ay (by decide);refine ⟨_,(aE (cI (ou (nj (bq vh aj T.C2 T.u4.bg T.CY (ab (U 0) (ab (hJ rfl T.QM T.Mt) (ab (U 1) au)))))) (aU (bL jp)) cM)
   (aU (bL (E6 (hb dE (U 0) bG (cc _)) (xl (hb jj (cx vK (U 0) aJ) bG (cc _))))))),?_⟩
 refine cG (!made w m4 3) (fun Q aN=>?_) (fun af=>?_) (fun af=>?_)
 ·(nofun; repeat (dsimp only [zM];nofun));exact ⟨ay,a5,aN⟩
 .nofun;have e:jh w=false:=by
   have fv:made w m4 3=false:=by simpa using af
   rw [J_] at fv;unfold jh;rw [fv];rfl
  rw [e] at q;exact q
 .have fv:made w m4 3=true:=by simpa using af
  rw [J_] at fv;rw [eH];dsimp only;refine JZ (.bk (jh w)) (fun Q aN=>?_) ?_
  case refine_2=>exact q
  nofun;have KR:(1 <= (cs w).length/\(cs w).length <= 3)/\(cs w).all hD=true:=by
   simpa only [iV,decide_eq_true_eq] using fv
  obtain ⟨c,r,nX⟩:∃ c r,cs w=c :: r:=by
   cases h:cs w with
   | nil=>rw [h] at KR;exact absurd KR.1.1 (by decide)
   | cons c r=>exact ⟨c,r,rfl⟩
  have ok:jh w=(decide ((cs w).length <= 1) || decide ((cs w).headD 0 ≠ 48)):=by
   unfold jh;rw [fv,tF]
  by_cases dT:w=aa "0"
  .rw [if_pos (decide_eq_true dT)];have e:cs w=[48]:=by rw [dT,vy]
   rw [ok,e] at aN;exact aN
  .rw [if_neg (by simpa using dT)];refine ⟨ia,c,?_,?_⟩
   .have:=dh (xs:=cs w) (j:=0) (v:=c) (by rw [nX];rfl);exact this
   .have aD:decide ((⟨#[c]⟩:Str)=aa "0")=decide (c=48):=by
     rw [vy];by_cases jI:c=48
     .rw [jI];simp
     .rw [decide_eq_false jI,decide_eq_false];intro z;have e3:=xG.mp z;exact jI (r0 e3).1
    rw [aD];have cu:jh w = !decide (c=48):=by
     rw [ok,nX];show (decide ((c :: r).length <= 1) || decide (c ≠ 48))=_;by_cases jI:c=48
     .have aj:r ≠ []:=fun z=>dT (by rw [vy];exact xG.mpr (by rw [nX,z,jI]))
      have:¬ (c :: r).length <= 1:=by
       cases r with
       | nil=>exact absurd rfl aj
       | cons d r=>simp
      rw [decide_eq_false this,jI];rfl
     .rw [decide_eq_true jI,Bool.or_true,decide_eq_false jI];rfl
    rw [<- cu];exact aN
theorem XS:bT P base T 3 t.wL t.AH FK Tg:=by
 refine bA (ac3 T) fun ET=>?_;exists T.FU.ok Qo,9
 obtain ⟨w,lo,ak,rfl,ay,a5,q⟩:=h;refine ⟨_,(aE (cI (ou (nj (bq ET aj T.Ma T.vU.bg T.Ol (ab (U 0) (ab (hJ rfl T.Ts T.Wg) au))))) (aU (bL wV)) cM)
   (aE (bI (i:=3) Qo.aA (ie LK rfl T.KQ L4 (ab (U 0) au)))
   (aE (cI (gy.pt (zU (cy oO (U 3) (U 1) (cc _)) (ym (cy zL (U 3) (U 2) (cc _))))) (aU (bL wV)) cM)
   (aU (bL (U 3)))))),?_⟩
 refine cG (!jh w) (fun Q aN=>?_) (fun af=>?_) (fun af=>?_)
 ·(nofun; repeat (dsimp only [K1];nofun));exact ⟨ay,a5,aN⟩
 .nofun;have fv:jh w=false:=by simpa using af
  have e:k_ w lo ak=.b4:=by unfold k_;rw [fv];rfl
  rw [e] at q;exact q
 .have fv:jh w=true:=by simpa using af
  have bc:(1 <= (cs w).length/\(cs w).length <= 3)/\(cs w).all hD=true:=by
   have:=fv;unfold jh at this;simp only [iV,decide_eq_true_eq] at this;exact this.1
  have aB:=ls w;have IC:intText? w=some (val w):=intText_digits (N9 bc.2) (fun z=>by have ey:cs w=[]:=z;rw [ey] at bc;exact absurd bc.1.1 (by decide)) (by omega);nofun;refine ⟨val w,IC,by omega,?_⟩;refine cG (decide (val w < lo) || decide (ak < val w)) (fun Q aN=>?_) (fun aq=>?_) (fun aq=>?_)
  .nofun;by_cases c:val w < lo
   .rw [if_pos (decide_eq_true c)];rw [decide_eq_true c,BO] at aN;exact aN
   .rw [if_neg (by simpa using c)];rw [decide_eq_false c,xp] at aN;exact aN
  .nofun;have e:k_ w lo ak=.b4:=by unfold k_;rw [fv,aq];rfl
   rw [e] at q;exact q
  .nofun;have e:k_ w lo ak=.int (val w):=by unfold k_;rw [fv,aq];rfl
   rw [e] at q;exact q
theorem Iy {n:Nat} (h:n < 1000):n.log2 < 1920:=by
 by_cases h0:n=0
 .subst h0;decide
 .rw [Lj h0];exact ih h (cp (show 1000 <= 2 ^ 10 by decide) (Uh (by decide) (by decide)))
theorem Zl:∀ n,n < 1000->(lH 10 n).length <= 3:=by ac_nf
theorem Yd {n:Int} (h0:0 <= n) (ag:n <= 999):(aa (toString n)).length <= 3:=by
 have e:=MV n.toNat;rw [l4 h0] at e;have l:(aa (toString n)).length=(aa (toString n)).cps.toList.length:=by simp [lK]
 rw [l,e,a8];exact Zl _ (by omega)
noncomputable abbrev dO:Str:=aa "abcdefghijklmnopqrstuvwxyz"
noncomputable def Q7:bF:=fun vs H Q _=>∃ w,vs=[.str w]/\w.length <= 1000/\aM H/\Q (.bk (made w dO 8)) H
theorem OT:bT P base T 2 t.vO t.Tk ["word"] Q7:=by
 refine bA (DF T) fun vh=>?_;exists T.zq.ok aft,9
 obtain ⟨w,rfl,ay,a5,q⟩:=h;refine ⟨_,(aU (bL (bq vh aj T.C2 T.u4.bg T.CY (ab (U 0) (ab (hJ rfl T.aaw T.RQ) (ab (hJ rfl T.VS T.Vv) au)))))),?_⟩;(nofun; repeat (dsimp only [zM];nofun));exact ⟨ay,a5,q⟩
noncomputable abbrev nl:Str:=aa "\n"
noncomputable abbrev bw:Str:=aa " "
theorem jP:nl=⟨#[10]⟩:=by ac_nf
theorem km:bw=⟨#[32]⟩:=by ac_nf
noncomputable def ht (x:Str):List (List Str):=(gw x nl).map fun r=>gw r bw
theorem PE:∀ {ys:List Str} {y:Str},y ∈ ys->y.length <= (ys.map (·.length)).sum
 | [],_,h=>nomatch h
 | a :: r,y,h=>by
  rw [dP,vd];rcases cP.mp h with rfl | h
  .omega
  .have:=PE h;omega
theorem EB {x y r:Str} (bj:1 <= y.length) (h:r ∈ gw x y):r.length <= x.length + 1:=by
 have ag:=aeM x y bj;have ar:=PE h;omega
theorem DD {x y:Str} (bj:1 <= y.length):(gw x y).length <= x.length + 1:=by
 have ag:=aeM x y bj;omega
theorem aa3 (x y:Str):gw x y ≠ []:=by
 unfold gw;split
 .simp
 .split
  .simp
  .rw [StrLaws.partsBetween_eq];obtain ⟨p,r,e⟩:=StrLaws.partsFrom_ne x y.length 0 (lb x y 0 x.length (x.length + 1));rw [e];simp
noncomputable def S' (jl H:ah) (p:Addr) (rows:List (List Str)):Prop:=∃ qs:List Addr,H p=some (.lst (qs.map V.ref))/\jl p=none/\p ∉ qs/\qs.length=rows.length/\∀ (i:Nat) (q:Addr) (r:List Str),qs[i]? = some q->rows[i]? = some r->H q=some (.lst (ba r))/\jl q=none
noncomputable def C7:bF:=fun vs H Q _=>∃ x,vs=[.str x]/\x.length <= 20000/\aM H/\∀ p I,aF H I->aM I->S' H I p (ht x)->Q (.ref p) I
theorem jJ:nl.length=1:=by ac_nf
theorem hA:bw.length=1:=by ac_nf
theorem I2:bT P base T 1 t.qA t.sQ ["text"] C7:=by
 exists T.Be.ok YQ,9
 obtain ⟨x,rfl,ay,a5,q⟩:=h;have fM:∀ n:Nat,n <= 40000->n <= sizeLine:=fun n h=>cp h (by decide)
 refine ⟨_,(aU (bL (ig rfl (gv (ff iw A6 Ug QG (U 0) (ab bG au))) (fU (sc:=br AU) rfl (by ac_nf)) (N:=["row"]) (sel:=[none]) (gf (M:=["text"]) (by ac_nf)) (eZ.of (fun _ _ _ _=>(b1 (i:=0) (eC (N:=["row"]) (by ac_nf) rfl))) (fun _ _ _ _=>⟨_,gX,by walk_at "B"⟩) (fun _ _ _ _=>⟨_,(ff iw A6 Ug QG (U 0) (ab bG au)),by walk_at "B"⟩))))),?_⟩;nofun;have bj:1 <= nl.length:=by rw [jJ];exact bW _
 have Wz:1 <= bw.length:=by rw [hA];exact bW _
 have aC:=DD (x:=x) bj;have DH:(ba (gw x nl)).length <= sizeLine:=by unfold ba;rw [a8];exact fM _ (by omega)
 refine ⟨by rw [jJ];decide,fM _ (by omega),fM _ (show (gw x nl).length <= 40000 by omega),fun p aw=>⟨⟨_,aH.of aR⟩,?_⟩⟩;refine cZ.aeT (xs:=ba (gw x nl)) (fun v=>match v with | .str r=>.lst (ba (gw r bw)) | _=>.lst []) (aH.of aR) DH (fun v=>by cases v <;> rfl) (fun i v H1 N ao bf e7 bl=>?_) (fun qs H1 bf e7 aB al dQ d8=>?_)
 .unfold ba at ao;rw [dS] at ao;cases aj:(gw x nl)[i]? with
  | none=>rw [aj] at ao;cases ao
  | some r=>
   rw [aj] at ao;have e:=dZ ao;subst e;have hm:=EB bj (c6 aj);have gc:=DD (x:=r) Wz;nofun;exact ⟨Sub.name,by rw [hA];decide,fM _ (by omega),fM _ (show (gw r bw).length <= 40000 by omega),bl⟩
 .have BV:aF H H1:=(bN aw).trans bf;refine q _ _ (BV.gB (BV.free d8)) ((e7 (a5.upd)).upd) ⟨qs,aR,BV.free d8,fun hm=>?_,?_,fun i ef r ag ar=>?_⟩
  .obtain ⟨j,bb,e⟩:=rd hm;have Hj:j < (ba (gw x nl)).length:=by omega
   have:=al j dQ _ (by rw [cv bb,e]) (cv Hj);rw [d8] at this;cases this.1
  .rw [aB];unfold ht ba;rw [a8,a8]
  .unfold ht at ar;rw [dS] at ar;cases aj:(gw x nl)[i]? with
   | none=>rw [aj] at ar;cases ar
   | some ZK=>
    rw [aj] at ar;have e:=dZ ar;subst e;have z:=al i ef (.str ZK) ag (by unfold ba;rw [dS,aj];rfl);refine ⟨by rw [aW (cV z.1 d8)];exact z.1,?_⟩;have:=z.2;by_cases a4:ef=p
    .rw [a4];exact aw
    .rwa [aW a4] at this
structure aG where
 k:Nat
 name:Str
 start:Int
 fin:Int
 off:Int
 near:Int
 least:Int
noncomputable def dK:Nat->Str
 | 0=>aa "car"
 | 1=>aa "foot"
 | _=>aa "tram"
noncomputable def bt.fk (t:bt):Nat->Addr
 | 0=>t.ew
 | 1=>t.et
 | _=>t.es
noncomputable def ky (d:aG):List (Str × V):=[(aa "kind",.str (dK d.k)),(aa "name",.str d.name),(aa "start",.int d.start),(aa "end",.int d.fin),(aa "off",.int d.off),(aa "near",.int d.near),(aa "least",.int d.least)]
noncomputable abbrev mI:List Str:=[aa "kind",aa "name",aa "start",aa "end",aa "off",aa "near",aa "least"]
theorem LF (d:aG):(ky d).map (·.1)=mI:=rfl
noncomputable def eh (t:bt) (H:ah) (p:Addr) (d:aG):Prop:=d.k < 3/\∃ av,H p=some (.ins (t.fk d.k) av (ky d))
theorem eh.same {t:bt} {H I:ah} {p:Addr} {d:aG} (h:eh t H p d) (s:aF H I):eh t I p d:=⟨h.1,h.2.imp fun av e=>s _ _ e⟩
noncomputable def sl (t:bt) (C:Addr):Prop:=∃ k,k < 3/\C=t.fk k
noncomputable def eW (d:aG):Int:=match d.k with | 0=>1 | 1=>0 | _=>2
noncomputable def fj (d:aG):Int:=match d.k with | 0=>2 | 1=>d.off | _=>1
section
variable {w:World} {K:a'} {ai:Str->Option Value} {t:bt}
theorem Txt.n7 (T:Txt w K ai t):∀ k,eg K (t.fk k)
 | 0=>T.Dk
 | 1=>T.BU
 | _ + 2=>T.Ga
theorem Txt.PX (T:Txt w K ai t) {f:Str} (hf:f ∈ mI):∀ k,bB K (t.fk k) f:=by
 intro k;simp only [mI,cP,fw,or_false] at hf;rcases hf with rfl | rfl | rfl | rfl | rfl | rfl | rfl
 .match k with
  | 0=>exact T.Zy
  | 1=>exact T.Wi
  | _ + 2=>exact T.Zs
 .match k with
  | 0=>exact T.adl
  | 1=>exact T.UG
  | _ + 2=>exact T.af1
 .match k with
  | 0=>exact T.Ym
  | 1=>exact T.afp
  | _ + 2=>exact T.Rh
 .match k with
  | 0=>exact T.QY
  | 1=>exact T.aeR
  | _ + 2=>exact T.ZD
 .match k with
  | 0=>exact T.VC
  | 1=>exact T.Xm
  | _ + 2=>exact T.aga
 .match k with
  | 0=>exact T.afI
  | 1=>exact T.ac0
  | _ + 2=>exact T.afA
 .match k with
  | 0=>exact T.afX
  | 1=>exact T.afQ
  | _ + 2=>exact T.agk
theorem Txt.cw_inj (T:Txt w K ai t) {j k:Nat} (bb:j < 3) (aI:k < 3) (e:t.fk j=t.fk k):j=k:=by
 match j,k,bb,aI with
 | 0,0,_,_=>rfl
 | 0,1,_,_=>exact absurd e T.Cl
 | 0,2,_,_=>exact absurd e T.QE
 | 1,0,_,_=>exact absurd e.symm T.Cl
 | 1,1,_,_=>rfl
 | 1,2,_,_=>exact absurd e T.NV
 | 2,0,_,_=>exact absurd e.symm T.QE
 | 2,1,_,_=>exact absurd e.symm T.NV
 | 2,2,_,_=>rfl
 | j + 3,_,h,_=>omega
 | _,k + 3,_,h=>omega
theorem eh.fld (T:Txt w K ai t) {H:ah} {p:Addr} {d:aG} (h:eh t H p d) {f:Str} {v:V} (i:Nat) (ak:mI.findIdx? (· == f)=some i) (aK:(ky d)[i]? = some (f,v)):hB K H p f v:=by
 obtain ⟨_,av,e⟩:=h;have hm:f ∈ mI:=by
  obtain ⟨cL,ag,_⟩:=List.findIdx?_eq_some_iff_getElem.mp ak;have:mI[i]=f:=by simpa using ag
  rw [<- this];exact tB cL
 exact ⟨_,av,_,e,T.n7 _,T.PX hm _,jQ mI i (LF d) ak aK⟩
theorem eh.zt (T:Txt w K ai t) {H:ah} {p:Addr} {d:aG} (h:eh t H p d):hB K H p (aa "name") (.str d.name):=h.fld T 1 (by ac_nf) rfl
theorem eh.rR (T:Txt w K ai t) {H:ah} {p:Addr} {d:aG} (h:eh t H p d):hB K H p (aa "start") (.int d.start):=h.fld T 2 (by ac_nf) rfl
theorem eh.oU (T:Txt w K ai t) {H:ah} {p:Addr} {d:aG} (h:eh t H p d):hB K H p (aa "end") (.int d.fin):=h.fld T 3 (by ac_nf) rfl
theorem eh.JG (T:Txt w K ai t) {H:ah} {p:Addr} {d:aG} (h:eh t H p d):hB K H p (aa "off") (.int d.off):=h.fld T 4 (by ac_nf) rfl
theorem eh.ab' (T:Txt w K ai t) {H:ah} {p:Addr} {d:aG} (h:eh t H p d):hB K H p (aa "near") (.int d.near):=h.fld T 5 (by ac_nf) rfl
theorem eh.YY (T:Txt w K ai t) {H:ah} {p:Addr} {d:aG} (h:eh t H p d):hB K H p (aa "least") (.int d.least):=h.fld T 6 (by ac_nf) rfl
end
noncomputable def XK (t:bt):bF:=fun vs H Q _=>∃ (p av:Addr) (d:aG),vs=[.ref p,.str (dK d.k),.str d.name,.int d.start,.int d.fin,.int d.off,.int d.near,.int d.least]/\d.k < 3/\H p=some (.ins (t.fk d.k) av [])/\Q .b4 (upd H p (.ins (t.fk d.k) av (ky d)))
noncomputable def sj (t:bt) (k:Nat):bF:=fun vs H Q _=>∃ (p av:Addr) (d:aG),vs=[.ref p,.str d.name,.int d.start,.int d.fin,.int d.off,.int d.near,.int d.least]/\d.k=k/\H p=some (.ins (t.fk d.k) av [])/\Q .b4 (upd H p (.ins (t.fk d.k) av (ky d)))
theorem IP:bT P base T 1 t.rg t.x_ AI (XK t):=by
 exists T.KC.ok aeb,9
 obtain ⟨p,av,d,rfl,aI,aw,q⟩:=h;refine ⟨_,(aE (gR (U 0) (U 1) rfl)
   (aE (gR (U 0) (U 2) rfl)
   (aE (gR (U 0) (U 3) rfl)
   (aE (gR (U 0) (U 4) rfl)
   (aE (gR (U 0) (U 5) rfl)
   (aE (gR (U 0) (U 6) rfl)
   (aU (gR (U 0) (U 7) rfl)))))))),?_⟩
 nofun;have na:∀ {f:Str},f ∈ mI->bB K (t.fk d.k) f:=fun hf=>T.PX hf d.k
 refine ⟨_,_,_,aw,T.n7 _,na (by ac_nf),by decide,?_⟩;refine ⟨_,_,_,aR,T.n7 _,na (by ac_nf),eO (n:=999) (by decide),?_⟩;refine ⟨_,_,_,aR,T.n7 _,na (by ac_nf),eO (n:=999) (eO (n:=998) (by decide)),?_⟩;refine ⟨_,_,_,aR,T.n7 _,na (by ac_nf),eO (n:=999) (eO (n:=998) (eO (n:=997) (by decide))),?_⟩;refine ⟨_,_,_,aR,T.n7 _,na (by ac_nf),eO (n:=999) (eO (n:=998) (eO (n:=997) (eO (n:=996) (by decide)))),?_⟩;refine ⟨_,_,_,aR,T.n7 _,na (by ac_nf),eO (n:=999) (eO (n:=998) (eO (n:=997) (eO (n:=996) (eO (n:=995) (by decide))))),?_⟩;refine ⟨_,_,_,aR,T.n7 _,na (by ac_nf),eO (n:=999) (eO (n:=998) (eO (n:=997) (eO (n:=996) (eO (n:=995) (eO (n:=994) (by decide)))))),?_⟩;simp only [q3];rw [show dk (aa "kind") (V.str (dK d.k)) ([]:List (Str × V))=[(aa "kind",V.str (dK d.k))] from ha [] rfl (by ac_nf),
  show dk (aa "name") (V.str d.name) ([(aa "kind",V.str (dK d.k))]:List (Str × V))=[(aa "kind",V.str (dK d.k)),(aa "name",V.str d.name)] from ha [aa "kind"] rfl (by ac_nf),
  show dk (aa "start") (V.int d.start) ([(aa "kind",V.str (dK d.k)),(aa "name",V.str d.name)]:List (Str × V))=[(aa "kind",V.str (dK d.k)),(aa "name",V.str d.name),(aa "start",V.int d.start)] from ha [aa "kind",aa "name"] rfl (by ac_nf),
  show dk (aa "end") (V.int d.fin) ([(aa "kind",V.str (dK d.k)),(aa "name",V.str d.name),(aa "start",V.int d.start)]:List (Str × V))=[(aa "kind",V.str (dK d.k)),(aa "name",V.str d.name),(aa "start",V.int d.start),(aa "end",V.int d.fin)] from ha [aa "kind",aa "name",aa "start"] rfl (by ac_nf),
  show dk (aa "off") (V.int d.off) ([(aa "kind",V.str (dK d.k)),(aa "name",V.str d.name),(aa "start",V.int d.start),(aa "end",V.int d.fin)]:List (Str × V))=[(aa "kind",V.str (dK d.k)),(aa "name",V.str d.name),(aa "start",V.int d.start),(aa "end",V.int d.fin),(aa "off",V.int d.off)] from ha [aa "kind",aa "name",aa "start",aa "end"] rfl (by ac_nf),
  show dk (aa "near") (V.int d.near) ([(aa "kind",V.str (dK d.k)),(aa "name",V.str d.name),(aa "start",V.int d.start),(aa "end",V.int d.fin),(aa "off",V.int d.off)]:List (Str × V))=[(aa "kind",V.str (dK d.k)),(aa "name",V.str d.name),(aa "start",V.int d.start),(aa "end",V.int d.fin),(aa "off",V.int d.off),(aa "near",V.int d.near)] from ha [aa "kind",aa "name",aa "start",aa "end",aa "off"] rfl (by ac_nf),
  show dk (aa "least") (V.int d.least) ([(aa "kind",V.str (dK d.k)),(aa "name",V.str d.name),(aa "start",V.int d.start),(aa "end",V.int d.fin),(aa "off",V.int d.off),(aa "near",V.int d.near)]:List (Str × V))=[(aa "kind",V.str (dK d.k)),(aa "name",V.str d.name),(aa "start",V.int d.start),(aa "end",V.int d.fin),(aa "off",V.int d.off),(aa "near",V.int d.near),(aa "least",V.int d.least)] from ha [aa "kind",aa "name",aa "start",aa "end",aa "off",aa "near"] rfl (by ac_nf)]
 exact q
theorem Tq:bT P base T 2 t.pV t.vZ jk (sj t 0):=by
 refine bA (IP T) fun w_=>?_;exists T.Oq.ok TO,9
 obtain ⟨p,av,d,rfl,aI,aw,q⟩:=h;refine ⟨_,(aU (d_ (Ih rfl T.Dd T.Iq w_ aj T.Fx .nil b0 (ab (U 0) (ab bG (ab (U 1) (ab (U 2) (ab (U 3) (ab (U 4) (ab (U 5) (ab (U 6) au))))))))))),?_⟩;nofun;exact ⟨p,av,d,by rw [aI];rfl,by omega,aw,q⟩
theorem aaJ:bT P base T 2 t.pz t.t6 jk (sj t 1):=by
 refine bA (IP T) fun w_=>?_;exists T.QL.ok Xk,9
 obtain ⟨p,av,d,rfl,aI,aw,q⟩:=h;refine ⟨_,(aU (d_ (Ih rfl T.Dd T.Iq w_ aj T.Fx .nil b0 (ab (U 0) (ab bG (ab (U 1) (ab (U 2) (ab (U 3) (ab (U 4) (ab (U 5) (ab (U 6) au))))))))))),?_⟩;nofun;exact ⟨p,av,d,by rw [aI];rfl,by omega,aw,q⟩
theorem ae4:bT P base T 2 t.pe t.wF jk (sj t 2):=by
 refine bA (IP T) fun w_=>?_;exists T.OE.ok RH,9
 obtain ⟨p,av,d,rfl,aI,aw,q⟩:=h;refine ⟨_,(aU (d_ (Ih rfl T.Dd T.Iq w_ aj T.Fx .nil b0 (ab (U 0) (ab bG (ab (U 1) (ab (U 2) (ab (U 3) (ab (U 4) (ab (U 5) (ab (U 6) au))))))))))),?_⟩;nofun;exact ⟨p,av,d,by rw [aI];rfl,by omega,aw,q⟩
noncomputable def rB (t:bt) (C:Addr):bF:=fun vs H Q _=>∃ p d,vs=[.ref p]/\eh t H p d/\C=t.fk d.k/\Q (.int (eW d)) H
noncomputable def On (t:bt) (C:Addr):bF:=fun vs H Q _=>∃ p d,vs=[.ref p]/\eh t H p d/\C=t.fk d.k/\Q (.int (fj d)) H
theorem Ur:bT P base T 1 t.sk t.Av ["self"] (rB t (t.fk 0)):=by
 exists T.Pm.ok W3,9
 obtain ⟨p,d,rfl,W,cX,q⟩:=h;have aI:=(T.cw_inj (by decide) W.1 cX).symm;refine ⟨_,(aU (bL aJ)),?_⟩;rw [show eW d=1 by unfold eW;simp only [aI]] at q;nofun;exact q
theorem Z1:bT P base T 1 t.s7 t.Ad ["self"] (rB t (t.fk 1)):=by
 exists T.J0.ok aab,9
 obtain ⟨p,d,rfl,W,cX,q⟩:=h;have aI:=(T.cw_inj (by decide) W.1 cX).symm;refine ⟨_,(aU (bL aJ)),?_⟩;rw [show eW d=0 by unfold eW;simp only [aI]] at q;nofun;exact q
theorem tt:bT P base T 1 t.sX t.xV ["self"] (rB t (t.fk 2)):=by
 exists T.Ks.ok abA,9
 obtain ⟨p,d,rfl,W,cX,q⟩:=h;have aI:=(T.cw_inj (by decide) W.1 cX).symm;refine ⟨_,(aU (bL aJ)),?_⟩;rw [show eW d=2 by unfold eW;simp only [aI]] at q;nofun;exact q
theorem I7 (T:Txt w K ai t):nx P w K ai base c7 1 (sl t) "ready" ["self"] (rB t):=by
 refine ⟨fun C cX=>?_⟩;obtain ⟨k,aI,rfl⟩:=cX
 match k,aI with
 | 0,_=>exact ⟨_,_,T.Dk,T.XX,Ur T,T.abT⟩
 | 1,_=>exact ⟨_,_,T.BU,T.We,Z1 T,T.Yi⟩
 | 2,_=>exact ⟨_,_,T.Ga,T.agm,tt T,T.S6⟩
theorem V1:bT P base T 1 t.so t.y1 ["self"] (On t (t.fk 0)):=by
 exists T.M0.ok abM,9
 obtain ⟨p,d,rfl,W,cX,q⟩:=h;have aI:=(T.cw_inj (by decide) W.1 cX).symm;refine ⟨_,(aU (bL aJ)),?_⟩;rw [show fj d=2 by unfold fj;simp only [aI]] at q;nofun;exact q
theorem ae6:bT P base T 1 t.wf t.ii ["self"] (On t (t.fk 1)):=by
 exists T.Jg.ok Rk,9
 obtain ⟨p,d,rfl,W,cX,q⟩:=h;have aI:=(T.cw_inj (by decide) W.1 cX).symm;refine ⟨_,(aU (bL (c0 (U 0) rfl))),?_⟩;rw [show fj d=d.off by unfold fj;simp only [aI]] at q;nofun;exact ⟨_,W.JG T,q⟩
theorem adM:bT P base T 1 t.si t.bi ["self"] (On t (t.fk 2)):=by
 exists T.P4.ok Yy,9
 obtain ⟨p,d,rfl,W,cX,q⟩:=h;have aI:=(T.cw_inj (by decide) W.1 cX).symm;refine ⟨_,(aU (bL aJ)),?_⟩;rw [show fj d=1 by unfold fj;simp only [aI]] at q;nofun;exact q
theorem LN (T:Txt w K ai t):nx P w K ai base c7 1 (sl t) "fade" ["self"] (On t):=by
 refine ⟨fun C cX=>?_⟩;obtain ⟨k,aI,rfl⟩:=cX
 match k,aI with
 | 0,_=>exact ⟨_,_,T.Dk,T.ad7,V1 T,T.abX⟩
 | 1,_=>exact ⟨_,_,T.BU,T.ad9,ae6 T,T.XW⟩
 | 2,_=>exact ⟨_,_,T.Ga,T.VR,adM T,T.Vf⟩
noncomputable def f7 (c:Nat):List (List Nat)->List Nat
 | []=>[]
 | [a]=>a
 | a :: b :: r=>a ++ c :: f7 c (b :: r)
theorem KZ {c:Nat}:∀ {a b X Y:List Nat},c ∉ a->c ∉ b->a ++ c :: X=b ++ c :: Y->a=b/\X=Y
 | [],[],X,Y,_,_,h=>⟨rfl,(r0 h).2⟩
 | [],d :: b,X,Y,_,af,h=>absurd (r0 h).1 (fun z=>af (by simp [<- z]))
 | d :: a,[],X,Y,aS,_,h=>absurd (r0 h).1 (fun z=>aS (by simp [z]))
 | d :: a,e :: b,X,Y,aS,af,h=>by
  obtain ⟨ag,ar⟩:=r0 h;obtain ⟨ax,aD⟩:=KZ (fun z=>aS (hP _ z)) (fun z=>af (hP _ z)) ar;exact ⟨by rw [ag,ax],aD⟩
theorem QF {c:Nat}:∀ {ps qs:List (List Nat)},(∀ p ∈ ps,c ∉ p)->(∀ q ∈ qs,c ∉ q)->ps ≠ []->qs ≠ []->f7 c ps=f7 c qs->ps=qs
 | [a],[b],_,_,_,_,h=>by rw [show a=b from h]
 | [a],b :: sa :: r,aS,_,_,_,h=>absurd (show c ∈ a by rw [show a=b ++ c :: f7 c (sa :: r) from h];simp) (aS a (by simp))
 | a :: hq :: r,[b],_,af,_,_,h=>absurd (show c ∈ b by rw [show b=a ++ c :: f7 c (hq :: r) from h.symm];simp) (af b (by simp))
 | a :: hq :: r,b :: sa :: s,aS,af,_,_,h=>by
  obtain ⟨ax,aD⟩:=KZ (aS a (by simp)) (af b (by simp)) (show a ++ c :: f7 c (hq :: r)=b ++ c :: f7 c (sa :: s) from h);rw [ax,QF (fun p aw=>aS p (hP _ aw)) (fun q a4=>af q (hP _ a4)) (by simp) (by simp) aD]
 | [],_,_,_,h,_,_=>absurd rfl h
 | _ :: _,[],_,_,_,h,_=>absurd rfl h
theorem Nd {c d:Nat}:∀ {ps:List (List Nat)},d ∈ f7 c ps->d=c\/∃ p ∈ ps,d ∈ p
 | [],h=>nomatch h
 | [a],h=>.inr ⟨a,by simp,h⟩
 | a :: b :: r,h=>by
  rcases r7.mp (show d ∈ a ++ c :: f7 c (b :: r) from h) with h | h
  .exact .inr ⟨a,by simp,h⟩
  .rcases cP.mp h with h | h
   .exact .inl h
   .rcases Nd h with h | ⟨p,aw,h⟩
    .exact .inl h
    .exact .inr ⟨p,hP _ aw,h⟩
theorem kf (c:Nat):∀ ys:List Str,(b3 ⟨#[c]⟩ ys).cps.toList=f7 c (ys.map (·.cps.toList))
 | []=>rfl
 | [a]=>rfl
 | a :: b :: r=>by
  show (a ++ ⟨#[c]⟩ ++ b3 ⟨#[c]⟩ (b :: r)).cps.toList=_;rw [gI,gZ,gI,gZ,kf c (b :: r)];simp [f7]
theorem js {x y:Str} (h:x.cps.toList=y.cps.toList):x=y:=by
 cases x;cases y;exact congrArg Str.mk (WL.mp h)
theorem Bq {c:Nat} {ys:List Str} (a0:ys ≠ []) (hf:∀ y ∈ ys,c ∉ y.cps.toList):gw (b3 ⟨#[c]⟩ ys) ⟨#[c]⟩=ys:=by
 have e:=congrArg (·.cps.toList) (StrLaws.join_split (b3 ⟨#[c]⟩ ys) ⟨#[c]⟩);simp only [kf] at e;have aD:=QF (c:=c) (ps:=(gw (b3 ⟨#[c]⟩ ys) ⟨#[c]⟩).map (·.cps.toList)) (qs:=ys.map (·.cps.toList)) (fun p aw=>by
  obtain ⟨y,bj,rfl⟩:=dN.mp aw;exact StrLaws.split_free _ c y bj) (fun p aw=>by
  obtain ⟨y,bj,rfl⟩:=dN.mp aw;exact hf y bj) (by simp [aa3]) (by simpa using a0) e
 exact (List.map_inj_right fun x y h=>js h).mp aD
noncomputable abbrev num (v:Int):Str:=aa (toString v)
theorem acb:∀ n,n < 1000->(decide (1 <= ((lH 10 n).map mh).length) && decide (((lH 10 n).map mh).length <= 3) && ((lH 10 n).map mh).all hD && (decide (((lH 10 n).map mh).length <= 1) || decide (((lH 10 n).map mh).headD 0 ≠ 48)) &&
  decide (Fb ((lH 10 n).map mh)=n))=true:=by ac_nf
theorem x9 {v:Int} (h0:0 <= v) (ag:v < 1000):jh (num v)=true/\val (num v)=v:=by
 have e:=MV v.toNat;rw [l4 h0] at e;have a:=acb v.toNat (by omega);rw [<- e,iV,decide_eq_true_eq] at a;exact ⟨a.1,by show ((Fb (cs (num v)):Nat):Int)=v;rw [a.2];omega⟩
theorem l8 {v lo ak:Int} (h0:0 <= v) (ag:v < 1000) (aB:lo <= v) (e':v <= ak):k_ (num v) lo ak=.int v:=by
 obtain ⟨a,b⟩:=x9 h0 ag;unfold k_;rw [a,b,decide_eq_false (by omega:¬ v < lo),decide_eq_false (by omega:¬ ak < v)];rfl
theorem adK {u v:Int} (h0:0 <= u) (ag:u < 1000) (ar:0 <= v) (bc:v < 1000) (e:num u=num v):u=v:=by
 rw [<- (x9 h0 ag).2,e,(x9 ar bc).2]
theorem M' {v:Int} (h0:0 <= v) (ag:v < 1000):∀ c ∈ (num v).cps.toList,48 <= c/\c <= 57:=fun c aq=>by
 have:=o1.mp (afv (x9 h0 ag).1).2 c aq;simpa [hD] using this
theorem adY:∀ c ∈ dO.cps.toList,97 <= c/\c <= 122:=by ac_nf
theorem ad_:∀ k,k < 26->97 + k ∈ dO.cps.toList:=by ac_nf
theorem bd {x:Str} (h:made x dO 8=true):(1 <= x.length/\x.length <= 8)/\∀ c ∈ x.cps.toList,97 <= c/\c <= 122:=by
 unfold made at h;split at h
 .cases h
 .rename_i ag;split at h
  .cases h
  .rename_i ar;have bc:¬ x.length=0:=fun z=>ag (tO.mpr z)
   refine ⟨by omega,fun c aq=>?_⟩;have:=o1.mp h c aq;rw [GF] at this;exact adY c (of_decide_eq_true this)
theorem Ig {x:Str} (h0:1 <= x.length) (ag:x.length <= 8) (h:∀ c ∈ x.cps.toList,97 <= c/\c <= 122):made x dO 8=true:=by
 unfold made;rw [if_neg (fun z=>by have:=tO.mp z;omega),if_neg (by omega)];refine o1.mpr fun c aq=>?_
 have:=h c aq;rw [GF];have e:=ad_ (c - 97) (by omega);rw [show 97 + (c - 97)=c by omega] at e;exact decide_eq_true e
structure m9 (n:Int) (d:aG):Prop where
 k:d.k < 3
 nm:made d.name dO 8=true
 st:0 <= d.start/\d.start < n
 e5:0 <= d.fin/\d.fin < n
 ne:d.start ≠ d.fin
 of:0 <= d.off/\d.off <= 30
 Bo:0 <= d.near/\d.near <= 30
 le:1 <= d.least/\d.least <= 60
structure ke (n:Int) (ds:List aG):Prop where
 nn:2 <= n/\n <= 99
 ln:1 <= ds.length/\ds.length <= 12
 al:∀ d ∈ ds,m9 n d
 aA:(ds.map (·.name)).Nodup
noncomputable def ki (d:aG):List Str:=[dK d.k,d.name,num d.start,num d.fin,num d.off,num d.near,num d.least]
noncomputable def f3 (n:Int) (ds:List aG):List (List Str):=[aa "ring",num n] :: ds.map ki
noncomputable def e4 (n:Int) (ds:List aG):Str:=b3 nl ((f3 n ds).map (b3 bw))
noncomputable def nT (x:Str):Prop:=x.length <= 8/\(32:Nat) ∉ x.cps.toList/\(10:Nat) ∉ x.cps.toList
theorem MR (k:Nat):nT (dK k):=by
 match k with
 | 0=>exact ⟨by ac_nf,by ac_nf,by ac_nf⟩
 | 1=>exact ⟨by ac_nf,by ac_nf,by ac_nf⟩
 | _ + 2=>exact ⟨show (aa "tram").length <= 8 by ac_nf,show (32:Nat) ∉ (aa "tram").cps.toList by ac_nf,show (10:Nat) ∉ (aa "tram").cps.toList by ac_nf⟩
theorem i' {v:Int} (h0:0 <= v) (ag:v < 1000):nT (num v):=
 ⟨cp (Yd h0 (by omega)) (by decide),fun z=>by have:=M' h0 ag _ z;omega,fun z=>by have:=M' h0 ag _ z;omega⟩
theorem F4 {x:Str} (h:made x dO 8=true):nT x:=
 ⟨(bd h).1.2,fun z=>by have:=(bd h).2 _ z;omega,fun z=>by have:=(bd h).2 _ z;omega⟩
theorem m9.plain {n:Int} {d:aG} (h:m9 n d) (a0:n <= 99):∀ x ∈ ki d,nT x:=fun x ao=>by
 have ag:=h.st;have ar:=h.e5;have bc:=h.of;have cb:=h.Bo;have ej:=h.le;simp only [ki,cP,fw,or_false] at ao;rcases ao with rfl | rfl | rfl | rfl | rfl | rfl | rfl
 .exact MR _
 .exact F4 h.nm
 .exact i' (by omega) (by omega)
 .exact i' (by omega) (by omega)
 .exact i' (by omega) (by omega)
 .exact i' (by omega) (by omega)
 .exact i' (by omega) (by omega)
theorem ke.plain {n:Int} {ds:List aG} (h:ke n ds):∀ r ∈ f3 n ds,∀ x ∈ r,nT x:=fun r aj x ao=>by
 have a0:=h.nn;rcases cP.mp aj with rfl | aj
 .simp only [cP,fw,or_false] at ao;rcases ao with rfl | rfl
  .exact ⟨by ac_nf,by ac_nf,by ac_nf⟩
  .exact i' (by omega) (by omega)
 .obtain ⟨d,hd,rfl⟩:=dN.mp aj;exact (h.al d hd).plain a0.2 x ao
theorem OP {rs:List (List Str)} (h0:rs ≠ []) (ag:∀ r ∈ rs,r ≠ []) (ar:∀ r ∈ rs,∀ x ∈ r,nT x):ht (b3 nl (rs.map (b3 bw)))=rs:=by
 unfold ht;rw [jP,km];rw [Bq (by simpa using h0) (fun y bj=>by
  obtain ⟨r,aj,rfl⟩:=dN.mp bj;rw [kf];intro z;rcases Nd z with z | ⟨p,aw,z⟩
  .cases z
  .obtain ⟨x,ao,rfl⟩:=dN.mp aw;exact (ar r aj x ao).2.2 z)]
 rw [lG];have:∀ r ∈ rs,((fun r=>gw r ⟨#[32]⟩) ∘ b3 ⟨#[32]⟩) r=r:=fun r aj=>Bq (ag r aj) fun x ao=>(ar r aj x ao).2.1
 exact (aeN this).trans (List.map_id rs)
theorem W2 {n:Int} {ds:List aG} (h:ke n ds):ht (e4 n ds)=f3 n ds:=OP (by simp [f3]) (fun r aj=>by
 rcases cP.mp aj with rfl | aj
 .simp
 .obtain ⟨d,hd,rfl⟩:=dN.mp aj;simp [ki]) h.plain
theorem lE (sep:Str) (B:Nat):∀ ys:List Str,(∀ y ∈ ys,y.length <= B)->(b3 sep ys).length <= ys.length * (B + sep.length)
 | [],_=>by show (lp).length <= _;exact gi _
 | [a],h=>by
  have:=h a (by simp);show a.length <= _;simp only [fp,AN];omega
 | a :: b :: r,h=>by
  have ag:=h a (by simp);have ar:=lE sep B (b :: r) fun y bj=>h y (hP _ bj)
  show (a ++ sep ++ b3 sep (b :: r)).length <= _;rw [Ix,Ix,fp,ac4];omega
theorem abl {n:Int} {ds:List aG} (h:ke n ds):(e4 n ds).length <= 1000:=by
 have ag:∀ y ∈ (f3 n ds).map (b3 bw),y.length <= 63:=fun y bj=>by
  obtain ⟨r,aj,rfl⟩:=dN.mp bj;have:=lE bw 8 r fun x ao=>(h.plain r aj x ao).1
  rw [hA] at this;have aB:r.length <= 7:=by
   rcases cP.mp aj with rfl | aj
   .simp
   .obtain ⟨d,hd,rfl⟩:=dN.mp aj;simp [ki]
  omega
 have ar:=lE nl 63 _ ag;rw [jJ] at ar;have bc:((f3 n ds).map (b3 bw)).length <= 13:=by
  have:=h.ln;simp [f3];omega
 unfold e4;omega
noncomputable abbrev nk:List Str:=[aa "row",aa "told",aa "place"]
noncomputable def jG (row:Int) (aZ:Addr) (pl:Int):List (Str × V):=[(aa "row",.int row),(aa "told",.ref aZ),(aa "place",.int pl)]
theorem v7 (row:Int) (aZ:Addr) (pl:Int):(jG row aZ pl).map (·.1)=nk:=rfl
theorem Xn (row:Int) (aZ:Addr) (pl v:Int):dk (aa "place") (.int v) (jG row aZ pl)=jG row aZ v:=by
 unfold jG;simp only [dk];rw [if_neg (by ac_nf),if_neg (by ac_nf)];rfl
noncomputable def b9 (t:bt) (H:ah) (p:Addr) (row:Int) (ws:List Str) (pl:Nat):Prop:=
 (ws.length <= 1000/\∀ x ∈ ws,x.length <= 1000)/\∃ av aZ,H p=some (.ins t.dR av (jG row aZ pl))/\H aZ=some (.lst (ba ws))
noncomputable def cD (p:Addr) (H I:ah):Prop:=∀ b u,b ≠ p->H b=some u->I b=some u
theorem cD.trans {p:Addr} {H H1 az:ah} (a:cD p H H1) (b:cD p H1 az):cD p H az:=fun c u n e=>b c u n (a c u n e)
theorem cD.of {p:Addr} {H H1:ah} (a:aF H H1):cD p H H1:=fun c u _ e=>a c u e
theorem cD.put {p:Addr} {H:ah} {o:dY}:cD p H (upd H p o):=fun c u n e=>by rw [aW n];exact e
theorem iJ (ws:List Str):(ba ws).length=ws.length:=by unfold ba;rw [a8]
theorem Ao {ws:List Str} {i:Nat} {x:Str} (h:ws[i]? = some x):(ba ws)[i]? = some (.str x):=by unfold ba;rw [dS,h];rfl
theorem Na (ws:List Str):(ba ws).all kt=true:=by unfold ba;simp [kt]
theorem rW (x:Str) (xs:List Str):mM (.str x) (ba xs)=decide (x ∈ xs):=by
 unfold mM ba;rw [List.any_map,nP];simp only [List.any_eq_true,Function.comp,la,beq_iff_eq,decide_eq_true_eq];constructor
 .rintro ⟨y,bj,rfl⟩;exact bj
 .intro h;exact ⟨x,h,rfl⟩
section
variable {w:World} {K:a'} {ai:Str->Option Value} {t:bt} {H I:ah} {p:Addr} {row:Int} {ws:List Str} {pl:Nat}
theorem b9.same (h:b9 t H p row ws pl) (s:aF H I):b9 t I p row ws pl:=by
 obtain ⟨ay,av,aZ,ax,aD⟩:=h;exact ⟨ay,av,aZ,s _ _ ax,s _ _ aD⟩
theorem b9.jH {q:Addr} (h:b9 t H p row ws pl) (s:cD q H I) (n:p ≠ q) (k:∃ C av a_,H q=some (.ins C av a_)):b9 t I p row ws pl:=by
 obtain ⟨ay,av,aZ,ax,aD⟩:=h;obtain ⟨C,AL,a_,cu⟩:=k;exact ⟨ay,av,aZ,s _ _ n ax,s _ _ (dH aD cu (by intro z;cases z)) aD⟩
theorem b9.ins (h:b9 t H p row ws pl):∃ C av a_,H p=some (.ins C av a_):=by
 obtain ⟨ay,av,aZ,ax,aD⟩:=h;exact ⟨_,_,_,ax⟩
theorem b9.no {m:Str} (row:Int) (aZ:Addr) (pl:Int) (h:nk.contains m=false):(jG row aZ pl).lookup m=none:=jK nk (v7 ..) h
theorem CO (T:Txt w K ai t) {av aZ:Addr} {pl:Int} (e:H p=some (.ins t.dR av (jG row aZ pl))):hB K H p (aa "place") (.int pl):=
 ⟨_,av,_,e,T.dJ,T.Cz,jQ nk 2 (v7 ..) (by ac_nf) rfl⟩
theorem FC (T:Txt w K ai t) {av aZ:Addr} {pl:Int} (e:H p=some (.ins t.dR av (jG row aZ pl))):hB K H p (aa "told") (.ref aZ):=
 ⟨_,av,_,e,T.dJ,T.K5,jQ nk 1 (v7 ..) (by ac_nf) rfl⟩
end
noncomputable def Fy (t:bt):bF:=fun vs H Q _=>∃ (p av aZ:Addr) (row:Int),vs=[.ref p,.int row,.ref aZ]/\H p=some (.ins t.dR av [])/\Q .b4 (upd H p (.ins t.dR av (jG row aZ 0)))
noncomputable def aar (t:bt):bF:=fun vs H Q _=>∃ p row ws pl,vs=[.ref p]/\b9 t H p row ws pl/\pl <= ws.length/\Q (.str (ws.getD pl (aa ""))) H
noncomputable def Z_ (t:bt):bF:=fun vs H Q _=>∃ p row ws pl,vs=[.ref p]/\b9 t H p row ws pl/\Q (.bk (decide (pl < ws.length))) H
noncomputable def sD (t:bt) (H:ah) (p:Addr) (row:Int) (ws:List Str) (pl:Nat) (R:ah->Prop):Prop:=∀ I,cD p H I->(aM H->aM I)->b9 t I p row ws pl->R I
noncomputable def Sg (t:bt):bF:=fun vs H Q _=>∃ p row ws pl,vs=[.ref p,.bk true]/\b9 t H p row ws pl/\sD t H p row ws (pl + 1) (Q .b4)
noncomputable def Jm (K:a') (t:bt):bF:=fun vs H Q _=>∃ p row ws pl x c xs,vs=[.ref p,.ref c]/\b9 t H p row ws pl/\ws[pl]? = some x/\aH K H c (ba xs)/\x ∈ xs/\sD t H p row ws (pl + 1) (Q (.str x))
noncomputable def wp (t:bt):bF:=fun vs H Q _=>∃ p row ws pl x lo ak v,vs=[.ref p,.int lo,.int ak]/\b9 t H p row ws pl/\ws[pl]? = some x/\k_ x lo ak=.int v/\aM H/\sD t H p row ws (pl + 1) (Q (.int v))
noncomputable def OV (t:bt):bF:=fun vs H Q _=>∃ p row ws pl,vs=[.ref p]/\b9 t H p row ws pl/\pl=ws.length/\Q .b4 H
theorem dL:bT P base T 1 t.ad t.re rN (Fy t):=by
 exists T.N0.ok YV,9
 obtain ⟨p,av,aZ,row,rfl,aw,q⟩:=h;refine ⟨_,(aE (gR (U 0) (U 1) rfl)
   (aE (gR (U 0) (U 2) rfl)
   (aU (gR (U 0) aJ rfl)))),?_⟩
 nofun;refine ⟨_,_,_,aw,T.dJ,T.YM,by decide,?_⟩;refine ⟨_,_,_,aR,T.dJ,T.K5,eO (n:=999) (by decide),?_⟩;refine ⟨_,_,_,aR,T.dJ,T.Cz,eO (n:=999) (eO (n:=998) (by decide)),?_⟩;simp only [q3];rw [show dk (aa "row") (V.int row) ([]:List (Str × V))=[(aa "row",V.int row)] from ha [] rfl (by ac_nf),
  show dk (aa "told") (V.ref aZ) ([(aa "row",V.int row)]:List (Str × V))=[(aa "row",V.int row),(aa "told",V.ref aZ)] from ha [aa "row"] rfl (by ac_nf),
  show dk (aa "place") (V.int 0) ([(aa "row",V.int row),(aa "told",V.ref aZ)]:List (Str × V))=[(aa "row",V.int row),(aa "told",V.ref aZ),(aa "place",V.int 0)] from ha [aa "row",aa "told"] rfl (by ac_nf)]
 exact q
theorem sA:bT P base T 1 t.rl t.Bi ["self"] (aar t):=by
 exists T.Kt.ok acw,9
 obtain ⟨p,row,ws,pl,rfl,⟨ay,av,aZ,ax,aD⟩,hle,q⟩:=h;refine ⟨_,(aE (cI (cy dE (c0 (U 0) rfl) (hZ jx rfl T.jg i_ (ab (c0 (U 0) rfl) au)) (cc _)) (aU (bL bG)) cM)
   (aU (bL (cx dm (c0 (U 0) rfl) (c0 (U 0) rfl))))),?_⟩
 nofun;refine cG (decide ((pl:Int)=(ws.length:Int))) (fun Q aN=>?_) (fun c=>?_) (fun c=>?_)
 .nofun;refine ⟨_,CO T ax,_,FC T ax,_,rfl,_,.inl (aH.of aD),rfl,?_⟩;rw [iJ];nofun;exact aN
 .nofun;have ho:pl=ws.length:=by have:=of_decide_eq_true c;omega
  rw [show ws.getD pl (aa "")=aa "" by rw [iF,aeX (by omega)];rfl] at q;exact q
 .nofun;have ho:pl < ws.length:=by have:=of_decide_eq_false c;omega
  have ao:ws[pl]? = some ws[pl]:=cv ho;rw [iF,ao] at q;exact ⟨_,FC T ax,_,CO T ax,_,rfl,_,_,rfl,aH.of aD,_,dh (Ao ao),q⟩
theorem ac9:bT P base T 1 t.rt t.Bk ["self"] (Z_ t):=by
 exists T.P1.ok Rr,9
 obtain ⟨p,row,ws,pl,rfl,⟨ay,av,aZ,ax,aD⟩,q⟩:=h;refine ⟨_,(aU (bL (hb oO (c0 (U 0) rfl) (hZ jx rfl T.jg i_ (ab (c0 (U 0) rfl) au)) (cc _)))),?_⟩;nofun;have e:decide (pl < ws.length)=decide ((pl:Int) < (ws.length:Int)):=by rw [nP];simp
 rw [e] at q;refine ⟨_,CO T ax,_,FC T ax,_,rfl,_,.inl (aH.of aD),?_⟩;rw [iJ];exact ⟨_,rfl,q⟩
theorem wv:bT P base T 1 t.sE t.BL yE (Sg t):=by
 exists T.Pz.ok aah,9
 obtain ⟨p,row,ws,pl,rfl,⟨ay,av,aZ,ax,aD⟩,q⟩:=h;refine ⟨_,(aE (cI (ou (nj (U 1))) (aU iE) cM)
   (aU (Su (U 0) aJ adq))),?_⟩
 nofun;refine cG false (fun Q aN=>?_) (fun aq=>nomatch aq) (fun _=>?_)
 .nofun;exact aN
 .nofun;refine ⟨_,_,_,ax,T.dJ,T.Cz,_,jQ nk 2 (v7 ..) (by ac_nf) rfl,_,rfl,_,_,ax,by rw [<- a8 (f:=(·.1)),v7];decide,?_⟩;rw [Xn];exact q _ cD.put (fun n=>n.upd) ⟨ay,av,aZ,aR,by rw [aW (dH aD ax (by intro z;cases z))];exact aD⟩
theorem uZ:bT P base T 2 t.qI t.vn yo (Jm K t):=by
 refine bA (sA T) fun k0=>bA (wv T) fun nE=>?_;exists T.Jb.ok Ka,9
 obtain ⟨p,row,ws,pl,x,c,xs,rfl,R,ao,aq,hm,q⟩:=h;refine ⟨_,(aE (bI (i:=2) Ka.aA (hG (U 0) T.dJ T.ce k0 aj T.qK .nil b0))
   (aE (d_ (dd (U 0) T.dJ T.lf nE aj T.vu .nil b0 (ab (hb rD (U 2) (U 1) (by with_unfolding_all rfl)) au)))
   (aU (bL (U 2))))),?_⟩
 have cL:pl < ws.length:=(cW.mp ao).1;have a9:ws.getD pl (aa "")=x:=by rw [iF,ao];rfl
 obtain ⟨_,av,aZ,ax,aD⟩:=id R;nofun;refine ⟨_,_,ax,b9.no _ _ _ (by ac_nf),⟨p,row,ws,pl,rfl,R,by omega,?_⟩⟩;rw [a9];nofun;refine ⟨_,_,ax,b9.no _ _ _ (by ac_nf),_,.inl aq,rfl,Na xs,?_⟩;rw [rW,decide_eq_true hm];refine ⟨p,row,ws,pl,rfl,R,fun I s1 s2 s3=>?_⟩;nofun;exact q I s1 s2 s3
theorem sy:bT P base T 4 t.q7 t.zW Eu (wp t):=by
 refine bA (sA T) fun k0=>bA (wv T) fun nE=>bA (XS T) fun R9=>?_;exists T.NA.ok Qg,9
 obtain ⟨p,row,ws,pl,x,lo,ak,v,rfl,R,ao,aK,a5,q⟩:=h;refine ⟨_,(aE (bI (i:=3) Qg.aA (bq R9 aj T.U1 T.FU.bg T.XD (ab (hG (U 0) T.dJ T.ce k0 aj T.qK .nil b0) (ab (U 1) (ab (U 2) au)))))
   (aE (d_ (dd (U 0) T.dJ T.lf nE aj T.vu .nil b0 (ab (hb KS (U 3) wV (cc _)) au)))
   (aU (bL (U 3))))),?_⟩
 have cL:pl < ws.length:=(cW.mp ao).1;have a9:ws.getD pl (aa "")=x:=by rw [iF,ao];rfl
 obtain ⟨ay,av,aZ,ax,aD⟩:=id R;nofun;refine ⟨_,_,ax,b9.no _ _ _ (by ac_nf),⟨p,row,ws,pl,rfl,R,by omega,?_⟩⟩;rw [a9];nofun;refine ⟨x,lo,ak,rfl,ay.2 x (c6 ao),a5,?_⟩;rw [aK];nofun;refine ⟨_,_,ax,b9.no _ _ _ (by ac_nf),?_⟩;refine ⟨p,row,ws,pl,rfl,R,fun I s1 s2 s3=>?_⟩;nofun;exact q I s1 s2 s3
theorem uH:bT P base T 2 t.qy t.wq ["self"] (OV t):=by
 refine bA (ac9 T) fun abC=>?_;exists T.JK.ok Wp,9
 obtain ⟨p,row,ws,pl,rfl,R,aB,q⟩:=h;obtain ⟨ay,av,aZ,ax,aD⟩:=id R;refine ⟨_,(aU (cI (nj (hG (U 0) T.dJ T.Y8 abC aj T.Xo .nil b0)) (aU iE) cM)),?_⟩;nofun;refine cG false (fun Q aN=>?_) (fun aq=>nomatch aq) (fun _=>?_)
 .nofun;refine ⟨_,_,ax,b9.no _ _ _ (by ac_nf),⟨p,row,ws,pl,rfl,R,?_⟩⟩;rw [decide_eq_false (by omega)];exact ⟨_,rfl,aN⟩
 .nofun;exact q
theorem cz {α β:Type} {f:α->β} {l:List α} {i:Nat} {y:β} (h:(l.map f)[i]? = some y):∃ x,l[i]? = some x/\y=f x:=by
 rw [dS] at h;cases e:l[i]? with
 | none=>rw [e] at h;cases h
 | some x=>rw [e] at h;exact ⟨x,rfl,(dZ h).symm⟩
noncomputable def Ru (t:bt) (jl H:ah) (p:Addr) (rows:List (List Str)):Prop:=∃ qs:List Addr,H p=some (.lst (qs.map V.ref))/\jl p=none/\qs.length=rows.length/\∀ (i:Nat) (q:Addr) (r:List Str),qs[i]? = some q->rows[i]? = some r->b9 t H q i r 0/\jl q=none
noncomputable def L_ (t:bt):bF:=fun vs H Q _=>∃ x,vs=[.str x]/\x.length <= 20000/\(∀ r ∈ ht x,r.length <= 1000/\∀ y ∈ r,y.length <= 1000)/\aM H/\∀ p I,aF H I->aM I->Ru t H I p (ht x)->Q (.ref p) I
theorem Po:bT P base T 3 t.sH t.wY ["text"] (L_ t):=by
 have DJ:cg P w K ai base c7 2 t.qA t.sQ ["text"] C7:=(I2 T).mono (by decide);have F':cg P w K ai base c7 1 t.ad t.re rN (Fy t):=dL T;exists T.BN.ok Ze,9
 obtain ⟨x,rfl,ay,jW,a5,q⟩:=h;refine ⟨_,(aU (bL (ig rfl (t_ rfl T.vg (ab (bq DJ aj T.L9 T.Be.bg T.KG (ab (U 0) au)) au)) (fU (sc:=br Aj) rfl (by ac_nf)) (N:=["row","told"]) (sel:=[none,none]) (gf (M:=["text"]) (by ac_nf)) (eZ.of (fun _ _ _ _=>(h8 (K:=K) (n:=2) rfl rfl (dp (b1 (i:=0) (eC (N:=["row","told"]) (by ac_nf) rfl)) (dp (b1 (i:=1) (eC (N:=["row","told"]) (by ac_nf) rfl)) hV)))) (fun _ _ _ _=>⟨_,gX,by walk_at "B"⟩) (fun _ _ _ _=>⟨_,(qJ T.Pa F' aj rfl T.LZ T.PL .nil b0 (ab (U 0) (ab (U 1) au))),by walk_at "B"⟩))))),?_⟩;nofun;refine ⟨x,rfl,ay,a5,fun p H1 hQ e7 ⟨ps,aw,pg,f9,d1,qS⟩=>?_⟩;nofun;refine ⟨⟨_,aH.of aw⟩,?_⟩;have hlen:ps.length <= sizeLine:=by
  rw [d1];unfold ht;rw [a8];have:=DD (x:=x) (y:=nl) (by rw [jJ];exact bW _);exact cp (show _ <= 40000 by omega) (by decide)
 refine cZ.enum (xs:=ps.map V.ref) (fun i ys az=>aF H1 az/\aM az/\∃ qs:List Addr,ys=qs.map V.ref/\qs.length=i/\∀ (j:Nat) (q:Addr) (r:List Str),qs[j]? = some q->(ht x)[j]? = some r->b9 t az q j r 0/\H1 q=none)
  (by rw [a8];exact hlen) ⟨aF.refl H1,e7,[],rfl,rfl,fun j q r h _=>by simp at h⟩ ?_ ?_ ?_
 .rintro i ys az ak bh;ac_rfl
  obtain ⟨s2,cQ,qs,rfl,a4,_⟩:=bh;subst a7;exact ⟨aH.of (s2 _ _ aw),by rw [a8];omega⟩
 .rintro i v ys az dQ aK ⟨s2,cQ,qs,rfl,a4,al⟩ d8 N bl;rw [dS] at aK;cases yG:ps[i]? with
  | none=>rw [yG] at aK;cases aK
  | some pi=>
   rw [yG] at aK;have e:=(dZ aK).symm;subst e;refine gl ?_;nofun;refine ⟨Sub.xD,fun a av aS hd dW=>?_⟩;refine ⟨a,av,pi,i,rfl,aR,rfl,?_⟩;rw [q3];have s3:aF az (upd (upd (upd az dQ (.tup [.int i,.ref pi])) av (.own a)) a (.ins t.dR av (jG i pi 0))):=by
    have aO:aF az (upd az dQ (.tup [.int i,.ref pi])):=bN d8;exact ((aF.trans aO (bN hd)).gB (aO.free aS))
   obtain ⟨r,aj⟩:∃ r,(ht x)[i]? = some r:=⟨(ht x)[i]'(by rw [<- d1];exact (cW.mp yG).1),cv _⟩;have afu:az a=none:=(bN d8).free aS;refine bl _ _ ⟨s2.trans s3,((cQ.upd).upd).upd,qs ++ [a],by rw [eQ];rfl,by rw [eV,a4];rfl,fun j ef fu ag ar=>?_⟩;by_cases bb:j < qs.length
   .rw [uP bb] at ag;obtain ⟨eJ,e3⟩:=al j ef fu ag ar;exact ⟨eJ.same s3,e3⟩
   .rw [se (by omega)] at ag;have v9:j - qs.length=0:=by
     cases e':j - qs.length with
     | zero=>rfl
     | succ n=>rw [e'] at ag;simp at ag
    rw [v9] at ag;have cu:a=ef:=by simpa using ag
    subst cu;have gr:j=i:=by omega
    subst gr;rw [aj] at ar;cases ar;refine ⟨⟨jW r (c6 aj),av,pi,aR,?_⟩,s2.free afu⟩;exact s3 _ _ (s2 _ _ (qS j pi r yG aj).1)
 .rintro ys az ⟨s2,cQ,qs,rfl,a4,al⟩ dQ d8;refine q dQ _ ((hQ.trans s2).gB ((hQ.trans s2).free d8)) (cQ.upd) ⟨qs,aR,(hQ.trans s2).free d8,by rw [a4,a8,d1],fun i ef r ag ar=>?_⟩;obtain ⟨eJ,e3⟩:=al i ef r ag ar;exact ⟨eJ.same (bN d8),hQ.free e3⟩
noncomputable def LQ (q:Addr) (H:ah) (R:ah->Prop):Prop:=∀ I,cD q H I->aM I->R I
noncomputable def JM (t:bt):bF:=fun vs H Q _=>∃ q row n,vs=[.ref q]/\b9 t H q row [aa "ring",num n] 0/\(2 <= n/\n <= 99)/\aM H/\LQ q H (Q (.int n))
noncomputable def lN (t:bt) (H:ah) (wl:Addr) (ds:List aG):Prop:=∃ as:List Addr,H wl=some (.lst (as.map V.ref))/\as.length=ds.length/\∀ (i:Nat) (a:Addr) (d:aG),as[i]? = some a->ds[i]? = some d->eh t H a d
noncomputable def SS (t:bt):bF:=fun vs H Q _=>∃ q row ws pl wl ds x,vs=[.ref q,.ref wl]/\b9 t H q row ws pl/\ws[pl]? = some x/\made x dO 8=true/\lN t H wl ds/\ds.length <= 12/\(∀ d ∈ ds,d.name ≠ x)/\aM H /\
 ∀ I,cD q H I->aM I->b9 t I q row ws (pl + 1)->Q (.str x) I
noncomputable def ad3 (t:bt):bF:=fun vs H Q _=>∃ q row ws pl n st e5,vs=[.ref q,.int n,.int st]/\b9 t H q row ws pl/\ws[pl]? = some (num e5)/\(0 <= st/\st < n)/\(0 <= e5/\e5 < n)/\st ≠ e5/\n <= 99/\aM H /\
 ∀ I,cD q H I->aM I->b9 t I q row ws (pl + 1)->Q (.int e5) I
noncomputable def acm (t:bt):bF:=fun vs H Q _=>∃ d:aG,vs=[.str (dK d.k),.str d.name,.int d.start,.int d.fin,.int d.off,.int d.near,.int d.least]/\d.k < 3/\∀ x I,aF H I->(aM H->aM I)->eh t I x d->H x=none->Q (.ref x) I
noncomputable def Jx (t:bt):bF:=fun vs H Q _=>∃ q row n wl ds d,vs=[.ref q,.int n,.ref wl]/\b9 t H q row (ki d) 0/\m9 n d/\(2 <= n/\n <= 99)/\lN t H wl ds/\ds.length <= 12/\(∀ e ∈ ds,e.name ≠ d.name)/\aM H /\
 ∀ x I,cD q H I->aM I->eh t I x d->H x=none->Q (.ref x) I
theorem lN.jH {t:bt} {H I:ah} {q wl:Addr} {ds:List aG} {row:Int} {ws:List Str} {pl:Nat} (h:lN t H wl ds) (s:cD q H I) (r:b9 t H q row ws pl):lN t I wl ds:=by
 obtain ⟨as,ax,aD,al⟩:=h;obtain ⟨ay,av,aZ,cu,gr⟩:=r;refine ⟨as,s _ _ (dH ax cu (by intro z;cases z)) ax,aD,fun i a d ag ar=>?_⟩;obtain ⟨aI,fm,hj⟩:=al i a d ag ar;refine ⟨aI,fm,s _ _ (fun z=>?_) hj⟩;subst z;rw [hj] at cu;have i3:=dZ cu;injection i3 with _ _ j0;have oc:(7:Nat)=3:=congrArg m8 j0;omega
theorem lN.same {t:bt} {H I:ah} {wl:Addr} {ds:List aG} (h:lN t H wl ds) (s:aF H I):lN t I wl ds:=by
 obtain ⟨as,ax,aD,al⟩:=h;exact ⟨as,s _ _ ax,aD,fun i a d ag ar=>(al i a d ag ar).same s⟩
theorem QU:bT P base T 5 t.ry t.xa ["reader"] (JM t):=by
 refine bA (uZ T) fun l'=>bA (sy T) fun je=>bA (uH T) fun nr=>?_;exists T.CI.ok LP,9
 obtain ⟨q,row,n,rfl,R,a0,a5,iy⟩:=h;refine ⟨_,(aE (d_ (dd (U 0) T.dJ T.sY l' aj T.sb .nil b0 (ab (gD (ab bG au)) au)))
   (aE (bI (i:=1) LP.aA (dd (U 0) T.dJ T.mf je aj T.mB .nil b0 (ab (hJ rfl T.nw T.aef) (ab (hJ rfl T.TR T.Zo) au))))
   (aE (d_ (hG (U 0) T.dJ T.xk nr aj T.uh .nil b0))
   (aU (bL (U 1)))))),?_⟩
 obtain ⟨_,av,aZ,ax,aD⟩:=id R;nofun;refine ⟨_,_,ax,b9.no _ _ _ (by ac_nf),by decide,fun p aw=>?_⟩;have s0:aF H (upd H p (.lst [V.str (aa "ring")])):=bN aw;refine ⟨q,row,_,0,aa "ring",p,[aa "ring"],rfl,R.same s0,rfl,aH.of aR,by simp,fun H1 s1 cq jE=>?_⟩;obtain ⟨_,B0,MU,f1,f2⟩:=id jE;nofun;refine ⟨_,_,f1,b9.no _ _ _ (by ac_nf),?_⟩;have e7:=cq a5.upd;refine ⟨q,row,_,1,num n,2,99,n,rfl,jE,rfl,l8 (by omega) (by omega) a0.1 a0.2,e7,fun az s2 cQ fV=>?_⟩;obtain ⟨_,J9,MC,g1,g2⟩:=id fV;nofun;refine ⟨_,_,g1,b9.no _ _ _ (by ac_nf),?_⟩;refine ⟨q,row,_,2,rfl,fV,rfl,?_⟩;nofun;exact iy az (((cD.of s0).trans s1).trans s2) (cQ e7)
theorem UU:bT P base T 3 t.Re t.AK GX (SS t):=by
 refine bA (sA T) fun k0=>bA (wv T) fun nE=>bA (OT T) fun Cc=>?_;exists T.HN.ok Oc,9
 obtain ⟨q,row,ws,pl,wl,ds,x,rfl,R,ao,hm,gT,fO,Ce,a5,iy⟩:=h;refine ⟨_,(aE (bI (i:=2) Oc.aA (hG (U 0) T.dJ T.ce k0 aj T.qK .nil b0))
   (aE (d_ (dd (U 0) T.dJ T.lf nE aj T.vu .nil b0 (ab (PV (bq Cc aj T.M9 T.zq.bg T.Nm (ab (U 2) au)) (xl (hb tz (U 2) (ig rfl (gv (U 1)) (fU (sc:=br zF) rfl (by ac_nf)) (N:=["way"]) (sel:=[none]) (gf (M:=["reader","ways","name"]) (by ac_nf)) (eZ.of (fun _ _ _ _=>(b1 (i:=0) (eC (N:=["way"]) (by ac_nf) rfl))) (fun _ _ _ _=>⟨_,gX,by walk_at "B"⟩) (fun _ _ _ _=>⟨_,(c0 (U 0) rfl),by walk_at "B"⟩))) (by with_unfolding_all rfl)))) au)))
   (aU (bL (U 2))))),?_⟩
 have cL:pl < ws.length:=(cW.mp ao).1;have a9:ws.getD pl (aa "")=x:=by rw [iF,ao];rfl
 obtain ⟨ay,av,aZ,ax,aD⟩:=id R;nofun;refine ⟨_,_,ax,b9.no _ _ _ (by ac_nf),⟨q,row,ws,pl,rfl,R,by omega,?_⟩⟩;rw [a9];nofun;refine ⟨_,_,ax,b9.no _ _ _ (by ac_nf),?_⟩;refine ⟨x,rfl,ay.2 x (c6 ao),a5,?_⟩;rw [hm];nofun;obtain ⟨as,dc,dI,al⟩:=gT;refine ⟨⟨_,aH.of dc⟩,?_⟩;have hle:(as.map V.ref).length <= sizeLine:=by rw [a8,dI];exact cp fO (by decide)
 refine cZ.r' (xs:=as.map V.ref) (zs:=ds.map fun d=>V.str d.name) (aH.of dc) hle (by rw [a8,a8,dI]) (fun i v z N aK ia bl=>?_) (fun p aw=>?_)
 .obtain ⟨a,aS,rfl⟩:=cz aK;obtain ⟨d,hd,rfl⟩:=cz ia;nofun;exact ⟨Sub.name,_,(al i a d aS hd).zt T,bl⟩
 .nofun;have da:(ds.map fun d=>V.str d.name)=ba (ds.map (·.name)):=by unfold ba;rw [lG];rfl
  rw [da];refine ⟨_,.inl (aH.of aR),rfl,Na _,?_⟩;rw [rW,decide_eq_false (fun z=>by
   obtain ⟨d,hd,e⟩:=dN.mp z;exact Ce d hd e)]
  have s0:aF H (upd H p (.lst (ba (ds.map (·.name))))):=bN aw;exact ⟨q,row,ws,pl,rfl,R.same s0,fun I s1 cq jE=>iy I ((cD.of s0).trans s1) (cq a5.upd) jE⟩
theorem aei:bT P base T 5 t.tv t.Bn zr (ad3 t):=by
 refine bA (sA T) fun k0=>bA (sy T) fun je=>?_;exists T.F0.ok adN,9
 obtain ⟨q,row,ws,pl,n,st,e5,rfl,R,ao,gk,AF,dW,a0,a5,iy⟩:=h;refine ⟨_,(aE (cI (cy dE (hG (U 0) T.dJ T.ce k0 aj T.qK .nil b0) (ie i9 rfl T.jn i6 (ab (U 2) au)) (cc _)) (aU iE) cM)
   (aU (bL (dd (U 0) T.dJ T.mf je aj T.mB .nil b0 (ab aJ (ab (Db ol (U 1) aJ) au)))))),?_⟩
 have cL:pl < ws.length:=(cW.mp ao).1;have a9:ws.getD pl (aa "")=num e5:=by rw [iF,ao];rfl
 obtain ⟨ay,av,aZ,ax,aD⟩:=id R;nofun;refine cG false (fun Q aN=>?_) (fun aq=>nomatch aq) (fun _=>?_)
 .nofun;refine ⟨_,_,ax,b9.no _ _ _ (by ac_nf),⟨q,row,ws,pl,rfl,R,by omega,?_⟩⟩;rw [a9];nofun;refine ⟨Iy (by omega),?_⟩;rw [decide_eq_false (fun z=>dW (adK (by omega) (by omega) (by omega) (by omega) z).symm)];exact aN
 .nofun;refine ⟨_,_,ax,b9.no _ _ _ (by ac_nf),⟨q,row,ws,pl,num e5,0,n - 1,e5,rfl,R,ao,l8 (by omega) (by omega) (by omega) (by omega),a5,fun H1 s1 cq jE=>?_⟩⟩;exact iy H1 s1 (cq a5) jE
theorem VU {t:bt} {H:ah} {x av:Addr} {d:aG} (ao:H x=none) (hd:H av=none) (aI:d.k < 3) :
  aF H (upd (upd (upd H av (.own x)) x (.ins (t.fk d.k) av [])) x (.ins (t.fk d.k) av (ky d)))/\(aM H->aM (upd (upd (upd H av (.own x)) x (.ins (t.fk d.k) av [])) x (.ins (t.fk d.k) av (ky d)))) /\
   eh t (upd (upd (upd H av (.own x)) x (.ins (t.fk d.k) av [])) x (.ins (t.fk d.k) av (ky d))) x d:=
 ⟨(((aF.refl H).gB hd).gB ao).gB ao,fun n=>((n.upd).upd).upd,aI,av,aR⟩
theorem WE:bT P base T 4 t.vB t.xN z_ (acm t):=by
 have WK:cg P w K ai base c7 2 t.pV t.vZ jk (sj t 0):=Tq T;have adC:cg P w K ai base c7 2 t.pz t.t6 jk (sj t 1):=aaJ T;have adA:cg P w K ai base c7 2 t.pe t.wF jk (sj t 2):=ae4 T;exists T.C9.ok acE,9
 obtain ⟨d,rfl,aI,q⟩:=h;refine ⟨_,(aE (cI (cy dE (U 0) bG (cc _)) (aU (bL (qJ T.Xu WK aj rfl T.Vd T.VW .nil b0 (ab (U 1) (ab (U 2) (ab (U 3) (ab (U 4) (ab (U 5) (ab (U 6) au))))))))) cM)
   (aE (cI (cy dE (U 0) bG (cc _)) (aU (bL (qJ T.R' adC aj rfl T.afH T.Z8 .nil b0 (ab (U 1) (ab (U 2) (ab (U 3) (ab (U 4) (ab (U 5) (ab (U 6) au))))))))) cM)
   (aU (bL (qJ T.aev adA aj rfl T.ady T.ZP .nil b0 (ab (U 1) (ab (U 2) (ab (U 3) (ab (U 4) (ab (U 5) (ab (U 6) au))))))))))),?_⟩
 have fin:∀ (x av:Addr),H x=none->H av=none->Q (.ref x) (upd (upd (upd H av (.own x)) x (.ins (t.fk d.k) av [])) x (.ins (t.fk d.k) av (ky d))):=fun x av ao hd=>by
  obtain ⟨fc,ft,FO⟩:=VU (t:=t) (d:=d) ao hd aI;exact q x _ fc ft FO ao
 obtain ⟨k,name,start,e5,off,near,least⟩:=d
 match k,aI with
 | 0,_=>
  (nofun; repeat (dsimp only [dK];nofun));refine cG true (fun Q aN=>?_) (fun _=>?_) (fun aq=>nomatch aq)
  .nofun;exact aN
  .nofun;exact fun x av ao hd dW=>⟨x,av,⟨0,name,start,e5,off,near,least⟩,rfl,rfl,aR,rfl,fin x av ao hd⟩
 | 1,_=>
  (nofun; repeat (dsimp only [dK];nofun));refine cG false (fun Q aN=>?_) (fun aq=>nomatch aq) (fun _=>?_)
  .nofun;rw [decide_eq_false (by ac_nf)];exact aN
  .nofun;refine cG true (fun Q aN=>?_) (fun _=>?_) (fun aq=>nomatch aq)
   .nofun;exact aN
   .nofun;exact fun x av ao hd dW=>⟨x,av,⟨1,name,start,e5,off,near,least⟩,rfl,rfl,aR,rfl,fin x av ao hd⟩
 | 2,_=>
  (nofun; repeat (dsimp only [dK];nofun));refine cG false (fun Q aN=>?_) (fun aq=>nomatch aq) (fun _=>?_)
  .nofun;rw [decide_eq_false (by ac_nf)];exact aN
  .nofun;refine cG false (fun Q aN=>?_) (fun aq=>nomatch aq) (fun _=>?_)
   .nofun;rw [decide_eq_false (by ac_nf)];exact aN
   .nofun;exact fun x av ao hd dW=>⟨x,av,⟨2,name,start,e5,off,near,least⟩,rfl,rfl,aR,rfl,fin x av ao hd⟩
theorem aeL:bT P base T 6 t.q8 t.uO A9 (Jx t):=by
 refine bA (uZ T) fun l'=>bA (sy T) fun je=>bA (uH T) fun nr=>bA (UU T) fun aeY=>bA (aei T) fun UE=>bA (WE T) fun aaE=>?_;exists T.HX.ok nS,9
 obtain ⟨q,row,n,wl,ds,d,rfl,R,hd,a0,gT,fO,Ce,a5,iy⟩:=h;refine ⟨_,(aE (bI (i:=3) nS.aA (dd (U 0) T.dJ T.sY l' aj T.sb .nil b0 (ab (gD (ab bG (ab bG (ab bG au)))) au)))
   (aE (bI (i:=4) nS.aA (bq aeY aj T.adh T.HN.bg T.bv (ab (U 0) (ab (U 2) au))))
   (aE (bI (i:=5) nS.aA (dd (U 0) T.dJ T.mf je aj T.mB .nil b0 (ab aJ (ab (Db ol (U 1) aJ) au))))
   (aE (bI (i:=6) nS.aA (bq UE aj T.Wl T.F0.bg T.wE (ab (U 0) (ab (U 1) (ab (U 5) au)))))
   (aE (bI (i:=7) nS.aA (dd (U 0) T.dJ T.mf je aj T.mB .nil b0 (ab aJ (ab (hJ rfl T.Q3 T.Rn) au))))
   (aE (bI (i:=8) nS.aA (dd (U 0) T.dJ T.mf je aj T.mB .nil b0 (ab aJ (ab (hJ rfl T.Ww T.ab6) au))))
   (aE (bI (i:=9) nS.aA (dd (U 0) T.dJ T.mf je aj T.mB .nil b0 (ab aJ (ab (hJ rfl T.RM T.adk) au))))
   (aE (d_ (hG (U 0) T.dJ T.xk nr aj T.uh .nil b0))
   (aU (bL (bq aaE aj T.SP T.C9.bg T.Yv (ab (U 3) (ab (U 4) (ab (U 5) (ab (U 6) (ab (U 7) (ab (U 8) (ab (U 9) au)))))))))))))))))),?_⟩
 have dr:=hd.st;have dX:=hd.e5;have PR:=hd.of;have Qw:=hd.Bo;have ZV:=hd.le;obtain ⟨_,av,aZ,ax,aD⟩:=id R;nofun;refine ⟨_,_,ax,b9.no _ _ _ (by ac_nf),by decide,fun p aw=>?_⟩;have s0:aF H (upd H p (.lst [V.str (aa "car"),V.str (aa "foot"),V.str (aa "tram")])):=bN aw;have j9:dK d.k ∈ [aa "car",aa "foot",aa "tram"]:=by
  have:=hd.k
  match d.k,this with
  | 0,_=>simp [dK]
  | 1,_=>simp [dK]
  | 2,_=>simp [dK]
 refine ⟨q,row,_,0,dK d.k,p,[aa "car",aa "foot",aa "tram"],rfl,R.same s0,rfl,aH.of aR,j9,fun H1 s1 cq jE=>?_⟩;have hO:cD q H H1:=(cD.of s0).trans s1;have fc:=cq a5.upd;nofun;refine ⟨q,row,_,1,wl,ds,d.name,rfl,jE,rfl,hd.nm,gT.jH hO R,fO,Ce,fc,fun az s2 ft fV=>?_⟩;obtain ⟨_,J9,MC,f2,g2⟩:=id fV;have Jr:=hO.trans s2;nofun;refine ⟨_,_,f2,b9.no _ _ _ (by ac_nf),⟨q,row,_,2,num d.start,0,n - 1,d.start,rfl,fV,rfl,l8 (by omega) (by omega) (by omega) (by omega),ft,fun cj s3 h4 qH=>?_⟩⟩;have ZF:=Jr.trans s3;have FO:=h4 ft;nofun;refine ⟨q,row,_,3,n,d.start,d.fin,rfl,qH,rfl,dr,dX,hd.ne,a0.2,FO,fun dC s4 PQ il=>?_⟩;obtain ⟨_,acS,Q8,f4,uG⟩:=id il;have Ep:=ZF.trans s4;nofun;refine ⟨_,_,f4,b9.no _ _ _ (by ac_nf),⟨q,row,_,4,num d.off,0,30,d.off,rfl,il,rfl,l8 (by omega) (by omega) (by omega) (by omega),PQ,fun dV s5 mR kn=>?_⟩⟩;obtain ⟨_,Pc,Jh,eP,OC⟩:=id kn;have Fn:=Ep.trans s5;have Ny:=mR PQ;nofun;refine ⟨_,_,eP,b9.no _ _ _ (by ac_nf),⟨q,row,_,5,num d.near,0,30,d.near,rfl,kn,rfl,l8 (by omega) (by omega) (by omega) (by omega),Ny,fun ib gx i5 vD=>?_⟩⟩;obtain ⟨_,Wt,agh,uS,aiO⟩:=id vD;have hk:=Fn.trans gx;have OR:=i5 Ny;nofun;refine ⟨_,_,uS,b9.no _ _ _ (by ac_nf),⟨q,row,_,6,num d.least,1,60,d.least,rfl,vD,rfl,l8 (by omega) (by omega) (by omega) (by omega),OR,fun gC eT iQ I'=>?_⟩⟩;obtain ⟨_,ahK,ahn,sU,aiq⟩:=id I';have hi:=hk.trans eT;have CN:=iQ OR;nofun;refine ⟨_,_,sU,b9.no _ _ _ (by ac_nf),⟨q,row,_,7,rfl,I',rfl,?_⟩⟩;nofun;refine ⟨d,rfl,hd.k,fun x gK fs vL G5 AD=>?_⟩;refine iy x gK (hi.trans (cD.of fs)) (vL CN) G5 ?_;cases iT:H x with
 | none=>rfl
 | some u=>
  by_cases vS:x=q
  .subst vS;rw [sU] at AD;cases AD
  .rw [hi x u vS iT] at AD;cases AD
noncomputable abbrev rF:List Str:=[aa "places",aa "ways",aa "numbers"]
noncomputable def lQ (n:Int) (wl aA:Addr):List (Str × V):=[(aa "places",.int n),(aa "ways",.ref wl),(aa "numbers",.ref aA)]
theorem Bg (n:Int) (wl aA:Addr):(lQ n wl aA).map (·.1)=rF:=rfl
noncomputable def nm (ds:List aG) (i:Nat):Str:=((ds[i]?).map (·.name)).getD (aa "")
noncomputable def kk (ds:List aG) (i:Nat):List (Key × V):=(dG i).map fun j=>(du (nm ds j),V.int j)
theorem oJ {ds:List aG} {i:Nat} {d:aG} (h:ds[i]? = some d):nm ds i=d.name:=by unfold nm;rw [h];rfl
theorem zj {ds:List aG} (h:(ds.map (·.name)).Nodup) {i j:Nat} (ak:i < ds.length) (bb:j < ds.length) (e:nm ds i=nm ds j):i=j:=by
 rw [oJ (cv ak),oJ (cv bb)] at e;have:=(WW (xs:=ds.map (·.name)) (i:=i) (j:=j) (h₀:=by rw [a8];exact ak) (h₁:=by rw [a8];exact bb) h).mp (by rw [vQ,vQ];exact e);exact this
theorem Rw {ds:List aG} (h:(ds.map (·.name)).Nodup) {i:Nat}:∀ {n:Nat},i < n->n <= ds.length->c8 (kk ds n) (du (nm ds i))=some (.int i):=by
 intro n
 induction n with
 | zero=>intro ak _;omega
 | succ n b2=>
  intro ak a0;unfold kk c8;rw [z',eQ,List.find?_append];by_cases c:i < n
  .have:=b2 c (by omega);unfold kk c8 at this;cases e:Kp (fun c1=>decide (c1.fst=du (nm ds i))) (gb (fun j=>((du (nm ds j):Key),V.int j)) (dG n)) with
   | none=>rw [e] at this;cases this
   | some p=>rw [e] at this;exact this
  .have e:i=n:=by omega
   subst e;have no:Kp (fun c1=>decide (c1.fst=du (nm ds i))) (gb (fun j=>((du (nm ds j):Key),V.int j)) (dG i))=none:=by
    rw [n'];intro p aw;obtain ⟨j,bb,rfl⟩:=dN.mp aw;have EJ:=Es.mp bb;simp only [decide_eq_true_eq];intro z;have:=zj h (by omega) (by omega) (rC z);omega
   rw [no];simp
theorem Xb {ds:List aG} (h:(ds.map (·.name)).Nodup) {n:Nat} (a0:n < ds.length):eA (kk ds n) (du (nm ds n)) (.int n)=kk ds (n + 1):=by
 unfold eA;have no:((kk ds n).any fun c1=>decide (c1.1=du (nm ds n)))=false:=by
  rw [Hv];intro p aw;obtain ⟨j,bb,rfl⟩:=dN.mp aw;have EJ:=Es.mp bb;simp only [decide_eq_true_eq];intro z;have:=zj h (by omega) a0 (rC z);omega
 rw [no];unfold kk;rw [z',eQ];rfl
theorem mG {H H1 az:ah} {q:Addr} (a:aF H H1) (b:cD q H1 az) (n:H q=none):aF H az:=fun c u e=>b c u (cV e n) (a c u e)
theorem z1 {t:bt} {H:ah} {p q:Addr} {i j:Int} {ws vs:List Str} {k l:Nat} (a:b9 t H p i ws k) (b:b9 t H q j vs l) (n:i ≠ j):p ≠ q:=fun z=>by
 subst z;obtain ⟨_,av,aZ,ax,_⟩:=a;obtain ⟨_,fm,aeV,aD,_⟩:=b;rw [ax] at aD;have cu:=dZ aD;injection cu with _ _ gr;unfold jG at gr;injection gr with hj _;injection hj with _ i3;injection i3 with kg;exact n kg
theorem PH {t:bt} {H:ah} {p q:Addr} {d:aG} {j:Int} {vs:List Str} {l:Nat} (a:eh t H p d) (b:b9 t H q j vs l):p ≠ q:=fun z=>by
 subst z;obtain ⟨_,av,ax⟩:=a;obtain ⟨_,fm,aeV,aD,_⟩:=b;rw [ax] at aD;have cu:=dZ aD;injection cu with _ _ gr;exact absurd (congrArg m8 gr) (by show ¬ (7:Nat)=3;decide)
noncomputable def d7 (t:bt) (H:ah) (c:Addr) (n:Int) (ds:List aG):Prop:=
 ((ds.map (·.name)).Nodup/\ds.length <= 12)/\∃ av wl aA,H c=some (.ins t.eF av (lQ n wl aA))/\lN t H wl ds/\H aA=some (.bV (kk ds ds.length))
theorem d7.same {t:bt} {H I:ah} {c:Addr} {n:Int} {ds:List aG} (h:d7 t H c n ds) (s:aF H I):d7 t I c n ds:=by
 obtain ⟨h0,av,wl,aA,ax,aD,cu⟩:=h;exact ⟨h0,av,wl,aA,s _ _ ax,aD.same s,s _ _ cu⟩
theorem hY {m:Str} (n:Int) (wl aA:Addr) (h:rF.contains m=false):(lQ n wl aA).lookup m=none:=jK rF (Bg ..) h
section
variable {w:World} {K:a'} {ai:Str->Option Value} {t:bt} {H:ah} {c av wl aA:Addr} {n:Int}
theorem Vs (T:Txt w K ai t) (e:H c=some (.ins t.eF av (lQ n wl aA))):hB K H c (aa "places") (.int n):=⟨_,av,_,e,T.gg,T.Lr,jQ rF 0 (Bg ..) (by ac_nf) rfl⟩
theorem P6 (T:Txt w K ai t) (e:H c=some (.ins t.eF av (lQ n wl aA))):hB K H c (aa "ways") (.ref wl):=⟨_,av,_,e,T.gg,T.K7,jQ rF 1 (Bg ..) (by ac_nf) rfl⟩
theorem Fv (T:Txt w K ai t) (e:H c=some (.ins t.eF av (lQ n wl aA))):hB K H c (aa "numbers") (.ref aA):=⟨_,av,_,e,T.gg,T.Qu,jQ rF 2 (Bg ..) (by ac_nf) rfl⟩
end
noncomputable def L7 (t:bt):bF:=fun vs H Q _=>∃ c av n wl ds,vs=[.ref c,.int n,.ref wl]/\H c=some (.ins t.eF av [])/\lN t H wl ds/\(ds.map (·.name)).Nodup/\ds.length <= 12/\aM H /\
 ∀ I,cD c H I->aM I->d7 t I c n ds->Q .b4 I
noncomputable def adO (t:bt):bF:=fun vs H Q _=>∃ n ds,vs=[.str (e4 n ds)]/\ke n ds/\aM H/\∀ c I,aF H I->aM I->d7 t I c n ds->Q (.ref c) I
noncomputable def Zi (t:bt):bF:=fun vs H Q _=>∃ c n ds,vs=[.ref c]/\d7 t H c n ds/\∀ p,H p=none->Q (.ref p) (upd H p (.lst (ba (ds.map (·.name)))))
noncomputable def xz (t:bt):bF:=fun vs H Q _=>∃ c n ds,∃ i:Nat,∃ d,vs=[.ref c,.str d.name]/\d7 t H c n ds/\ds[i]? = some d/\Q (.int (i:Nat)) H
noncomputable def K2 (t:bt):bF:=fun vs H Q _=>∃ c n ds,∃ i:Nat,∃ d,vs=[.ref c,.str d.name]/\d7 t H c n ds/\ds[i]? = some d/\∀ a,eh t H a d->Q (.ref a) H
theorem Ux:bT P base T 1 t.p2 t.wG x5 (L7 t):=by
 exists T.JV.ok GH,9
 obtain ⟨c,av,n,wl,ds,rfl,aq,gT,gW,fO,a5,q⟩:=h;have bE:=No aj;refine ⟨_,(aE (gR (U 0) (U 1) rfl)
   (aE (gR (U 0) (U 2) rfl)
   (aE (gR (U 0) nY rfl)
   (aU (fN fT rfl (t_ rfl T.vg (ab (U 2) au)) (h8 (K:=K) (n:=2) rfl rfl (dp (b1 (i:=3) GH.aA) (dp (b1 (i:=4) GH.aA) hV))) (aU (o_ bE (c0 (U 0) rfl) (c0 (U 4) rfl) (U 3) rfl))))))),?_⟩
 nofun;refine ⟨_,_,_,aq,T.gg,T.Lr,by decide,?_⟩;refine ⟨_,_,_,aR,T.gg,T.K7,eO (n:=999) (by decide),fun aA a0=>?_⟩;simp only [q3] at a0 ⊢;rw [show dk (aa "places") (V.int n) ([]:List (Str × V))=[(aa "places",V.int n)] from rfl,show dk (aa "ways") (V.ref wl) [(aa "places",V.int n)]=[(aa "places",V.int n),(aa "ways",V.ref wl)] from ha [aa "places"] rfl (by ac_nf)] at a0 ⊢;have BC:c ≠ aA:=fun z=>by subst z;rw [aR] at a0;cases a0
 refine ⟨t.eF,av,[(aa "places",V.int n),(aa "ways",V.ref wl)],by rw [aW BC];exact aR,T.gg,T.Qu,show (2:Nat) < 1000 by decide,?_⟩;rw [show dk (aa "numbers") (V.ref aA) [(aa "places",V.int n),(aa "ways",V.ref wl)]=lQ n wl aA from ha [aa "places",aa "ways"] rfl (by ac_nf)];obtain ⟨as,dc,dI,al⟩:=gT;have Lx:H aA=none:=by rw [aW (eY BC)] at a0;exact a0
 have d4:cD c H (upd (upd (upd H c (.ins t.eF av [(aa "places",V.int n),(aa "ways",V.ref wl)])) aA (.bV [])) c (.ins t.eF av (lQ n wl aA))):=fun b u af e=>by
  rw [aW af,aW (cV e Lx),aW af];exact e
 have E_:wl ≠ c:=dH dc aq (by intro z;cases z);refine ⟨⟨_,aH.of (d4 _ _ E_ dc)⟩,?_⟩;refine ec.enum (xs:=as.map V.ref) (fun i σ I=>(∃ x y,σ=[some (V.ref c),some (V.int n),some (V.ref wl),x,y])/\I c=some (.ins t.eF av (lQ n wl aA))/\I aA=some (.bV (kk ds i))/\cD c H I/\aM I) ?_ ?_ ?_ ?_
 .exact ⟨⟨_,_,rfl⟩,aR,by rw [aW (eY BC),aR];rfl,d4,((a5.upd).upd).upd⟩
 .rintro i σ I ak bh;ac_rfl
  obtain ⟨_,_,_,oa,_⟩:=bh;subst a7;exact aH.of (oa _ _ E_ dc)
 .rintro i v σ I p aK ⟨⟨x,y,rfl⟩,ag,ar,oa,e2⟩ aw;obtain ⟨a,aS,rfl⟩:=cz aK;obtain ⟨ak,_⟩:=cW.mp aS;have hS:i < ds.length:=by omega
  have hd:ds[i]? = some ds[i]:=cv hS;have hF:eh t H a ds[i]:=al i a _ aS hd;have FV:a ≠ c:=by
   obtain ⟨_,fm,e⟩:=hF;intro z;subst z;rw [aq] at e;have aD:=dZ e;injection aD with _ _ cu;exact absurd (congrArg m8 cu) (by show ¬ (0:Nat)=7;decide)
  have ade:eh t I a ds[i]:=⟨hF.1,hF.2.imp fun fm e=>oa _ _ FV e⟩;have sp:aF I (upd I p (.tup [.int i,.ref a])):=bN aw;refine gl ?_;nofun;refine ⟨_,Fv T (sp _ _ ag),_,(ade.same sp).zt T,_,rfl,_,k2.k (k:=du ds[i].name) (sp _ _ ar) (iD (show (kk ds i).length <= 12 by unfold kk;rw [a8,jN];omega) (by decide)),?_⟩;rw [<- oJ hd,Xb gW hS];refine ⟨⟨_,rfl⟩,?_,aR,fun b u af e=>?_,(e2.upd).upd⟩
  .rw [aW BC];exact sp _ _ ag
  .rw [aW (cV e Lx)];exact sp _ _ (oa b u af e)
 .rintro σ I bh;ac_rfl
  obtain ⟨⟨x,y,rfl⟩,ag,ar,oa,e2⟩:=bh;subst a7;nofun;rw [a8,dI] at ar;refine q I oa e2 ⟨⟨gW,fO⟩,av,wl,aA,ag,⟨as,oa _ _ E_ dc,dI,fun i a d bc cb=>?_⟩,ar⟩;have hF:=al i a d bc cb;have FV:a ≠ c:=by
   obtain ⟨_,fm,e⟩:=hF;intro z;subst z;rw [aq] at e;have aD:=dZ e;injection aD with _ _ cu;exact absurd (congrArg m8 cu) (by show ¬ (0:Nat)=7;decide)
  exact ⟨hF.1,hF.2.imp fun fm e=>oa _ _ FV e⟩
theorem Tp:bT P base T 1 t.q9 t.ya nf (xz t):=by
 exists T.LS.ok adw,9
 obtain ⟨c,n,ds,i,d,rfl,⟨⟨gW,fO⟩,av,wl,aA,ax,aD,cu⟩,hd,q⟩:=h;have bE:=No aj;have aK:c8 (kk ds ds.length) (du d.name)=some (.int i):=by
  rw [<- oJ hd];exact Rw gW (cW.mp hd).1 (bW _)
 have a9:Ev H aA (.str d.name) (some (.int i)):=by rw [<- aK];exact Ev.k (k:=du d.name) cu
 refine ⟨_,(aE (cI (JR (OH bE (U 1) (c0 (U 0) rfl))) (aU iE) cM)
   (aU (bL (lX bE (c0 (U 0) rfl) (U 1) (fun _ _=>rfl))))),?_⟩
 nofun;refine cG false (fun Q aN=>?_) (fun aq=>nomatch aq) (fun _=>?_)
 .nofun;refine ⟨_,Fv T ax,_,rfl,_,a9,?_⟩;exact aN
 .nofun;exact ⟨_,Fv T ax,_,rfl,_,a9,q⟩
theorem oe:bT P base T 2 t.pK t.u_ nf (K2 t):=by
 refine bA (Tp T) fun X6=>?_;exists T.LD.ok adG,9
 obtain ⟨c,n,ds,i,d,rfl,C,hd,q⟩:=h;obtain ⟨⟨gW,fO⟩,av,wl,aA,ax,⟨as,dc,dI,al⟩,cu⟩:=id C;refine ⟨_,(aU (bL (cx dm (c0 (U 0) rfl) (dd (U 0) T.gg T.adS X6 aj T.adU .nil b0 (ab (U 1) au))))),?_⟩;nofun;refine ⟨_,P6 T ax,_,_,ax,hY _ _ _ (by ac_nf),⟨c,n,ds,i,d,rfl,C,hd,?_⟩⟩;have ak:i < as.length:=by rw [dI];exact (cW.mp hd).1
 have aS:as[i]? = some as[i]:=cv ak;nofun;refine ⟨_,aH.of dc,_,dh (show (as.map V.ref)[i]? = some (V.ref as[i]) by rw [dS,aS];rfl),?_⟩;exact q as[i] (al i _ d aS hd)
theorem Vm:bT P base T 7 t.oT t.sF ["text"] (adO t):=by
 have H_:cg P w K ai base c7 6 t.sH t.wY ["text"] (L_ t):=(Po T).mono (by decide);have Ul:cg P w K ai base c7 6 t.ry t.xa ["reader"] (JM t):=(QU T).mono (by decide);have UB:cg P w K ai base c7 6 t.q8 t.uO A9 (Jx t):=aeL T;have Rm:cg P w K ai base c7 5 t.p2 t.wG x5 (L7 t):=(Ux T).mono (by decide);exists T.tg.ok ua,9
 obtain ⟨n,ds,rfl,cX,a5,iy⟩:=h;refine ⟨_,(aE (bI (i:=1) ua.aA (bq H_ aj T.K6 T.BN.bg T.LY (ab (U 0) au)))
   (aE (bI (i:=2) ua.aA (bq Ul aj T.KB T.CI.bg T.afw (ab (cx dm (U 1) aJ) au)))
   (aE (bI (i:=3) ua.aA (gD au))
   (aE (fN fT rfl (gv (rv J' (U 1) (qx aJ) wX)) (b1 (i:=4) ua.aA) (aE (cI (cy dE (hZ jx rfl T.jg i_ (ab (U 3) au)) (hJ rfl T.adm T.SX) (cc _)) (aU iE) cM)
   (aU (d_ (ff l5 n1 o' oP (U 3) (ab (bq UB aj T.Yu T.HX.bg T.TV (ab (U 4) (ab (U 2) (ab (U 3) au)))) au))))))
   (aE (cI (ou (EO (U 3) (fun _=>rfl))) (aU iE) cM)
   (aU (bL (qJ T.TZ Rm aj rfl T.Z7 T.adQ .nil b0 (ab (U 2) (ab (U 3) au)))))))))),?_⟩
 have jW:=W2 cX;have hlen:=abl cX;have JJ:=cX.nn;have tG:=cX.ln;nofun;refine ⟨e4 n ds,rfl,by omega,?_,a5,fun p H1 hQ e7 R=>?_⟩
 .rw [jW];intro r aj;refine ⟨?_,fun x ao=>cp (cX.plain r aj x ao).1 (by decide)⟩;rcases cP.mp aj with rfl | aj
  .show (2:Nat) <= 1000;decide
  .obtain ⟨d,hd,rfl⟩:=dN.mp aj;show (7:Nat) <= 1000;decide
 rw [jW] at R;obtain ⟨qs,aw,pg,og,xt⟩:=R;have MZ:qs.length=ds.length + 1:=by rw [og];simp [f3]
 obtain ⟨jf,gV,rfl⟩:∃ jf gV,qs=jf :: gV:=by
  cases qs with
  | nil=>simp at MZ
  | cons a b=>exact ⟨a,b,rfl⟩
 obtain ⟨nM,IA⟩:=xt 0 jf _ rfl rfl;nofun;refine ⟨_,aH.of aw,_,dh (j:=0) rfl,⟨jf,_,n,rfl,nM,JJ,e7,fun az s2 f'=>⟨gi _,fun wl fX=>?_⟩⟩⟩;obtain ⟨Tj,acp,aeB,GN⟩:=nM.ins;have Gn:p ≠ jf:=dH aw GN (by intro z;cases z);have d8:az p=some (.lst ((jf :: gV).map V.ref)):=s2 _ _ Gn aw;have qn:aF az (upd az wl (.lst [])):=bN fX;have wb:kK ((jf :: gV).map V.ref) (some 1) none=gV.map V.ref:=by
  unfold kK;simp [fa.cA];exact lz (by rw [a8];exact bW _)
 refine ⟨_,aH.of (qn _ _ d8),fun pc qr=>?_⟩;rw [wb];have pT:pc ≠ wl:=fun z=>by subst z;rw [aR] at qr;cases qr
 have px:aF (upd az wl (.lst [])) (upd (upd az wl (.lst [])) pc (.lst (gV.map V.ref))):=bN qr;refine ⟨⟨_,aH.of aR⟩,?_⟩;have tZ:aF H az:=mG hQ s2 IA;have GP:gV.length=ds.length:=by simpa using MZ
 refine ec.list (xs:=gV.map V.ref) (fun i σ I=>(∃ x,σ=[some (V.str (e4 n ds)),some (V.ref p),some (V.int n),some (V.ref wl),x])/\aM I/\aF H I/\I pc=some (.lst (gV.map V.ref))/\H wl=none/\lN t I wl (ds.take i) /\
  ∀ (j:Nat) (q:Addr) (d:aG),i <= j->gV[j]? = some q->ds[j]? = some d->b9 t I q ((j + 1:Nat):Int) (ki d) 0/\H q=none) ?_ ?_ ?_ ?_
 .refine ⟨⟨_,rfl⟩,(f'.upd).upd,(tZ.trans qn).trans px,aR,tZ.free fX,⟨[],px _ _ aR,rfl,fun j a d h=>by simp at h⟩,fun j q d _ ag ar=>?_⟩;have aj:(f3 n ds)[j + 1]? = some (ki d):=by
   unfold f3;rw [lY,dS,ar];rfl
  obtain ⟨ly,pW⟩:=xt (j + 1) q _ (by rw [lY];exact ag) aj;refine ⟨((ly.jH s2 (z1 ly nM (by omega)) nM.ins).same qn).same px,pW⟩
 .rintro i σ I ak bh;ac_rfl
  obtain ⟨_,_,_,h,_⟩:=bh;subst a7;exact aH.of h
 .rintro i v σ I aK bh;ac_rfl
  obtain ⟨⟨x,rfl⟩,e2,l0,pP,qj,W,Rs⟩:=bh;obtain ⟨q,a4,rfl⟩:=cz aK;obtain ⟨ak,_⟩:=cW.mp a4;have hS:i < ds.length:=by omega
  have hd:ds[i]? = some ds[i]:=cv hS;obtain ⟨lS,Ir⟩:=Rs i q _ (bW _) a4 hd;have nu:(ds.take i).length=i:=by rw [fq];omega
  obtain ⟨as,dc,dI,al⟩:=id W;subst a7;nofun;refine cG false (fun Q aN=>?_) (fun aq=>nomatch aq) (fun _=>?_)
  .nofun;refine ⟨_,.inl (aH.of dc),?_⟩;rw [a8,dI,nu];rw [decide_eq_false (by omega)] <;> exact aN
  .nofun;refine ⟨.inl ⟨_,aH.of dc⟩,?_⟩;refine ⟨q,_,n,wl,ds.take i,ds[i],rfl,lS,cX.al _ (tB hS),JJ,W,by omega,fun e he z=>?_,e2,fun y cj s3 j2 iP ts=>?_⟩
   .obtain ⟨j,bb,rfl⟩:=rd he;rw [List.getElem_take] at z;have EJ:j < i:=by omega
    have:=zj cX.aA (i:=j) (j:=i) (by omega) hS (by rw [oJ (cv (by omega)),oJ hd];exact z);omega
   .nofun;obtain ⟨aih,AL,agK,gA⟩:=lS.ins;have vX:wl ≠ q:=dH dc gA (by intro z;cases z);have lu:cj wl=some (.lst (as.map V.ref)):=s3 _ _ vX dc;have G8:aF H cj:=mG l0 s3 Ir;refine ⟨_,lu,iD (show (as.map V.ref).length <= 12 by rw [a8];omega) (by decide),?_⟩;have DL:y ≠ wl:=fun z=>by
     subst z;rw [dc] at ts;cases ts
    refine ⟨⟨_,rfl⟩,j2.upd,fun b u e=>?_,?_,qj,⟨as ++ [y],by rw [aR,eQ];rfl,?_,fun j a d ag ar=>?_⟩,fun j ef d bb ag ar=>?_⟩
    .rw [aW (cV e qj)];exact G8 _ _ e
    .rw [aW pT];exact s3 _ _ (dH pP gA (by intro z;cases z)) pP
    .rw [eV,dI,nu,fq];show i + 1=_;omega
    .by_cases bb:j < as.length
     .rw [uP bb] at ag;have agn:(ds.take i)[j]? = some d:=by
       rw [vM (by omega)];rw [vM (by omega)] at ar;exact ar
      obtain ⟨aI,fm,e⟩:=al j a d ag agn;have acI:a ≠ q:=PH ⟨aI,fm,e⟩ lS;have Zr:a ≠ wl:=dH e dc (by intro z;cases z);exact ⟨aI,fm,by rw [aW Zr];exact s3 _ _ acI e⟩
     .rw [se (by omega)] at ag;have v9:j - as.length=0:=by
       cases e':j - as.length with
       | zero=>rfl
       | succ m=>rw [e'] at ag;simp at ag
      rw [v9] at ag;have cu:y=a:=by simpa using ag
      subst cu;have gr:j=i:=by omega
      subst gr;rw [vM (by omega),hd] at ar;cases ar;exact ⟨iP.1,iP.2.imp fun fm e=>by rw [aW DL];exact e⟩
    .obtain ⟨ly,pW⟩:=Rs j ef d (by omega) ag ar;have qH:=ly.jH s3 (z1 ly lS (by omega)) lS.ins;refine ⟨?_,pW⟩;obtain ⟨ay,fm,aZ,ax,aD⟩:=qH;refine ⟨ay,fm,aZ,by rw [aW (dH ax lu (by intro z;cases z))];exact ax,?_⟩;rw [aW (fun z=>by
      subst z;rw [lu] at aD;have hj:=dZ aD;injection hj with i3;cases as with
      | nil=>exact absurd (congrArg m8 i3) (by show ¬ (0:Nat)=7;decide)
      | cons a r=>injection i3 with kg _;cases kg)]
     exact aD
 .rintro σ I bh;ac_rfl
  obtain ⟨⟨x,rfl⟩,e2,l0,pP,qj,W,Rs⟩:=bh;subst a7;rw [a8,GP,o3] at W;obtain ⟨as,dc,dI,al⟩:=id W;nofun;refine cG false (fun Q aN=>?_) (fun aq=>nomatch aq) (fun _=>?_)
  .nofun;refine ⟨true,.inl ⟨_,aH.of dc,?_⟩,aN⟩;cases as with
   | nil=>simp at dI;omega
   | cons a r=>rfl
  .nofun;intro c av aq pJ dW;have sc:aF I (upd (upd I av (.own c)) c (.ins t.eF av [])):=((aF.refl I).gB pJ).gB aq;refine ⟨c,av,n,wl,ds,rfl,aR,W.same sc,cX.aA,tG.2,(e2.upd).upd,fun dV s5 s' oG=>⟨rfl,?_⟩⟩;exact iy c dV (mG (l0.trans sc) s5 (l0.free aq)) s' oG
theorem vJ:bT P base T 1 t.q1 t.BB ["self"] (Zi t):=by
 exists T.JI.ok YD,9
 obtain ⟨c,n,ds,rfl,⟨⟨gW,fO⟩,av,wl,aA,ax,⟨as,dc,dI,al⟩,cu⟩,q⟩:=h;refine ⟨_,(aU (bL (ig rfl (gv (c0 (U 0) rfl)) (fU (sc:=br yk) rfl (by ac_nf)) (N:=["way"]) (sel:=[none]) (gf (M:=["self"]) (by ac_nf)) (eZ.of (fun _ _ _ _=>(b1 (i:=0) (eC (N:=["way"]) (by ac_nf) rfl))) (fun _ _ _ _=>⟨_,gX,by walk_at "B"⟩) (fun _ _ _ _=>⟨_,(c0 (U 0) rfl),by walk_at "B"⟩))))),?_⟩;nofun;refine ⟨_,P6 T ax,_,rfl,⟨_,aH.of dc⟩,?_⟩;refine cZ.r' (xs:=as.map V.ref) (zs:=ba (ds.map (·.name))) (aH.of dc) (by rw [a8,dI];exact cp fO (by decide)) (by rw [iJ,a8,a8,dI]) (fun i v z N aK ia bl=>?_) (fun p aw=>q p aw);obtain ⟨a,aS,rfl⟩:=cz aK;obtain ⟨x,ao,rfl⟩:=cz ia;obtain ⟨d,hd,rfl⟩:=cz ao;nofun;exact ⟨Sub.name,_,(al i a d aS hd).zt T,bl⟩
noncomputable def kR (n s f p:Int):Bool:=decide (0 < (p - s) % n) && decide ((p - s) % n < (f - s) % n)
noncomputable def XF (n s f s2 f2:Int):Bool:=decide (f=f2) || (if (s2=s\/s2=f)\/(f2=s\/f2=f) then false else (kR n s f s2 != kR n s f f2))
noncomputable abbrev mt (n:Int) (d e:aG):Bool:=XF n d.start d.fin e.start e.fin
noncomputable def Kn (t:bt):bF:=fun vs H Q _=>∃ a d n p,vs=[.int n,.ref a,.int p]/\eh t H a d/\0 < n/\Q (.bk (kR n d.start d.fin p)) H
noncomputable def wa (n:Int) (d e:aG):Bool:=if (e.start=d.start\/e.start=d.fin)\/(e.fin=d.start\/e.fin=d.fin) then false else (kR n d.start d.fin e.start != kR n d.start d.fin e.fin)
noncomputable def aat (t:bt):bF:=fun vs H Q _=>∃ a b d e n,vs=[.int n,.ref a,.ref b]/\eh t H a d/\eh t H b e/\0 < n/\aM H/\Q (.bk (wa n d e)) H
noncomputable def agd (t:bt):bF:=fun vs H Q _=>∃ a b d e n,vs=[.int n,.ref a,.ref b]/\eh t H a d/\eh t H b e/\0 < n/\∀ I,aF H I->Q (.bk (wa n d e)) I
noncomputable def Xc (t:bt):bF:=fun vs H Q _=>∃ c n ds,∃ i j:Nat,∃ d e,vs=[.ref c,.str d.name,.str e.name]/\d7 t H c n ds/\0 < n/\ds[i]? = some d/\ds[j]? = some e/\aM H/\Q (.bk (mt n d e)) H
theorem Vc:bT P base T 1 t.sq t.uE A2 (Kn t):=by
 exists T.z3.ok NJ,9
 obtain ⟨a,d,n,p,rfl,W,a0,q⟩:=h;refine ⟨_,(aE (bI (i:=3) NJ.aA (Db gz (Db ol (U 2) (c0 (U 1) rfl)) (U 0)))
   (aU (bL (PV (hb oO aJ (U 3) (cc _)) (xl (hb oO (U 3) (Db gz (Db ol (c0 (U 1) rfl) (c0 (U 1) rfl)) (U 0)) (cc _))))))),?_⟩
 nofun;refine ⟨_,W.rR T,_,rfl,a0,?_⟩;unfold kR at q;by_cases c:0 < (p - d.start) % n
 .rw [if_pos (decide_eq_true c)];rw [decide_eq_true c,tF] at q;exact ⟨_,W.oU T,_,W.rR T,_,rfl,_,rfl,a0,q⟩
 .rw [if_neg (by simpa using c)];rw [decide_eq_false c,q0] at q;exact q
theorem Pl (x a b:Int):mM (.int x) [.int a,.int b]=decide (x=a\/x=b):=by
 unfold mM;simp only [uN,List.any_nil,la,Kh];rw [nP];simp only [Az,beq_iff_eq,decide_eq_true_eq];omega
theorem Z0:bT P base T 2 t.wN t.zI yA (aat t):=by
 refine cg.forget (sp:=agd t) ?_ fun vs H Q E h=>?_
 .have I0:cg P w K ai base c7 1 t.sq t.uE A2 (Kn t):=Vc T;exists T.FE.ok T3,9
  obtain ⟨a,b,d,e,n,rfl,hF,m5,a0,q⟩:=h;refine ⟨_,(aE (cI (gy.pt (zU (cy rD (c0 (U 2) rfl) (gD (ab (c0 (U 1) rfl) (ab (c0 (U 1) rfl) au))) (by with_unfolding_all rfl)) (ym (cy rD (c0 (U 2) rfl) (gD (ab (c0 (U 1) rfl) (ab (c0 (U 1) rfl) au))) (by with_unfolding_all rfl))))) (aU (bL jp)) cM)
   (aU (bL (hb jj (bq I0 aj T.LM T.z3.bg T.K8 (ab (U 0) (ab (U 1) (ab (c0 (U 2) rfl) au)))) (bq I0 aj T.LM T.z3.bg T.K8 (ab (U 0) (ab (U 1) (ab (c0 (U 2) rfl) au)))) (cc _))))),?_⟩
  nofun;refine jA (fun b I=>aF H I/\b=decide ((e.start=d.start\/e.start=d.fin)\/(e.fin=d.start\/e.fin=d.fin))) (fun Q aN=>?_) (fun I ⟨bf,af⟩=>?_) (fun I ⟨bf,af⟩=>?_)
  .nofun;refine ⟨_,m5.rR T,_,hF.rR T,_,hF.oU T,by decide,fun p aw=>⟨_,.inl (aH.of aR),rfl,rfl,?_⟩⟩;have s1:aF H (upd H p (.lst [.int d.start,.int d.fin])):=bN aw;rw [Pl];by_cases fg:e.start=d.start\/e.start=d.fin
   .rw [if_pos (decide_eq_true fg)];exact aN _ _ ⟨s1,(decide_eq_true (.inl fg)).symm⟩
   .rw [if_neg (by simpa using fg)];refine ⟨_,(m5.same s1).oU T,_,(hF.same s1).rR T,_,(hF.same s1).oU T,by decide,fun dQ d8=>⟨_,.inl (aH.of aR),rfl,rfl,?_⟩⟩;rw [Pl];refine aN _ _ ⟨s1.trans (bN d8),?_⟩;rw [nP,decide_eq_true_eq,decide_eq_true_eq];exact ⟨.inr,fun z=>z.resolve_left fg⟩
  .nofun;have fv:=of_decide_eq_true af.symm;have:=q I bf;unfold wa at this;rw [if_pos fv] at this;exact this
  .nofun;have fv:=of_decide_eq_false af.symm;refine ⟨_,(m5.same bf).rR T,⟨a,d,n,_,rfl,hF.same bf,a0,?_⟩⟩;refine ⟨_,(m5.same bf).oU T,⟨a,d,n,_,rfl,hF.same bf,a0,?_⟩⟩;refine ⟨rfl,?_⟩;have:=q I bf;unfold wa at this;rw [if_neg fv] at this;rw [show (!decide (V.bk (kR n d.start d.fin e.start)=V.bk (kR n d.start d.fin e.fin)))=(kR n d.start d.fin e.start != kR n d.start d.fin e.fin) by
    cases kR n d.start d.fin e.start <;> cases kR n d.start d.fin e.fin <;> rfl]
   exact this
 .obtain ⟨a,b,d,e,n,ag,ar,bc,cb,a5,q⟩:=h;exact ⟨a5,a,b,d,e,n,ag,ar,bc,cb,fun I bf=>⟨bf,q⟩⟩
theorem WP (n:Int) (d e:aG):mt n d e=(decide (d.fin=e.fin) || wa n d e):=rfl
theorem Rp:bT P base T 3 t.xc t.A_ sL (Xc t):=by
 refine bA (oe T) fun ik=>bA (Z0 T) fun afW=>?_;exists T.Fg.ok GO,9
 obtain ⟨c,n,ds,i,j,d,e,rfl,C,a0,hd,he,a5,q⟩:=h;obtain ⟨_,av,wl,aA,ax,aD,cu⟩:=id C;refine ⟨_,(aE (bI (i:=3) GO.aA (dd (U 0) T.gg T.Gc ik aj T.mz .nil b0 (ab (U 1) au)))
   (aE (bI (i:=4) GO.aA (dd (U 0) T.gg T.Gc ik aj T.mz .nil b0 (ab (U 2) au)))
   (aU (bL (E6 (hb dE (c0 (U 3) rfl) (c0 (U 4) rfl) (cc _)) (xl (bq afW aj T.ac6 T.FE.bg T.af0 (ab (c0 (U 0) rfl) (ab (U 3) (ab (U 4) au)))))))))),?_⟩
 rw [WP] at q;nofun;refine ⟨_,_,ax,hY _ _ _ (by ac_nf),⟨c,n,ds,i,d,rfl,C,hd,fun a hF=>?_⟩⟩;nofun;refine ⟨_,_,ax,hY _ _ _ (by ac_nf),⟨c,n,ds,j,e,rfl,C,he,fun b m5=>?_⟩⟩;nofun;refine ⟨_,hF.oU T,_,m5.oU T,rfl,?_⟩;nofun;by_cases fg:d.fin=e.fin
 .rw [if_pos (decide_eq_true fg)];rw [decide_eq_true fg,BO] at q;exact q
 .rw [if_neg (by simpa using fg)];rw [decide_eq_false fg,xp] at q;exact ⟨_,Vs T ax,⟨a,b,d,e,n,rfl,hF,m5,a0,a5,q⟩⟩
noncomputable def ZQ (t:bt):bF:=fun vs H Q _=>∃ c n ds,∃ i j:Nat,∃ d e,vs=[.ref c,.str d.name,.str e.name]/\d7 t H c n ds/\ds[i]? = some d/\ds[j]? = some e/\Q (.int (if d.off - e.near > 0 then d.off - e.near else 0)) H
theorem Tv:bT P base T 3 t.th t.zm sL (ZQ t):=by
 refine bA (oe T) fun ik=>?_;exists T.SL.ok Gf,9
 obtain ⟨c,n,ds,i,j,d,e,rfl,C,hd,he,q⟩:=h;obtain ⟨_,av,wl,aA,ax,aD,cu⟩:=id C;refine ⟨_,(aE (bI (i:=3) Gf.aA (dd (U 0) T.gg T.Gc ik aj T.mz .nil b0 (ab (U 1) au)))
   (aE (bI (i:=4) Gf.aA (dd (U 0) T.gg T.Gc ik aj T.mz .nil b0 (ab (U 2) au)))
   (aU (bL (hZ (Uz rfl) rfl T.N2 Qh (ab aJ (ab (Db ol (c0 (U 3) rfl) (c0 (U 4) rfl)) au))))))),?_⟩
 nofun;refine ⟨_,_,ax,hY _ _ _ (by ac_nf),⟨c,n,ds,i,d,rfl,C,hd,fun a hF=>?_⟩⟩;nofun;refine ⟨_,_,ax,hY _ _ _ (by ac_nf),⟨c,n,ds,j,e,rfl,C,he,fun b m5=>?_⟩⟩;nofun;refine ⟨_,hF.JG T,_,m5.ab' T,?_⟩;nofun;exact q
structure bK where
 name:Str
 b:Int
 n:Int
noncomputable def g4 (d:bK):dY:=.tup [.str d.name,.int d.b,.int d.n]
noncomputable def PZ (p:Int × Int):dY:=.tup [.int p.1,.int p.2]
noncomputable def cR (x:Str) (sp:List bK):List (Int × Int):=(sp.filter fun d=>decide (d.name=x)).map fun d=>(d.b,d.n)
noncomputable def fA (H:ah) (qs:List Addr) (os:List dY):Prop:=qs.length=os.length/\∀ (i:Nat) (q:Addr) (o:dY),qs[i]? = some q->os[i]? = some o->H q=some o
noncomputable def gj (H:ah) (p:Addr) (os:List dY):Prop:=∃ qs:List Addr,H p=some (.lst (qs.map V.ref))/\fA H qs os
theorem fA.same {H I:ah} {qs:List Addr} {os:List dY} (h:fA H qs os) (s:aF H I):fA I qs os:=⟨h.1,fun i q o ag ar=>s _ _ (h.2 i q o ag ar)⟩
theorem gj.same {H I:ah} {p:Addr} {os:List dY} (h:gj H p os) (s:aF H I):gj I p os:=by
 obtain ⟨qs,e,q⟩:=h;exact ⟨qs,s _ _ e,q.same s⟩
theorem fA.nil (H:ah):fA H [] []:=⟨rfl,fun i q o h _=>by simp at h⟩
theorem fA.app {H:ah} {qs Jw:List Addr} {os BH:List dY} (h:fA H qs os) (h':fA H Jw BH):fA H (qs ++ Jw) (os ++ BH):=by
 refine ⟨by rw [eV,eV,h.1,h'.1],fun i q r ag ar=>?_⟩;rw [List.getElem?_append] at ag ar;rw [h.1] at ag;by_cases c:i < os.length
 .rw [if_pos c] at ag ar;exact h.2 i q r ag ar
 .rw [if_neg c] at ag ar;exact h'.2 _ q r ag ar
theorem fA.one {H:ah} {p:Addr} {o:dY} (e:H p=some o):fA H [p] [o]:=⟨rfl,fun i q fu ag ar=>by
 match i,ag,ar with
 | 0,ag,ar=>cases ag;cases ar;exact e
 | i + 1,ag,_=>simp at ag⟩
theorem fA.at {H:ah} {qs:List Addr} {os:List dY} (h:fA H qs os) {i:Nat} {q:Addr} (a4:qs[i]? = some q):∃ o,os[i]? = some o/\H q=some o:=by
 have ak:i < os.length:=by rw [<- h.1];exact (cW.mp a4).1
 exact ⟨_,cv ak,h.2 i q _ a4 (cv ak)⟩
theorem afT (x:Str) (sp:List bK) (d:bK):cR x (sp ++ [d])=cR x sp ++ if d.name=x then [(d.b,d.n)] else []:=by
 unfold cR;rw [Sj,eQ];congr 1;by_cases c:d.name=x
 .rw [if_pos c,Nf (by simpa using c)];rfl
 .rw [if_neg c,NU (by simpa using c)];rfl
theorem IE (x:Str) (sp:List bK):(cR x sp).length <= sp.length:=by
 unfold cR;rw [a8];exact Tb _ _
theorem k1 {α:Type} {xs:List α} {i:Nat} {x:α} (h:xs[i]? = some x):xs.take (i + 1)=xs.take i ++ [x]:=by
 rw [q5,h];rfl
noncomputable def m2 {α:Type} (z:Int) (v:α) (l:List α) (i:Int):List α:=l.set (i % z).toNat v
noncomputable def i2 {α:Type} (z:Int) (v:α) (b:Int):Nat->List α->List α
 | 0,l=>l
 | k + 1,l=>m2 z v (i2 z v b k l) (b + k)
noncomputable def mW {α:Type} (z:Int) (v:α) (b:Int):Nat->List α->List α
 | 0,l=>l
 | k + 1,l=>m2 z v (mW z v b k l) (b - 1 - k)
theorem Mx {α:Type} (z:Int) (v:α) (l:List α) (i:Int):(m2 z v l i).length=l.length:=by unfold m2;rw [UY]
theorem oB {α:Type} (z:Int) (v:α) (b:Int) (k:Nat) (l:List α):(i2 z v b k l).length=l.length:=by
 induction k with
 | zero=>rfl
 | succ k b2=>unfold i2;rw [Mx,b2]
theorem Br {α:Type} (z:Int) (v:α) (b:Int) (k:Nat) (l:List α):(mW z v b k l).length=l.length:=by
 induction k with
 | zero=>rfl
 | succ k b2=>unfold mW;rw [Mx,b2]
noncomputable def fL (z:Nat) (ps:List (Int × Int)):List Bool:=ps.foldl (fun l p=>i2 z true p.1 p.2.toNat l) (ni z false)
noncomputable def sM (z dy fd:Nat) (l:List Str) (p:Int × Int):List Str:=i2 z (aa "fade") (p.1 + p.2) fd (i2 z (aa "free") p.1 p.2.toNat (mW z (aa "ready") p.1 dy l))
noncomputable def hL (z dy fd:Nat) (ps:List (Int × Int)):List Str:=ps.foldl (sM z dy fd) (ni z (aa "stop"))
theorem VA {z:Nat} {ps:List (Int × Int)} {i:Nat} {p:Int × Int} (h:ps[i]? = some p):fL z (ps.take (i + 1))=i2 z true p.1 p.2.toNat (fL z (ps.take i)):=by
 unfold fL;rw [k1 h,aeo];rfl
theorem UM {z dy fd:Nat} {ps:List (Int × Int)} {i:Nat} {p:Int × Int} (h:ps[i]? = some p):hL z dy fd (ps.take (i + 1))=sM z dy fd (hL z dy fd (ps.take i)) p:=by
 unfold hL;rw [k1 h,aeo];rfl
theorem oF (z:Nat) (ps:List (Int × Int)):(fL z ps).length=z:=by
 unfold fL
 suffices h:∀ l:List Bool,l.length=z->(ps.foldl (fun l p=>i2 z true p.1 p.2.toNat l) l).length=z from h _ (rZ ..)
 induction ps with
 | nil=>exact fun l h=>h
 | cons p ps b2=>exact fun l h=>b2 _ (by rw [oB];exact h)
theorem sV (z dy fd:Nat) (ps:List (Int × Int)):(hL z dy fd ps).length=z:=by
 unfold hL
 suffices h:∀ l:List Str,l.length=z->(ps.foldl (sM z dy fd) l).length=z from h _ (rZ ..)
 induction ps with
 | nil=>exact fun l h=>h
 | cons p ps b2=>exact fun l h=>b2 _ (by unfold sM;rw [oB,oB,Br];exact h)
noncomputable def oV (z:Int) (sp:List bK):Prop:=sp.length <= 100/\∀ d ∈ sp,0 <= d.b/\d.b < 1000/\0 <= d.n/\d.n < 1000
theorem DT {x:Str} {sp:List bK} {p:Int × Int} (h:p ∈ cR x sp):∃ d ∈ sp,d.name=x/\p=(d.b,d.n):=by
 unfold cR at h;obtain ⟨d,hd,rfl⟩:=dN.mp h;have:=vF.mp hd;exact ⟨d,this.1,by simpa using this.2,rfl⟩
theorem aaA {m:Nat} (h:0 < m) (i:Int):mg m (i % (m:Int))=some (i % (m:Int)).toNat:=by
 have ag:=gQ i (show (m:Int) ≠ 0 by omega);have ar:=h1 i (show 0 < (m:Int) by omega);unfold mg;rw [if_pos ag,if_pos ar]
theorem zJ {α β:Type} (f:α->β) {l:List α} {z:Nat} (h:l.length=z) (ay:0 < z) (i:Int):mg (l.map f).length (i % (z:Int))=some (i % (z:Int)).toNat:=by
 rw [a8,h];exact aaA ay i
theorem afS (d:aG):0 <= eW d/\eW d <= 2:=by
 unfold eW;split <;> omega
theorem Y_ {d:aG} (h:0 <= d.off/\d.off <= 1000):0 <= fj d/\fj d <= 1000:=by
 unfold fj;split <;> omega
theorem yd {d:aG} {m:Str} (h:mI.contains m=false):(ky d).lookup m=none:=jK mI (LF _) h
noncomputable def h3 (l:List Bool):List V:=l.map V.bk
theorem AQ {α β:Type} (f:α->β) (z:Int) (v:α) (l:List α) (i:Int):(l.map f).set (i % z).toNat (f v)=(m2 z v l i).map f:=by
 unfold m2;rw [List.map_set]
noncomputable def abd:bF:=fun vs H Q _=>∃ p x sp,vs=[.ref p,.str x]/\gj H p (gb g4 sp)/\sp.length <= 100/\∀ r I,aF H I->(aM H->aM I)->gj I r ((cR x sp).map PZ)->Q (.ref r) I
noncomputable def Xy:bF:=fun vs H Q _=>∃ (z:Nat) (p:Addr) (x:Str) (sp:List bK),vs=[.int z,.ref p,.str x]/\(0 < z/\z <= 1000)/\gj H p (gb g4 sp)/\oV z sp/\∀ r I,aF H I->(aM H->aM I)->H r=none->I r=some (.lst (h3 (fL z (cR x sp))))->Q (.ref r) I
noncomputable def agl (t:bt):bF:=fun vs H Q _=>∃ (a:Addr) (d:aG) (z:Nat) (p:Addr) (sp:List bK),vs=[.ref a,.int z,.ref p]/\(0 < z/\z <= 1000)/\eh t H a d/\gj H p (gb g4 sp)/\oV z sp/\(0 <= d.off/\d.off <= 1000)/\∀ r I,aF H I->(aM H->aM I)->H r=none->I r=some (.lst (ba (hL z (eW d).toNat (fj d).toNat (cR d.name sp))))->Q (.ref r) I
noncomputable def gn (m:List Bool):Nat->Int
 | 0=>0
 | k + 1=>if m[(2 * m.length - 1 - k) % m.length]? = some true then 0 else gn m k + 1
noncomputable def lV (m:List Bool):List Int:=(dG m.length).map fun t=>gn m (2 * m.length - t)
noncomputable def sP (m:List Bool) (k:Nat):List Int:=(dG k).map fun j=>gn m (m.length + j + 1)
theorem YK (m:List Bool):(sP m m.length).reverse=lV m:=by
 unfold sP lV;refine r3 (by simp) (fun i ag ar=>?_);simp at ag;simp;congr 1;omega
noncomputable def tc (m:List Bool):List Int:=(lV m.reverse).reverse
noncomputable def Ry:bF:=fun vs H Q _=>∃ (p:Addr) (m:List Bool),vs=[.ref p]/\H p=some (.lst (h3 m))/\(0 < m.length/\m.length <= 1000)/\∀ r I,aF H I->(aM H->aM I)->H r=none->I r=some (.lst ((lV m).map V.int))->Q (.ref r) I
noncomputable def Sp:bF:=fun vs H Q _=>∃ (p:Addr) (m:List Bool),vs=[.ref p]/\H p=some (.lst (h3 m))/\(0 < m.length/\m.length <= 1000)/\∀ r I,aF H I->(aM H->aM I)->H r=none->I r=some (.lst ((tc m).map V.int))->Q (.ref r) I
theorem tk:bT P base T 1 t.uv t.zy xm abd:=by
 exists T.pk.ok S3,9
 obtain ⟨p,x,sp,rfl,⟨qs,cT,hz⟩,aB,q⟩:=h;refine ⟨_,(aU (bL (ig rfl (gv (U 0)) (fU (sc:=br zZ) rfl (by ac_nf)) (N:=AZ) (sel:=[none,none,none,some 1]) (gf (M:=xm) (by ac_nf)) (eZ.of (fun _ _ _ _=>(h8 (K:=K) (n:=3) rfl rfl (dp (b1 (i:=0) (eC (N:=AZ) (by ac_nf) rfl)) (dp (b1 (i:=1) (eC (N:=AZ) (by ac_nf) rfl)) (dp (b1 (i:=2) (eC (N:=AZ) (by ac_nf) rfl)) hV))))) (fun _ _ _ _=>⟨_,(GB (cy dE (U 0) (U 3) (cc _))),by walk_at "B"⟩) (fun _ _ _ _=>⟨_,(ox (ab (U 1) (ab (U 2) au))),by walk_at "B"⟩))))),?_⟩;nofun;have og:qs.length=sp.length:=by rw [hz.1,a8]
 refine ⟨⟨_,aH.of cT⟩,?_⟩;refine cZ.list (xs:=qs.map V.ref) (fun i ys I=>∃ os:List Addr,ys=os.map V.ref/\fA I os ((cR x (sp.take i)).map PZ)/\aF H I/\(aM H->aM I)) (cp (show (qs.map V.ref).length <= 100 by rw [a8];omega) (by decide)) ⟨[],rfl,fA.nil _,aF.refl _,id⟩ ?_ ?_ ?_
 .rintro i ys I ak bh;ac_rfl
  obtain ⟨os,rfl,r,bf,_⟩:=bh;subst a7;refine ⟨(aH.of cT).same bf,?_⟩;rw [a8,r.1,a8];exact cp (IE _ _) (by rw [fq];omega)
 .rintro i v ys I aK ⟨os,rfl,r,bf,a5⟩ N bl;obtain ⟨kV,gA,rfl⟩:=cz aK;obtain ⟨o,aX,e⟩:=hz.at gA;obtain ⟨d,hd,rfl⟩:=cz aX;have b5:=bf _ _ e;nofun;refine ⟨_,cU.of b5,rfl,_,_,rfl,_,_,rfl,_,_,rfl,rfl,Sub.NB,rfl,?_⟩;dsimp only at bl;rw [k1 hd,afT,eQ] at bl;by_cases c:d.name=x
  .rw [if_pos c] at bl;rw [if_pos (by rw [c];exact decide_eq_true rfl)];refine ⟨by decide,fun ek i4=>bl _ _ ⟨os ++ [ek],by rw [eQ];rfl,(r.same (bN i4)).app (fA.one aR),bf.trans (bN i4),fun n=>(a5 n).upd⟩⟩
  .rw [if_neg c] at bl;rw [if_neg (by rw [decide_eq_true_eq];intro z;exact c (V.str.inj z))];exact bl _ _ ⟨os,rfl,by rw [hE,G0];exact r,bf,a5⟩
 .rintro ys I ⟨os,rfl,r,bf,a5⟩ ek i4;rw [lz (by rw [a8];omega)] at r;exact q _ _ (bf.trans (bN i4)) (fun n=>(a5 n).upd) ⟨os,aR,r.same (bN i4)⟩
theorem Kq:bT P base T 2 t.uw t.xT H6 Xy:=by
 refine bA (tk T) fun m'=>?_;exists T.ze.ok tU,9
 obtain ⟨z,p,x,sp,rfl,ay,L,aC,q⟩:=h;refine ⟨_,(aE (rM (i:=3) tU.aA rfl (l3 rfl) rfl (ja rfl T.iU (ab (U 0) au)) (fU (sc:=br Ab) rfl (by ac_nf)) (N:=["turn"]) (sel:=[none]) (gf (M:=["size","spans","name","marks","begin","turns","step"]) (by ac_nf)) (eZ.of (fun _ _ _ _=>(b1 (i:=0) (eC (N:=["turn"]) (by ac_nf) rfl))) (fun _ _ _ _=>⟨_,gX,by walk_at "B"⟩) (fun _ _ _ _=>⟨_,jp,by walk_at "B"⟩)) rfl)
   (aE (fN fT rfl (gv (bq m' aj T.tC T.pk.bg T.ux (ab (U 1) (ab (U 2) au)))) (h8 (K:=K) (n:=2) rfl rfl (dp (b1 (i:=4) tU.aA) (dp (b1 (i:=5) tU.aA) hV))) (aU (fN fT rfl (ja rfl T.iU (ab (U 5) au)) (b1 (i:=6) tU.aA) (aU (l6 jp (yg (U 3) (Db gz (Db cO (U 4) (U 6)) (U 0)) yU))))))
   (aU (bL (U 3))))),?_⟩
 nofun;obtain ⟨mO,iK⟩:=ay;obtain ⟨wW,gc⟩:=aC;refine ⟨by omega,by omega,?_⟩;refine cZ.uQ (fun _=>V.bk false) (cp (show (z:Int).toNat <= 1000 by omega) (by decide)) (fun i N ak bl=>?_) (fun mk jt=>?_)
 .nofun;exact ⟨Sub.name,bl⟩
 rw [show (dG (z:Int).toNat).map (fun _=>V.bk false)=h3 (fL z []) by
  unfold h3 fL;rw [QA,Zc];exact r3 (by simp) (by simp)]
 refine ⟨p,x,sp,rfl,L.same (bN jt),wW,fun r H1 s1 e7 n_=>⟨r,rfl,?_⟩⟩;obtain ⟨qs,cT,hz⟩:=n_;refine ⟨⟨_,aH.of cT⟩,?_⟩;have nv:H1 mk=some (.lst (h3 (fL z []))):=s1 _ _ aR;have DE:r ≠ mk:=fun e=>by
  subst e;rw [cT] at nv;injection nv with ax;injection ax with aD;have cu:=congrArg m8 aD;cases qs with
  | nil=>simp [h3,oF] at cu;omega
  | cons a qs=>
   have:(h3 (fL z []))[0]? = some (V.ref a):=by rw [<- aD];rfl
   unfold h3 at this;rw [dS] at this;cases e':(fL z [])[0]? with
   | none=>rw [e'] at this;cases this
   | some b=>rw [e'] at this;cases this
 refine ec.list (xs:=qs.map V.ref) (fun i σ I=>(∃ a b c,σ=[some (V.int z),some (V.ref p),some (V.str x),some (V.ref mk),a,b,c])/\cD mk H1 I/\(aM H->aM I)/\I mk=some (.lst (h3 (fL z ((cR x sp).take i))))) ?_ ?_ ?_ ?_
 .exact ⟨⟨_,_,_,rfl⟩,fun b u _ e=>e,fun n=>e7 n.upd,nv⟩
 .rintro i σ I ak bh;ac_rfl
  obtain ⟨_,d4,_,_⟩:=bh;subst a7;exact aH.of (d4 _ _ DE cT)
 .rintro i v σ I aK bh;ac_rfl
  obtain ⟨⟨a,b,c,rfl⟩,d4,e2,hm⟩:=bh;obtain ⟨kV,gA,rfl⟩:=cz aK;obtain ⟨o,aX,e⟩:=hz.at gA;obtain ⟨d,hd,rfl⟩:=cz aX;obtain ⟨c',i1,afN,rfl⟩:=DT (c6 hd);have af:=gc c' i1;have b5:=d4 _ _ (dH e nv (by intro z;cases z)) e;subst a7;nofun;refine ⟨_,cU.of b5,rfl,_,_,rfl,_,_,rfl,rfl,_,rfl,(by dsimp only;omega),(by dsimp only;omega),?_⟩;rw [VA hd];refine ec.range (fun k σ I=>(∃ c,σ=[some (V.int z),some (V.ref p),some (V.str x),some (V.ref mk),some (V.int c'.b),some (V.int c'.n),c])/\cD mk H1 I/\(aM H->aM I)/\I mk=some (.lst (h3 (i2 z true c'.b k (fL z ((cR x sp).take i)))))) ?_ ?_ ?_
  .exact ⟨⟨_,rfl⟩,d4,e2,hm⟩
  .rintro k σ az aI bh;ac_rfl
   obtain ⟨⟨c,rfl⟩,kd,f',j8⟩:=bh;subst a7;nofun;refine ⟨by omega,_,j8,_,zJ V.bk (by rw [oB,oF]) mO _,⟨_,rfl⟩,fun b u af e=>by rw [aW af];exact kd _ _ af e,fun n=>(f' n).upd,?_⟩;rw [aR];unfold h3;rw [AQ V.bk];rfl
  .rintro σ az bh;ac_rfl
   obtain ⟨⟨c,rfl⟩,kd,f',j8⟩:=bh;subst a7;exact ⟨⟨_,_,_,rfl⟩,kd,f',j8⟩
 .rintro σ I bh;ac_rfl
  obtain ⟨⟨a,b,c,rfl⟩,d4,e2,hm⟩:=bh;subst a7;nofun;rw [lz (by rw [a8,hz.1,a8];exact bW _)] at hm;exact q _ _ (mG ((bN jt).trans s1) d4 jt) e2 jt hm
theorem RV:bT P base T 2 t.wt t.BM Ds (agl t):=by
 refine bA (tk T) fun m'=>?_;have Hx:nx P w K ai base c7 1 (sl t) "ready" ["self"] (rB t):=I7 T;have H7:nx P w K ai base c7 1 (sl t) "fade" ["self"] (On t):=LN T;exists T.GI.ok Go,9
 obtain ⟨a,d,z,p,sp,rfl,⟨mO,iK⟩,W,L,⟨wW,gc⟩,Xi,q⟩:=h;refine ⟨_,(aE (rM (i:=3) Go.aA rfl (l3 rfl) rfl (ja rfl T.iU (ab (U 1) au)) (fU (sc:=br BE) rfl (by ac_nf)) (N:=["turn"]) (sel:=[none]) (gf (M:=["way","size","spans","shown","begin","turns","step"]) (by ac_nf)) (eZ.of (fun _ _ _ _=>(b1 (i:=0) (eC (N:=["turn"]) (by ac_nf) rfl))) (fun _ _ _ _=>⟨_,gX,by walk_at "B"⟩) (fun _ _ _ _=>⟨_,bG,by walk_at "B"⟩)) rfl)
   (aE (fN fT rfl (gv (bq m' aj T.tC T.pk.bg T.ux (ab (U 2) (ab (c0 (U 0) rfl) au)))) (h8 (K:=K) (n:=2) rfl rfl (dp (b1 (i:=4) Go.aA) (dp (b1 (i:=5) Go.aA) hV))) (aE (fN fT rfl (ja rfl T.iU (ab (zX (U 0) Hx aj b0) au)) (b1 (i:=6) Go.aA) (aU (l6 bG (yg (U 3) (Db gz (Db ol (Db ol (U 4) aJ) (U 6)) (U 1)) yU))))
   (aE (fN fT rfl (ja rfl T.iU (ab (U 5) au)) (b1 (i:=6) Go.aA) (aU (l6 bG (yg (U 3) (Db gz (Db cO (U 4) (U 6)) (U 1)) yU))))
   (aU (fN fT rfl (ja rfl T.iU (ab (zX (U 0) H7 aj b0) au)) (b1 (i:=6) Go.aA) (aU (l6 bG (yg (U 3) (Db gz (Db cO (Db cO (U 4) (U 5)) (U 6)) (U 1)) yU))))))))
   (aU (bL (U 3))))),?_⟩
 nofun;refine ⟨by omega,by omega,?_⟩;refine cZ.uQ (fun _=>V.str (aa "stop")) (cp (show (z:Int).toNat <= 1000 by omega) (by decide)) (fun i N ak bl=>?_) (fun mk jt=>?_)
 .nofun;exact ⟨Sub.name,bl⟩
 rw [show (dG (z:Int).toNat).map (fun _=>V.str (aa "stop"))=ba (hL z (eW d).toNat (fj d).toNat []) by
  unfold ba hL;rw [QA,Zc];exact r3 (by simp) (by simp)]
 have yq:=afS d;have aiZ:=Y_ Xi;obtain ⟨aP,av,yT⟩:=id W;have mQ:∀ {I:ah},cD mk (upd H mk (.lst (ba (hL z (eW d).toNat (fj d).toNat [])))) I->I a=some (.ins (t.fk d.k) av (ky d)):=fun d4=>d4 _ _ (cV yT jt) ((bN jt) _ _ yT)
 refine ⟨_,(W.same (bN jt)).zt T,p,d.name,sp,rfl,L.same (bN jt),wW,fun r H1 s1 e7 n_=>⟨r,rfl,?_⟩⟩;obtain ⟨qs,cT,hz⟩:=n_;refine ⟨⟨_,aH.of cT⟩,?_⟩;have nv:H1 mk=some (.lst (ba (hL z (eW d).toNat (fj d).toNat []))):=s1 _ _ aR;have DE:r ≠ mk:=fun e=>by
  subst e;rw [cT] at nv;injection nv with ax;injection ax with aD;have cu:=congrArg m8 aD;cases qs with
  | nil=>simp [ba,sV] at cu;omega
  | cons a qs=>
   have:(ba (hL z (eW d).toNat (fj d).toNat []))[0]? = some (V.ref a):=by rw [<- aD];rfl
   unfold ba at this;rw [dS] at this;cases e':(hL z (eW d).toNat (fj d).toNat [])[0]? with
   | none=>rw [e'] at this;cases this
   | some b=>rw [e'] at this;cases this
 have Qy:∀ {I:ah},cD mk H1 I->eh t I a d:=fun d4=>⟨aP,av,d4 _ _ (cV yT jt) (s1 _ _ ((bN jt) _ _ yT))⟩
 refine ec.list (xs:=qs.map V.ref) (fun i σ I=>(∃ a1 b c,σ=[some (V.ref a),some (V.int z),some (V.ref p),some (V.ref mk),a1,b,c])/\cD mk H1 I/\(aM H->aM I)/\I mk=some (.lst (ba (hL z (eW d).toNat (fj d).toNat ((cR d.name sp).take i))))) ?_ ?_ ?_ ?_
 .exact ⟨⟨_,_,_,rfl⟩,fun b u _ e=>e,fun n=>e7 n.upd,nv⟩
 .rintro i σ I ak bh;ac_rfl
  obtain ⟨_,d4,_,_⟩:=bh;subst a7;exact aH.of (d4 _ _ DE cT)
 .rintro i v σ I aK bh;ac_rfl
  obtain ⟨⟨a1,b,c,rfl⟩,d4,e2,hm⟩:=bh;obtain ⟨kV,gA,rfl⟩:=cz aK;obtain ⟨o,aX,e⟩:=hz.at gA;obtain ⟨eS,hd,rfl⟩:=cz aX;obtain ⟨c',i1,afN,rfl⟩:=DT (c6 hd);have af:=gc c' i1;have b5:=d4 _ _ (dH e nv (by intro z;cases z)) e;have W1:=Qy d4;obtain ⟨_,B0,Li⟩:=id W1;subst a7;nofun;refine ⟨_,cU.of b5,rfl,_,_,rfl,_,_,rfl,rfl,_,_,_,Li,⟨_,aP,rfl⟩,yd (by ac_nf),_,d,rfl,W1,rfl,_,rfl,by omega,by omega,?_⟩;rw [UM hd];refine ec.range (fun k σ I=>(∃ c,σ=[some (V.ref a),some (V.int z),some (V.ref p),some (V.ref mk),some (V.int c'.b),some (V.int c'.n),c])/\cD mk H1 I/\(aM H->aM I)/\I mk=some (.lst (ba (mW z (aa "ready") c'.b k (hL z (eW d).toNat (fj d).toNat ((cR d.name sp).take i)))))) ?_ ?_ ?_
  .exact ⟨⟨_,rfl⟩,d4,e2,hm⟩
  .rintro k σ az aI bh;ac_rfl
   obtain ⟨⟨c,rfl⟩,kd,f',j8⟩:=bh;subst a7;nofun;refine ⟨by omega,_,j8,_,zJ V.str (by rw [Br,sV]) mO _,⟨_,rfl⟩,fun b u af e=>by rw [aW af];exact kd _ _ af e,fun n=>(f' n).upd,?_⟩;rw [aR];unfold ba;rw [AQ V.str];rfl
  rintro σ az bh;ac_rfl
  obtain ⟨⟨c,rfl⟩,kd,f',j8⟩:=bh;subst a7;nofun;refine ⟨by omega,by omega,?_⟩;refine ec.range (fun k σ I=>(∃ c,σ=[some (V.ref a),some (V.int z),some (V.ref p),some (V.ref mk),some (V.int c'.b),some (V.int c'.n),c])/\cD mk H1 I/\(aM H->aM I)/\I mk=some (.lst (ba (i2 z (aa "free") c'.b k (mW z (aa "ready") c'.b (eW d).toNat (hL z (eW d).toNat (fj d).toNat ((cR d.name sp).take i))))))) ?_ ?_ ?_
  .exact ⟨⟨_,rfl⟩,kd,f',j8⟩
  .rintro k σ az aI bh;ac_rfl
   obtain ⟨⟨c,rfl⟩,kd,f',j8⟩:=bh;subst a7;nofun;refine ⟨by omega,_,j8,_,zJ V.str (by rw [oB,Br,sV]) mO _,⟨_,rfl⟩,fun b u af e=>by rw [aW af];exact kd _ _ af e,fun n=>(f' n).upd,?_⟩;rw [aR];unfold ba;rw [AQ V.str];rfl
  rintro σ cj bh;ac_rfl
  obtain ⟨⟨c,rfl⟩,Ng,j2,Tc⟩:=bh;have N7:=Qy Ng;obtain ⟨_,agW,lu⟩:=id N7;subst a7;nofun;refine ⟨_,_,_,lu,⟨_,aP,rfl⟩,yd (by ac_nf),_,d,rfl,N7,rfl,_,rfl,by omega,by omega,?_⟩;refine ec.range (fun k σ I=>(∃ c,σ=[some (V.ref a),some (V.int z),some (V.ref p),some (V.ref mk),some (V.int c'.b),some (V.int c'.n),c])/\cD mk H1 I/\(aM H->aM I)/\I mk=some (.lst (ba (i2 z (aa "fade") (c'.b + c'.n) k (i2 z (aa "free") c'.b c'.n.toNat (mW z (aa "ready") c'.b (eW d).toNat (hL z (eW d).toNat (fj d).toNat ((cR d.name sp).take i)))))))) ?_ ?_ ?_
  .exact ⟨⟨_,rfl⟩,Ng,j2,Tc⟩
  .rintro k σ az aI bh;ac_rfl
   obtain ⟨⟨c,rfl⟩,kd,f',j8⟩:=bh;subst a7;nofun;refine ⟨by omega,_,j8,_,zJ V.str (by rw [oB,oB,Br,sV]) mO _,⟨_,rfl⟩,fun b u af e=>by rw [aW af];exact kd _ _ af e,fun n=>(f' n).upd,?_⟩;rw [aR];unfold ba;rw [AQ V.str];rfl
  .rintro σ az bh;ac_rfl
   obtain ⟨⟨c,rfl⟩,kd,f',j8⟩:=bh;subst a7;exact ⟨⟨_,_,_,rfl⟩,kd,f',j8⟩
 .rintro σ I bh;ac_rfl
  obtain ⟨⟨a1,b,c,rfl⟩,d4,e2,hm⟩:=bh;subst a7;nofun;rw [lz (by rw [a8,hz.1,a8];exact bW _)] at hm;exact q _ _ (mG ((bN jt).trans s1) d4 jt) e2 jt hm
theorem Ky:bT P base T 1 t.vW t.AA ["marks"] Ry:=by
 exists T.Au.ok rb,9
 obtain ⟨p,m,rfl,hm,aB,q⟩:=h;refine ⟨_,(aE (bI (i:=1) rb.aA (hZ jx rfl T.jg i_ (ab (U 0) au)))
   (aE (bI (i:=2) rb.aA aJ)
   (aE (bI (i:=3) rb.aA (gD au))
   (aE (fN fT rfl (Th rfl T.iU (ab (Db ol (Db hW aJ (U 1)) aJ) (ab (P_ Pf aJ) (ab (P_ Pf aJ) au)))) (b1 (i:=4) rb.aA) (aE (bI (i:=2) rb.aA (wH (nj (cx dm (U 0) (Db gz (U 4) (U 1)))) aJ (Db cO (U 2) aJ)))
   (aU (cI (cy oO (U 4) (U 1) (cc _)) (aU (d_ (ff l5 n1 o' oP (U 3) (ab (U 2) au)))) cM))))
   (aU (bL (Dj rfl rfl T.A3 rfl T.Dh (ab (U 3) au)))))))),?_⟩
 nofun;refine ⟨_,.inl (aH.of hm),gi _,fun u bE=>?_⟩;have wi:(h3 m).length=m.length:=by unfold h3;rw [a8]
 rw [wi];refine ⟨by unfold oo;omega,by omega,by omega,by omega,by omega,?_⟩;have nz:p ≠ u:=cV hm bE;refine ec.of (n:=2 * m.length) (fun k σ I=>(∃ x,σ=[some (V.ref p),some (V.int m.length),some (V.int (gn m k)),some (V.ref u),x])/\cD u H I/\(aM H->aM I)/\I u=some (.lst ((sP m (k - m.length)).map V.int))) ?_ (fun i σ I ak _=>?_) (fun σ I _=>?_) ?_ ?_
 .exact ⟨⟨_,rfl⟩,fun b o af e=>by rw [aW af];exact e,fun n=>n.upd,by rw [aR,Nat.zero_sub];rfl⟩
 .show i < _;omega
 .show _ <= 2 * m.length;omega
 .rintro k σ cf v I aI ⟨⟨x,rfl⟩,d4,e2,l9⟩ ⟨rfl,rfl⟩;have Se:(2 * m.length - 1 - k) % m.length < m.length:=t2 _ aB.1;have Lk:m[(2 * m.length - 1 - k) % m.length]? = some m[(2 * m.length - 1 - k) % m.length]:=cv Se;have bb:((2 * m.length - 1 - k:Int)) % (m.length:Int)=(((2 * m.length - 1 - k) % m.length:Nat):Int):=by
   rw [Int.natCast_emod];congr 1;omega
  have oZ:iZ (h3 m) ((2 * m.length - 1 - k:Int) % (m.length:Int))=some (V.bk m[(2 * m.length - 1 - k) % m.length]):=by
   rw [bb];exact dh (by unfold h3;rw [dS,Lk];rfl)
  have gk:gn m (k + 1)=if m[(2 * m.length - 1 - k) % m.length]=true then 0 else gn m k + 1:=by
   show (if m[(2 * m.length - 1 - k) % m.length]? = some true then 0 else gn m k + 1)=_;rw [Lk];simp
  simp only [i7,c3,yB,An];exists (fun σ dC=>dC=I/\σ=[some (V.ref p),some (V.int m.length),some (V.int (gn m (k + 1))),some (V.ref u),some (V.int (2 * m.length - 1 - k))]),0
  .nofun;refine ⟨by omega,_,aH.of (d4 _ _ nz hm),_,oZ,_,rfl,?_⟩;rw [gk] at bu;by_cases c:m[(2 * m.length - 1 - k) % m.length]=true
   .rw [if_pos c] at bu ⊢;exact bu _ _ ⟨rfl,rfl⟩
   .rw [if_neg c] at bu ⊢;exact bu _ _ ⟨rfl,rfl⟩
  rintro σ dC ⟨rfl,rfl⟩;subst a7;dsimp only;refine cG (decide ((2 * m.length - 1 - k:Int) < m.length)) (fun Q aN=>?_) (fun aq=>?_) (fun aq=>?_)
  .nofun;exact aN
  .nofun;have qY:=of_decide_eq_true aq;refine ⟨.inl ⟨_,aH.of l9⟩,_,l9,iD (show ((sP m (k - m.length)).map V.int).length <= 1000 by unfold sP;simp;omega) (by decide),⟨_,rfl⟩,fun b o af e=>by rw [aW af];exact d4 _ _ af e,fun n=>(e2 n).upd,?_⟩;rw [aR,show k + 1 - m.length=k - m.length + 1 by omega];unfold sP;rw [z',eQ,eQ];simp only [dP,hE];rw [show m.length + (k - m.length) + 1=k + 1 by omega]
  .nofun;have qY:=of_decide_eq_false aq;refine ⟨⟨_,rfl⟩,d4,e2,?_⟩;rw [l9,show k - m.length=0 by omega,show k + 1 - m.length=0 by omega]
 .rintro σ I bh;ac_rfl
  obtain ⟨⟨x,rfl⟩,d4,e2,l9⟩:=bh;subst a7;nofun;refine ⟨_,aH.of l9,fun l rE=>?_⟩;have ahv:l ≠ u:=fun z=>by subst z;rw [l9] at rE;cases rE
  refine q _ _ ((mG (aF.refl H) d4 bE).trans (bN rE)) (fun n=>(e2 n).upd) ((mG (aF.refl H) d4 bE).free rE) ?_;rw [aR,show 2 * m.length - m.length=m.length by omega,<- Er,YK]
theorem Ub:bT P base T 2 t.t5 t.AG ["marks"] Sp:=by
 refine bA (Ky T) fun B4=>?_;exists T.Hz.ok afn,9
 obtain ⟨p,m,rfl,hm,aB,q⟩:=h;refine ⟨_,(aU (bL (Dj rfl rfl T.A3 rfl T.Dh (ab (bq B4 aj T.OK T.Au.bg T.Do (ab (Dj rfl rfl T.A3 rfl T.Dh (ab (U 0) au)) au)) au)))),?_⟩;nofun;refine ⟨_,aH.of hm,fun cT ag=>?_⟩;refine ⟨cT,m.reverse,rfl,by rw [aR,h3,h3,Er],by rw [pj];exact aB,fun r H1 s1 e7 lJ bE=>⟨r,rfl,_,aH.of bE,fun eu ar=>?_⟩⟩;refine q _ _ (((bN ag).trans s1).trans (bN ar)) (fun n=>(e7 n.upd).upd) (((bN ag).trans s1).free ar) ?_;rw [aR,<- Er];rfl
theorem jV {α:Type} {l:List α} {a x:α} {i:Nat} (h:(l ++ [a])[i]? = some x):(i < l.length/\l[i]? = some x)\/(i=l.length/\x=a):=by
 by_cases ak:i < l.length
 .rw [uP ak] at h;exact .inl ⟨ak,h⟩
 .rw [se (by omega)] at h;have h0:i - l.length=0:=by
   cases e':i - l.length with
   | zero=>rfl
   | succ m=>rw [e'] at h;simp at h
  rw [h0] at h;exact .inr ⟨by omega,(by simpa using h:a=x).symm⟩
noncomputable def rU (ds:List aG):Prop:=∀ d ∈ ds,0 <= d.off/\d.off <= 1000
noncomputable def n0 (ds:List aG) (sp:List bK):Option Str:=(ds.map (·.name)).find? fun x=>(cR x sp).isEmpty
noncomputable def N8 (t:bt):bF:=fun vs H Q _=>∃ c n ds p sp,vs=[.ref c,.ref p]/\d7 t H c n ds/\gj H p (gb g4 sp)/\sp.length <= 100/\n0 ds sp=none/\∀ I,aF H I->(aM H->aM I)->Q .b4 I
noncomputable def qU (z:Int) (sp:List bK) (k:Nat) (d:bK):Int:=(((cR d.name (sp.eraseIdx k)).map fun p=>(p.1 - d.b) % z).min?).getD z
noncomputable def Wd:bF:=fun vs H Q E=>∃ (z:Int) (p:Addr) (sp:List bK) (k:Nat) (d:bK),vs=[.int z,.ref p,.int k]/\0 < z/\gj H p (gb g4 sp)/\sp.length <= 100/\sp[k]? = some d/\∀ I,aF H I->(aM H->aM I)->Q (.int (qU z sp k d)) I
theorem Rt {α:Type} (l:List α) (x:α) (k:Nat):(l ++ [x]).eraseIdx k=if k=l.length then l.eraseIdx k else l.eraseIdx k ++ [x]:=by
 by_cases h:k < l.length
 .rw [if_neg (by omega),List.eraseIdx_append_of_lt_length h]
 .rw [List.eraseIdx_append_of_length_le (by omega),Z5 (l:=l) (by omega)];by_cases ar:k=l.length
  .rw [if_pos ar,ar,Nat.sub_self];simp
  .rw [if_neg ar,Z5 (by simp;omega)]
noncomputable def j_ (ds:List aG) (x:Str):Option aG:=ds.find? fun d=>decide (d.name=x)
noncomputable def sh (ds:List aG) (z:Int) (sp:List bK) (k:Nat) (s:bK):Bool:=(j_ ds s.name).any fun d=>decide (s.n < d.least) || decide (qU z sp k s < s.n + fj d + eW d)
noncomputable def n4 (ds:List aG) (z:Int) (sp:List bK):Option (bK × Nat):=sp.zipIdx.find? fun e=>sh ds z sp e.2 e.1
noncomputable def L8 (t:bt):bF:=fun vs H Q _=>∃ (c:Addr) (n:Int) (ds:List aG) (z:Int) (p:Addr) (sp:List bK),vs=[.ref c,.int z,.ref p]/\d7 t H c n ds/\rU ds/\(0 < z/\z <= 1000)/\gj H p (gb g4 sp)/\oV z sp/\(∀ s ∈ sp,∃ d,j_ ds s.name=some d)/\n4 ds z sp=none/\∀ I,aF H I->(aM H->aM I)->Q .b4 I
theorem M3 {P:Program} {w:World} {K:a'} {ai:Str->Option Value} {base:Heap} {CX:h7} {j k:Nat} {k':Addr->Prop} {m:Str} {ps:List Str} {lM:Addr->bF} (V:nx P w K ai base CX j k' m ps lM) (h:j <= k):nx P w K ai base CX k k' m ps lM:=⟨fun C cX=>by
 obtain ⟨f,fd,ag,ar,bc,cb⟩:=V.ok C cX;exact ⟨f,fd,ag,ar,bc.mono h,cb⟩⟩
theorem Ql {ds:List aG} {x:Str} {d:aG} (h:j_ ds x=some d):d.name=x/\∃ i:Nat,ds[i]? = some d:=by
 unfold j_ at h;refine ⟨by simpa using VQ h,?_⟩;obtain ⟨i,ak,e⟩:=rd (abv h);exact ⟨i,by rw [cv ak,e]⟩
noncomputable def ju (bY b_:aG):Int:=if bY.off - b_.near > 0 then bY.off - b_.near else 0
noncomputable def sg (g:Int) (fc ft:List Int):Option ((Int × Int) × Nat):=(fc.zip ft).zipIdx.find? fun e=>decide (e.1.2=0) && decide (e.1.1 <= g)
noncomputable def ae2 (t:bt):bF:=fun vs H Q _=>∃ (c:Addr) (n:Int) (ds:List aG) (bY b_:aG) (ek dQ:Addr) (fc ft:List Int),vs=[.ref c,.str bY.name,.str b_.name,.ref ek,.ref dQ]/\d7 t H c n ds/\bY ∈ ds/\b_ ∈ ds/\H ek=some (.lst (fc.map V.int))/\H dQ=some (.lst (ft.map V.int))/\fc.length=ft.length/\fc.length <= 1000/\sg (ju bY b_) fc ft=none/\∀ I,aF H I->(aM H->aM I)->Q .b4 I
noncomputable def kl (z:Nat) (sp:List bK) (x:Str):List Int:=tc (fL z (cR x sp))
noncomputable def qC (n:Int) (z:Nat) (sp:List bK) (bY b_:aG):Option Nat:=if bY.name ≠ b_.name/\mt n bY b_=true then (sg (ju bY b_) (kl z sp bY.name) (kl z sp b_.name)).map (·.2) else none
noncomputable def Dm (n:Int) (z:Nat) (sp:List bK) (bY:aG) (ds:List aG):Option (aG × aG × Nat):=ds.findSome? fun b_=>(qC n z sp bY b_).map fun i=>(bY,b_,i)
noncomputable def oL (n:Int) (z:Nat) (sp:List bK) (ds:List aG):Option (aG × aG × Nat):=ds.findSome? fun bY=>Dm n z sp bY ds
noncomputable def Oy (t:bt):bF:=fun vs H Q _=>∃ (c:Addr) (n:Int) (ds:List aG) (z:Nat) (p:Addr) (sp:List bK),vs=[.ref c,.int z,.ref p]/\d7 t H c n ds/\0 < n/\(0 < z/\z <= 1000)/\gj H p (gb g4 sp)/\oV z sp/\aM H/\oL n z sp ds=none/\∀ I,aF H I->aM I->Q .b4 I
theorem xR (m:List Bool):(lV m).length=m.length:=by unfold lV;simp
theorem BA (z:Nat) (sp:List bK) (x:Str):(kl z sp x).length=z:=by
 unfold kl tc;rw [pj,xR,pj,oF]
noncomputable def fP (ds:List aG) (rs:List Addr):List (Key × V):=(ds.zip rs).map fun e=>(du e.1.name,V.ref e.2)
noncomputable def my (H:ah) (p:Addr) (ds:List aG) (f:aG->dY) (n:Nat):Prop:=∃ rs:List Addr,rs.length=n/\H p=some (.bV (fP ds rs))/\∀ (i:Nat) (r:Addr) (d:aG),rs[i]? = some r->ds[i]? = some d->H r=some (f d)
theorem uy {ds:List aG} (h:(ds.map (·.name)).Nodup) {i j:Nat} {d e:aG} (ak:ds[i]? = some d) (bb:ds[j]? = some e) (z:d.name=e.name):i=j:=
 zj h (cW.mp ak).1 (cW.mp bb).1 (by rw [oJ ak,oJ bb];exact z)
theorem Gu {ds:List aG} {rs:List Addr} (h:(ds.map (·.name)).Nodup) {i:Nat} {d:aG} {r:Addr} (hd:ds[i]? = some d) (aj:rs[i]? = some r):c8 (fP ds rs) (du d.name)=some (.ref r):=by
 obtain ⟨ag,ax⟩:=cW.mp hd;obtain ⟨ar,aD⟩:=cW.mp aj;unfold c8;have hf:Kp (fun c1=>decide (c1.1=(du d.name:Key))) (fP ds rs)=some (du d.name,.ref r):=by
  rw [List.find?_eq_some_iff_getElem];refine ⟨by simp,i,by unfold fP;simp;omega,by unfold fP;simp [ax,aD],fun j bb=>?_⟩;unfold fP;simp;intro z;have:=uy h (cv (show j < ds.length by omega)) hd z;omega
 rw [hf];rfl
theorem Gs {ds:List aG} {rs:List Addr} (h:(ds.map (·.name)).Nodup) {d:aG} {r:Addr} (hd:ds[rs.length]? = some d):eA (fP ds rs) (du d.name) (.ref r)=fP ds (rs ++ [r]):=by
 obtain ⟨ag,ax⟩:=cW.mp hd;unfold eA;have no:((fP ds rs).any fun c1=>decide (c1.1=du d.name))=false:=by
  rw [Hv];intro p aw;unfold fP at aw;obtain ⟨e,he,rfl⟩:=dN.mp aw;obtain ⟨j,bb,W'⟩:=rd he;simp only [decide_eq_true_eq];intro z;have z:=rC z;rw [<- W'] at z;simp at bb z;have:=uy h (cv (show j < ds.length by omega)) hd z;omega
 rw [no,if_neg (by decide)];unfold fP;refine r3 (by simp;omega) (fun i bc cb=>?_);simp at bc cb;by_cases c:i < rs.length
 .simp [aaK,c,show i < ds.length by omega];rw [dif_pos (by omega)]
 .have:i=rs.length:=by omega
  subst this;simp [aaK,om ag,ax]
theorem afP:bT P base T 3 t.oW t.tI z7 (N8 t):=by
 refine bA (tk T) fun m'=>bA (vJ T) fun lr=>?_;exists T.F3.ok Ki,9
 obtain ⟨c,n,ds,p,sp,rfl,C,L,aC,bl,q⟩:=h;refine ⟨_,(aU (fN fT rfl (gv (hG (U 0) T.gg T.o6 lr aj T.qh .nil b0)) (b1 (i:=2) Ki.aA) (aU (cI (ou (EO (bq m' aj T.tC T.pk.bg T.ux (ab (U 1) (ab (U 2) au))) (fun _=>rfl))) (aU iE) cM)))),?_⟩;nofun;obtain ⟨_,av,wl,aA,ax,_,_⟩:=id C;refine ⟨_,_,ax,hY _ _ _ (by ac_nf),c,n,ds,rfl,C,fun d3 f9=>⟨d3,rfl,⟨_,aH.of aR⟩,?_⟩⟩;refine ec.list (xs:=ba (ds.map (·.name))) (fun i σ I=>(∃ y,σ=[some (V.ref c),some (V.ref p),y])/\aF (upd H d3 (.lst (ba (ds.map (·.name))))) I/\(aM H->aM I)) ?_ ?_ ?_ ?_
 .exact ⟨⟨_,rfl⟩,aF.refl _,fun n=>n.upd⟩
 .rintro i σ I ak ⟨_,bf,_⟩;exact aH.of (bf _ _ aR)
 .rintro i v σ I aK bh;ac_rfl
  obtain ⟨⟨y,rfl⟩,bf,a5⟩:=bh;obtain ⟨x,ao,rfl⟩:=cz aK;have mv:aF H I:=(bN f9).trans bf;have dW:(cR x sp).isEmpty=false:=by
   have:=n'.mp bl x (c6 ao);simpa using this
  subst a7;nofun;refine jA (fun b az=>b=(cR x sp).isEmpty/\aF I az/\(aM I->aM az)) (fun Q aN=>?_) (fun az r=>?_) (fun az r=>?_)
  .nofun;refine ⟨p,x,sp,rfl,L.same mv,aC,fun r az s2 cQ ⟨qs,cT,eu⟩=>⟨!(cR x sp).isEmpty,.inl ⟨_,aH.of cT,?_⟩,?_⟩⟩
   .have aB:=eu.1;cases qs with
    | nil=>cases h:cR x sp with
     | nil=>rfl
     | cons a r=>rw [h] at aB;simp at aB
    | cons a r=>cases h:cR x sp with
     | nil=>rw [h] at aB;simp at aB
     | cons a r=>rfl
   .rw [Bool.not_not];exact aN _ _ ⟨rfl,s2,cQ⟩
  .exact absurd (r.1.trans dW) (by decide)
  .obtain ⟨bO,dn,j6⟩:=r;nofun;exact ⟨⟨_,rfl⟩,bf.trans dn,fun n=>j6 (a5 n)⟩
 .rintro σ I bh;ac_rfl
  obtain ⟨⟨y,rfl⟩,bf,a5⟩:=bh;subst a7;exact q _ ((bN f9).trans bf) a5
theorem Yk:bT P base T 2 t.tJ t.Ai Ek Wd:=by
 refine bA (tk T) fun m'=>?_;exists T.Cg.ok ub,9
 obtain ⟨z,p,sp,k,d,rfl,ay,⟨qs,cT,hz⟩,aC,aI,q⟩:=h;refine ⟨_,(aE (l6 (cx dm (U 1) (U 2)) (h8 (K:=K) (n:=3) rfl rfl (dp (b1 (i:=3) ub.aA) (dp (Ms (i:=4) ub.aA rfl (nU rfl) (.inl rfl)) (dp (b1 (i:=5) ub.aA) hV)))))
   (aE (rM (i:=6) ub.aA rfl (l3 rfl) rfl (t_ rfl T.vg (ab (U 1) au)) (fU (sc:=br wk) rfl (by ac_nf)) (N:=F2) (sel:=[none,none,some 2]) (gf (M:=Cj) (by ac_nf)) (eZ.of (fun _ _ _ _=>(h8 (K:=K) (n:=2) rfl rfl (dp (b1 (i:=0) (eC (N:=F2) (by ac_nf) rfl)) (dp (b1 (i:=1) (eC (N:=F2) (by ac_nf) rfl)) hV)))) (fun _ _ _ _=>⟨_,(GB (cy jj (U 0) (U 2) (cc _))),by walk_at "B"⟩) (fun _ _ _ _=>⟨_,(U 1),by walk_at "B"⟩)) rfl)
   (aU (bL (Zp rfl rfl T.PP (ab (ig rfl (gv (bq m' aj T.tC T.pk.bg T.ux (ab (U 6) (ab (U 3) au)))) (fU (sc:=br wk) rfl (by ac_nf)) (N:=B6) (sel:=[none,none,some 4,some 0]) (gf (M:=Cj) (by ac_nf)) (eZ.of (fun _ _ _ _=>(h8 (K:=K) (n:=2) rfl rfl (dp (b1 (i:=0) (eC (N:=B6) (by ac_nf) rfl)) (dp (b1 (i:=1) (eC (N:=B6) (by ac_nf) rfl)) hV)))) (fun _ _ _ _=>⟨_,gX,by walk_at "B"⟩) (fun _ _ _ _=>⟨_,(Db gz (Db ol (U 0) (U 2)) (U 3)),by walk_at "B"⟩))) au) (U 0)))))),?_⟩
 nofun;have og:qs.length=sp.length:=by rw [hz.1,a8]
 obtain ⟨CC,ahD⟩:=cW.mp aI;have Nw:qs[k]? = some qs[k]:=cv (by omega);have afi:H qs[k]=some (g4 d):=hz.2 k _ _ Nw (by rw [dS,aI];rfl);refine ⟨_,aH.of cT,_,dh (by rw [dS,Nw];rfl),_,rfl,_,cU.of afi,rfl,_,_,rfl,_,_,rfl,_,_,rfl,rfl,⟨_,aH.of cT⟩,?_⟩;refine cZ.enum (xs:=qs.map V.ref) (fun i ys I=>∃ os:List Addr,ys=os.map V.ref/\fA I os (((sp.take i).eraseIdx k).map g4)/\aF H I/\(aM H->aM I)) (cp (show (qs.map V.ref).length <= 100 by rw [a8];omega) (by decide)) ⟨[],rfl,by rw [MS];exact fA.nil _,aF.refl _,id⟩ ?_ ?_ ?_
 .rintro i ys I ak bh;ac_rfl
  obtain ⟨os,rfl,r,bf,_⟩:=bh;subst a7;refine ⟨(aH.of cT).same bf,?_⟩;rw [a8,r.1,a8];exact cp (Mh ..) (by rw [fq];omega)
 .rintro i v ys I ek aK ⟨os,rfl,r,bf,a5⟩ i4 N bl;obtain ⟨kV,gA,rfl⟩:=cz aK;obtain ⟨o,aX,e⟩:=hz.at gA;obtain ⟨d',sI,rfl⟩:=cz aX;have b5:=bf _ _ e;have s1:aF I (upd I ek (.tup [.int i,.ref kV])):=bN i4;refine gl ?_;dsimp only at bl;have pd:(sp.take i).length=i:=by
   have:=(cW.mp sI).1;rw [fq];omega
  rw [k1 sI,Rt,pd] at bl;nofun;refine ⟨Sub.xD,?_⟩;by_cases c:k=i
  .rw [if_pos c] at bl;rw [if_neg (by subst c;simp)];exact bl _ _ ⟨os,rfl,r.same s1,bf.trans s1,fun n=>(a5 n).upd⟩
  .rw [if_neg c] at bl;rw [if_pos (by simp;omega)];refine bl _ _ ⟨os ++ [kV],by rw [eQ];rfl,?_,bf.trans s1,fun n=>(a5 n).upd⟩;rw [eQ];exact (r.same s1).app (fA.one (s1 _ _ b5))
 .rintro ys I ⟨os,rfl,r,bf,a5⟩ ek i4;rw [lz (by rw [a8];omega)] at r;nofun;have s1:aF I (upd I ek (.lst (os.map V.ref))):=bN i4;refine ⟨ek,d.name,sp.eraseIdx k,rfl,⟨os,aR,r.same s1⟩,cp (Mh ..) aC,fun dn az s2 cQ ⟨tP,fc,ft⟩=>⟨dn,rfl,⟨_,aH.of fc⟩,?_⟩⟩;have tG:(cR d.name (sp.eraseIdx k)).length <= 100:=cp (IE _ _) (cp (Mh ..) aC);have EW:tP.length=(cR d.name (sp.eraseIdx k)).length:=by rw [ft.1,a8]
  refine cZ.r' (zs:=((cR d.name (sp.eraseIdx k)).map fun p=>(p.1 - d.b) % z).map V.int) (aH.of fc) (cp (show (tP.map V.ref).length <= 100 by rw [a8];omega) (by decide)) (by simp [EW]) (fun i v ey N aK ia bl=>?_) (fun l aB=>?_)
  .obtain ⟨kV,gA,rfl⟩:=cz aK;obtain ⟨o,aX,e⟩:=ft.at gA;obtain ⟨pr,CE,rfl⟩:=cz aX;obtain ⟨y,bj,rfl⟩:=cz ia;obtain ⟨ahM,I_,rfl⟩:=cz bj;rw [CE] at I_;cases I_;nofun;exact ⟨_,cU.of e,rfl,_,_,rfl,_,_,rfl,rfl,Sub.xD,_,rfl,ay,bl⟩
  .nofun;refine ⟨_,aH.of aR,?_⟩;have:=q (upd az l (.lst (((cR d.name (sp.eraseIdx k)).map fun p=>(p.1 - d.b) % z).map V.int))) (((bf.trans s1).trans s2).trans (bN aB)) (fun n=>(cQ (a5 n).upd).upd);unfold qU at this;cases hm:((cR d.name (sp.eraseIdx k)).map fun p=>(p.1 - d.b) % z).min? with
   | none=>rw [hm] at this;exact this
   | some m=>rw [hm] at this;exact this
theorem Wq:bT P base T 4 t.p_ t.u3 n9 (L8 t):=by
 refine bA (Yk T) fun W7=>bA (oe T) fun ik=>?_;have Hx:nx P w K ai base c7 3 (sl t) "ready" ["self"] (rB t):=M3 (I7 T) (by decide);have H7:nx P w K ai base c7 3 (sl t) "fade" ["self"] (On t):=M3 (LN T) (by decide);exists T.Fk.ok n3,9
 obtain ⟨c,n,ds,z,p,sp,rfl,C,bu,ay,⟨qs,cT,hz⟩,aC,aI,bl,q⟩:=h;refine ⟨_,(aU (fN fT rfl (t_ rfl T.vg (ab (U 2) au)) (h8 (K:=K) (n:=2) rfl rfl (dp (b1 (i:=3) n3.aA) (dp (b1 (i:=4) n3.aA) hV))) (aE (l6 (U 4) (h8 (K:=K) (n:=3) rfl rfl (dp (b1 (i:=5) n3.aA) (dp (b1 (i:=6) n3.aA) (dp (b1 (i:=7) n3.aA) hV)))))
   (aE (bI (i:=8) n3.aA (dd (U 0) T.gg T.Gc ik aj T.mz .nil b0 (ab (U 5) au)))
   (aE (bI (i:=9) n3.aA (Db cO (Db cO (U 7) (zX (U 8) H7 aj b0)) (zX (U 8) Hx aj b0)))
   (aU (cI (gy.pt (zU (cy oO (U 7) (c0 (U 8) rfl) (cc _)) (ym (cy oO (bq W7 aj T.aeG T.Cg.bg T.UR (ab (U 1) (ab (U 2) (ab (U 3) au)))) (U 9) (cc _))))) (aU iE) cM))))))),?_⟩
 nofun;have og:qs.length=sp.length:=by rw [hz.1,a8]
 refine ⟨⟨_,aH.of cT⟩,?_⟩;refine ec.enum (xs:=qs.map V.ref) (fun i σ I=>(∃ a b fg d e f g,σ=[some (V.ref c),some (V.int z),some (V.ref p),a,b,fg,d,e,f,g])/\aF H I/\(aM H->aM I)) ?_ ?_ ?_ ?_
 .exact ⟨⟨_,_,_,_,_,_,_,rfl⟩,aF.refl _,id⟩
 .rintro i σ I ak ⟨_,bf,_⟩;exact aH.of (bf _ _ cT)
 .rintro i v σ jl ek aK ⟨⟨a1,a2,aiW,ait,agQ,wO,agB,rfl⟩,bf,a5⟩ i4;obtain ⟨kV,gA,rfl⟩:=cz aK;obtain ⟨o,aX,e⟩:=hz.at gA;obtain ⟨c',i1,rfl⟩:=cz aX;obtain ⟨ak,su⟩:=cW.mp i1;have Fs:sh ds z sp i c'=false:=by
   have:=n'.mp bl (c',i) (by rw [Mi];exact ⟨i,by rw [TF,i1];simp⟩);simpa using this
  have s1:aF jl (upd jl ek (.tup [.int i,.ref kV])):=bN i4;refine gl ?_;have e7:aM H->aM (upd jl ek (.tup [.int i,.ref kV])):=fun n=>(a5 n).upd
  generalize upd jl ek (.tup [.int i,.ref kV])=I at s1 e7 ⊢;have mv:aF H I:=bf.trans s1;obtain ⟨d,hd⟩:=aI c' (c6 i1);obtain ⟨p4,j,bb⟩:=Ql hd;have ji:=C.same mv;obtain ⟨_,av,wl,aA,ax,_,_⟩:=id ji;have iW:sh ds z sp i c'=(decide (c'.n < d.least) || decide (qU z sp i c' < c'.n + fj d + eW d)):=by
   unfold sh;rw [hd];rfl
  nofun;refine ⟨_,cU.of (mv _ _ e),rfl,_,_,rfl,_,_,rfl,_,_,rfl,rfl,_,_,ax,hY _ _ _ (by ac_nf),c,n,ds,j,d,by rw [p4],ji,bb,fun a W=>?_⟩;obtain ⟨aP,ah5,aS⟩:=id W;refine ⟨a,rfl,_,_,_,aS,⟨_,aP,rfl⟩,yd (by ac_nf),a,d,rfl,W,rfl,_,rfl,_,rfl,a,rfl,_,_,_,aS,⟨_,aP,rfl⟩,yd (by ac_nf),a,d,rfl,W,rfl,_,rfl,?_⟩;refine jA (fun b az=>b=sh ds z sp i c'/\aF I az/\(aM I->aM az)) (fun Q aN=>?_) (fun az r=>?_) (fun az r=>?_)
  .rw [iW] at aN;nofun;refine ⟨_,W.YY T,_,rfl,?_⟩;by_cases fg:c'.n < d.least
   .rw [decide_eq_true fg] at aN;rw [if_pos (decide_eq_true fg)];exact aN _ _ ⟨rfl,aF.refl _,id⟩
   .rw [decide_eq_false fg,xp] at aN;rw [if_neg (by simpa using fg)];exact ⟨z,p,sp,i,c',rfl,ay.1,⟨qs,mv _ _ cT,hz.same mv⟩,aC.1,i1,fun az s2 cQ=>⟨_,rfl,aN _ _ ⟨rfl,s2,cQ⟩⟩⟩
  .exact absurd (r.1.trans Fs) (by decide)
  .obtain ⟨bO,dn,j6⟩:=r;exact ⟨⟨_,_,_,_,_,_,_,rfl⟩,mv.trans dn,fun n=>j6 (e7 n)⟩
 .rintro σ I ⟨_,bf,a5⟩;exact q _ bf a5
theorem XO:bT P base T 4 t.we t.AE Ic (ae2 t):=by
 refine bA (Tv T) fun aam=>?_;exists T.Ch.ok yX,9
 obtain ⟨c,n,ds,bY,b_,ek,dQ,fc,ft,rfl,C,ag,ar,n_,L2,aB,hm,bl,q⟩:=h;refine ⟨_,(aE (bI (i:=5) yX.aA (bq aam aj T.W0 T.SL.bg T.ae3 (ab (U 0) (ab (U 1) (ab (U 2) au)))))
   (aU (fN fT rfl (t_ rfl T.vg (ab (U 3) au)) (h8 (K:=K) (n:=2) rfl rfl (dp (b1 (i:=6) yX.aA) (dp (b1 (i:=7) yX.aA) hV))) (aU (cI (gy.pt (xe (cy dE (cx dm (U 4) (U 6)) aJ (cc _)) (vi (cy RD (U 7) (U 5) (cc _))))) (aU iE) cM))))),?_⟩
 nofun;obtain ⟨Cq,WZ,abD⟩:=rd ag;obtain ⟨MT,Hj,aaG⟩:=rd ar;refine ⟨c,n,ds,Cq,MT,bY,b_,rfl,C,by rw [cv WZ,abD],by rw [cv Hj,aaG],⟨_,aH.of n_⟩,?_⟩;rw [show (if bY.off - b_.near > 0 then bY.off - b_.near else 0)=ju bY b_ from rfl];refine ec.enum (xs:=fc.map V.int) (fun i σ I=>(∃ a b,σ=[some (V.ref c),some (V.str bY.name),some (V.str b_.name),some (V.ref ek),some (V.ref dQ),some (V.int (ju bY b_)),a,b])/\aF H I/\(aM H->aM I)) ?_ ?_ ?_ ?_
 .exact ⟨⟨_,_,rfl⟩,aF.refl _,id⟩
 .rintro i σ I ak ⟨_,bf,_⟩;exact aH.of (bf _ _ n_)
 .rintro i v σ jl l_ aK ⟨⟨a1,a2,rfl⟩,bf,a5⟩ nG;obtain ⟨hO,Bu,rfl⟩:=cz aK;obtain ⟨ak,agt⟩:=cW.mp Bu;have aaY:i < ft.length:=by omega
  have MH:ft[i]? = some ft[i]:=cv aaY;have Fs:(decide (ft[i]=0) && decide (hO <= ju bY b_))=false:=by
   have:=n'.mp bl ((hO,ft[i]),i) (by rw [Mi];exact ⟨i,by rw [TF,JF (z:=(hO,ft[i])) |>.mpr ⟨Bu,MH⟩];simp⟩);simpa using this
  have s1:aF jl (upd jl l_ (.tup [.int i,.int hO])):=bN nG;refine gl ?_;have e7:aM H->aM (upd jl l_ (.tup [.int i,.int hO])):=fun n=>(a5 n).upd
  generalize upd jl l_ (.tup [.int i,.int hO])=I at s1 e7 ⊢;have mv:aF H I:=bf.trans s1;nofun;refine cG (decide (ft[i]=0) && decide (hO <= ju bY b_)) (fun Q aN=>?_) (fun fg=>?_) (fun fg=>?_)
  .nofun;refine ⟨_,aH.of (mv _ _ L2),_,dh (by rw [dS,MH];rfl),rfl,?_⟩;by_cases dT:ft[i]=0
   .rw [decide_eq_true dT,tF] at aN;rw [if_pos (by rw [dT];exact decide_eq_true rfl)];exact aN
   .rw [decide_eq_false dT,q0] at aN;rw [if_neg (by rw [decide_eq_true_eq];exact fun e=>dT (V.int.inj e))];exact aN
  .exact absurd (fg.symm.trans Fs) (by decide)
  .exact ⟨⟨_,_,rfl⟩,mv,e7⟩
 .rintro σ I ⟨_,bf,a5⟩;exact q _ bf a5
theorem aff:bT P base T 5 t.pZ t.vt n9 (Oy t):=by
 refine bA (Ub T) fun XJ=>bA (Kq T) fun ID=>bA (vJ T) fun lr=>bA (Rp T) fun aaU=>bA (XO T) fun YF=>?_;exists T.C6.ok Uf,9
 obtain ⟨c,n,ds,z,p,sp,rfl,C,a0,ay,L,aC,ti,bl,q⟩:=h;have bE:=No aj;refine ⟨_,(aE (bI (i:=3) Uf.aA nY)
   (aE (fN fT rfl (gv (hG (U 0) T.gg T.o6 lr aj T.qh .nil b0)) (b1 (i:=4) Uf.aA) (aU (o_ bE (U 3) (U 4) (bq XJ aj T.sw T.Hz.bg T.X' (ab (bq ID aj T.Os T.ze.bg T.JO (ab (U 1) (ab (U 2) (ab (U 4) au)))) au)) rfl)))
   (aU (fN fT rfl (gv (hG (U 0) T.gg T.o6 lr aj T.qh .nil b0)) (b1 (i:=5) Uf.aA) (aU (fN fT rfl (gv (hG (U 0) T.gg T.o6 lr aj T.qh .nil b0)) (b1 (i:=6) Uf.aA) (aU (cI (gy.pt (xe (cy jj (U 5) (U 6) (cc _)) (vi (nj (bq aaU aj T.acL T.Fg.bg T.Y3 (ab (U 0) (ab (U 5) (ab (U 6) au)))))))) (aU (d_ (bq YF aj T.Yq T.Ch.bg T.abV (ab (U 0) (ab (U 5) (ab (U 6) (ab (lX bE (U 3) (U 5) (fun _ _=>rfl)) (ab (lX bE (U 3) (U 6) (fun _ _=>rfl)) au)))))))) cM)))))))),?_⟩
 nofun;intro nK MO;obtain ⟨⟨gW,fO⟩,av,wl,aA,ax,_,_⟩:=id C;have s0:aF H (upd H nK (.bV [])):=bN MO;refine ⟨_,_,s0 _ _ ax,hY _ _ _ (by ac_nf),c,n,ds,rfl,C.same s0,fun d3 f9=>⟨d3,rfl,⟨_,aH.of aR⟩,?_⟩⟩;have zY:d3 ≠ nK:=fun e=>by subst e;rw [aR] at f9;cases f9
 refine ec.list (xs:=ba (ds.map (·.name))) (fun i σ I=>(∃ y,σ=[some (V.ref c),some (V.int z),some (V.ref p),some (V.ref nK),y,none,none])/\aF H I/\aM I/\I d3=some (.lst (ba (ds.map (·.name))))/\my I nK ds (fun d=>.lst ((kl z sp d.name).map V.int)) i) ?_ ?_ ?_ ?_
 .exact ⟨⟨_,rfl⟩,s0.trans (bN f9),(ti.upd).upd,aR,[],rfl,by rw [aW (eY zY),aR];simp [fP],fun i r d h=>by simp at h⟩
 .rintro i σ I ak bh;ac_rfl
  obtain ⟨_,_,_,h,_⟩:=bh;subst a7;exact aH.of h
 .rintro i v σ I aK bh;ac_rfl
  obtain ⟨⟨y,rfl⟩,bf,a5,hM,rs,hg,Zb,iO⟩:=bh;obtain ⟨x,ao,rfl⟩:=cz aK;obtain ⟨d,hd,rfl⟩:=cz ao;subst a7;nofun;refine ⟨z,p,d.name,sp,rfl,ay,L.same bf,aC,fun bO H1 s1 cq lJ ag=>⟨bO,_,rfl,ag,by rw [oF];exact ay,fun dn az s2 cQ xv ar=>?_⟩⟩;have AS:=s1.trans s2;have d8:=AS _ _ Zb;refine ⟨_,k2.k (k:=du d.name) d8 (iD (show (fP ds rs).length <= 12 by unfold fP;rw [a8,E9];omega) (by decide)),?_⟩;have p0:ds[rs.length]? = some d:=by rw [hg];exact hd
  rw [Gs gW p0];have dW:∀ {b:Addr} {ys:List V},az b=some (.lst ys)->b ≠ nK:=fun e=>dH e d8 (by intro z;cases z)
  refine ⟨⟨_,rfl⟩,fun b u e=>?_,(cQ (cq a5)).upd,?_,rs ++ [dn],by rw [eV,hg];rfl,aR,fun j r e bb he=>?_⟩
  .rw [aW (cV e MO)];exact AS _ _ (bf _ _ e)
  .rw [aW zY];exact AS _ _ hM
  .rcases jV bb with ⟨_,e3⟩ | ⟨eJ,rfl⟩
   .have:=AS _ _ (iO j r e e3 he);rw [aW (dW this)];exact this
   .rw [eJ] at he;rw [p0] at he;cases he;rw [aW (dW ar)];exact ar
 rintro σ H1 bh;ac_rfl
 obtain ⟨⟨y,rfl⟩,hQ,e7,ahs,p6⟩:=bh;have o5:(ba (ds.map (·.name))).length=ds.length:=by unfold ba;simp
 subst a7;rw [o5] at p6;obtain ⟨rs,hg,MX,iO⟩:=p6;have w4:=C.same hQ;nofun;refine ⟨_,_,hQ _ _ ax,hY _ _ _ (by ac_nf),c,n,ds,rfl,w4,fun dQ d8=>⟨dQ,rfl,⟨_,aH.of aR⟩,?_⟩⟩;refine ec.list (xs:=ba (ds.map (·.name))) (fun i σ I=>(∃ y u v,σ=[some (V.ref c),some (V.int z),some (V.ref p),some (V.ref nK),y,u,v])/\aF H1 I/\aM I/\I dQ=some (.lst (ba (ds.map (·.name))))) ?_ ?_ ?_ ?_
 .exact ⟨⟨_,_,_,rfl⟩,bN d8,e7.upd,aR⟩
 .rintro i σ I ak bh;ac_rfl
  obtain ⟨_,_,_,h⟩:=bh;subst a7;exact aH.of h
 .rintro i v σ az aK bh;ac_rfl
  obtain ⟨⟨y,u,iI,rfl⟩,mF,f',S8⟩:=bh;obtain ⟨x,ao,rfl⟩:=cz aK;obtain ⟨bY,sx,rfl⟩:=cz ao;obtain ⟨ak,su⟩:=cW.mp sx;have lB:Dm n z sp bY ds=none:=F1.mp bl bY (c6 sx);have pD:=w4.same mF;subst a7;nofun;refine ⟨_,_,mF _ _ (hQ _ _ ax),hY _ _ _ (by ac_nf),c,n,ds,rfl,pD,fun l_ nG=>⟨l_,rfl,⟨_,aH.of aR⟩,?_⟩⟩;refine ec.list (xs:=ba (ds.map (·.name))) (fun j σ I=>(∃ y v,σ=[some (V.ref c),some (V.int z),some (V.ref p),some (V.ref nK),y,some (V.str bY.name),v])/\aF az I/\aM I/\I l_=some (.lst (ba (ds.map (·.name))))) ?_ ?_ ?_ ?_
  .exact ⟨⟨_,_,rfl⟩,bN nG,f'.upd,aR⟩
  .rintro i σ I ak bh;ac_rfl
   obtain ⟨_,_,_,h⟩:=bh;subst a7;exact aH.of h
  .rintro j v σ cj aK bh;ac_rfl
   obtain ⟨⟨y,iI,rfl⟩,o9,j2,Jl⟩:=bh;obtain ⟨x,ao,rfl⟩:=cz aK;obtain ⟨b_,hd2,rfl⟩:=cz ao;obtain ⟨bb,ag4⟩:=cW.mp hd2;have iW:(qC n z sp bY b_).map (fun i=>(bY,b_,i))=none:=F1.mp lB b_ (c6 hd2);have iW:qC n z sp bY b_=none:=by simpa using iW
   have tu:=pD.same o9;have AY:=mF.trans o9;subst a7;nofun;refine cG (decide (bY.name ≠ b_.name) && mt n bY b_) (fun Q aN=>?_) (fun fg=>?_) (fun fg=>?_)
   .nofun;by_cases dT:bY.name=b_.name
    .rw [decide_eq_false (fun z=>z dT),q0] at aN;rw [if_neg (by simp [dT])];exact aN
    .rw [decide_eq_true dT,tF] at aN;rw [if_pos (by simp [dT])];exact ⟨c,n,ds,i,j,bY,b_,rfl,tu,a0,sx,hd2,j2,_,rfl,aN⟩
   .rw [iV] at fg;have pQ:qC n z sp bY b_=(sg (ju bY b_) (kl z sp bY.name) (kl z sp b_.name)).map (·.2):=by
     unfold qC;rw [if_pos ⟨of_decide_eq_true fg.1,fg.2⟩]
    rw [pQ] at iW;have iW:sg (ju bY b_) (kl z sp bY.name) (kl z sp b_.name)=none:=by simpa using iW
    have lJ:rs[i]? = some rs[i]:=cv (by omega);have xv:rs[j]? = some rs[j]:=cv (by omega);have g1:Ev cj nK (.str bY.name) (some (.ref rs[i])):=by rw [<- Gu gW sx lJ];exact Ev.k (k:=du bY.name) (AY _ _ MX)
    have g2:Ev cj nK (.str b_.name) (some (.ref rs[j])):=by rw [<- Gu gW hd2 xv];exact Ev.k (k:=du b_.name) (AY _ _ MX)
    nofun;refine ⟨_,g1,_,g2,c,n,ds,bY,b_,_,_,_,_,rfl,tu,c6 sx,c6 hd2,AY _ _ (iO i _ _ lJ sx),AY _ _ (iO j _ _ xv hd2),by rw [BA,BA],by rw [BA];exact ay.2,iW,fun dC s4 h2=>⟨(by first | exact ⟨_,_,rfl⟩ | exact ⟨_,rfl⟩ | simp),o9.trans s4,h2 j2,s4 _ _ Jl⟩⟩
   .exact ⟨⟨_,_,rfl⟩,o9,j2,Jl⟩
  .rintro σ I bh;ac_rfl
   obtain ⟨⟨y,iI,rfl⟩,o9,j2,_⟩:=bh;subst a7;exact ⟨⟨_,_,_,rfl⟩,mF.trans o9,j2,o9 _ _ S8⟩
 .rintro σ I bh;ac_rfl
  obtain ⟨_,bf,a5,_⟩:=bh;subst a7;exact q _ (hQ.trans bf) a5
noncomputable abbrev tM:List Str:=[aa "crossing",aa "size",aa "spans",aa "lamps",aa "untils"]
noncomputable def lj (c:Addr) (z:Int) (p lm un:Addr):List (Str × V):=[(aa "crossing",.ref c),(aa "size",.int z),(aa "spans",.ref p),(aa "lamps",.ref lm),(aa "untils",.ref un)]
theorem y5 (c:Addr) (z:Int) (p lm un:Addr):(lj c z p lm un).map (·.1)=tM:=rfl
noncomputable def ob (z:Nat) (sp:List bK) (d:aG):List Str:=hL z (eW d).toNat (fj d).toNat (cR d.name sp)
noncomputable def ee (z:Nat) (sp:List bK) (x:Str):List Int:=lV (fL z (cR x sp))
structure fH (t:bt) (H:ah) (a c:Addr) (n:Int) (ds:List aG) (z:Nat) (sp:List bK):Prop where
 at_:∃ av p lm un,H a=some (.ins t.eE av (lj c z p lm un))/\d7 t H c n ds/\gj H p (gb g4 sp)/\my H lm ds (fun d=>.lst (ba (ob z sp d))) ds.length/\my H un ds (fun d=>.lst ((ee z sp d.name).map V.int)) ds.length
noncomputable def Kw (t:bt):bF:=fun vs H Q _=>∃ (a av c:Addr) (n:Int) (ds:List aG) (z:Nat) (p:Addr) (sp:List bK),vs=[.ref a,.ref c,.int z,.ref p]/\H a=some (.ins t.eE av [])/\d7 t H c n ds/\rU ds/\(0 < z/\z <= 1000)/\gj H p (gb g4 sp)/\oV z sp/\aM H /\
 ∀ I,cD a H I->aM I->fH t I a c n ds z sp->Q .b4 I
noncomputable def RZ (t:bt):bF:=fun vs H Q _=>∃ (c:Addr) (n:Int) (ds:List aG) (z:Nat) (p:Addr) (sp:List bK),vs=[.ref c,.int z,.ref p]/\d7 t H c n ds/\0 < n/\rU ds/\(0 < z/\z <= 1000)/\gj H p (gb g4 sp)/\oV z sp/\(∀ s ∈ sp,∃ d,j_ ds s.name=some d)/\aM H/\n0 ds sp=none/\n4 ds z sp=none/\oL n z sp ds=none /\
 ∀ a I,aF H I->aM I->fH t I a c n ds z sp->Q (.ref a) I
section
variable {w:World} {K:a'} {ai:Str->Option Value} {t:bt} {H:ah} {a c av p lm un:Addr} {z:Int}
theorem Pw (T:Txt w K ai t) (e:H a=some (.ins t.eE av (lj c z p lm un))):hB K H a (aa "lamps") (.ref lm):=⟨_,av,_,e,T.ny,T.Ov,jQ tM 3 (y5 ..) (by ac_nf) rfl⟩
theorem AW (T:Txt w K ai t) (e:H a=some (.ins t.eE av (lj c z p lm un))):hB K H a (aa "untils") (.ref un):=⟨_,av,_,e,T.ny,T.QN,jQ tM 4 (y5 ..) (by ac_nf) rfl⟩
end
theorem Nb {H:ah} {a b C ji av fm:Addr} {a_:List (Str × V)} (aS:H a=some (.ins C av [])) (af:H b=some (.ins ji fm a_)) (hf:a_ ≠ []):b ≠ a:=fun z=>by
 subst z;rw [af] at aS;have e:=dZ aS;injection e with _ _ cu;exact hf cu
theorem d7.jH {t:bt} {H I:ah} {a c C av:Addr} {n:Int} {ds:List aG} (h:d7 t H c n ds) (s:cD a H I) (aS:H a=some (.ins C av [])):d7 t I c n ds:=by
 obtain ⟨h0,fm,wl,aA,ax,⟨as,dc,dI,al⟩,cu⟩:=h;refine ⟨h0,fm,wl,aA,s _ _ (Nb aS ax (by unfold lQ;simp)) ax,⟨as,s _ _ (dH dc aS (by intro z;cases z)) dc,dI,fun i b d af hd=>?_⟩,s _ _ (dH cu aS (by intro z;cases z)) cu⟩;obtain ⟨k,Vw,e8⟩:=al i b d af hd;exact ⟨k,Vw,s _ _ (Nb aS e8 (by unfold ky;simp)) e8⟩
theorem gj.jH {H I:ah} {a p C av:Addr} {sp:List bK} (h:gj H p (gb g4 sp)) (s:cD a H I) (aS:H a=some (.ins C av [])):gj I p (gb g4 sp):=by
 obtain ⟨qs,cT,eu⟩:=h;refine ⟨qs,s _ _ (dH cT aS (by intro z;cases z)) cT,eu.1,fun i q o a4 aX=>?_⟩;have e:=eu.2 i q o a4 aX;refine s _ _ (dH e aS ?_) e;obtain ⟨d,_,rfl⟩:=cz aX;intro z;cases z
theorem YT:bT P base T 4 t.pO t.ug zD (Kw t):=by
 refine bA (RV T) fun Uc=>bA (Ky T) fun B4=>bA (Kq T) fun ID=>bA (vJ T) fun lr=>bA (oe T) fun ik=>?_;exists T.MN.ok LI,9
 obtain ⟨a,av,c,n,ds,z,p,sp,rfl,aS,C,bu,ay,L,aC,ti,q⟩:=h;have bE:=No aj;refine ⟨_,(aE (gR (U 0) (U 1) rfl)
   (aE (gR (U 0) (U 2) rfl)
   (aE (gR (U 0) (U 3) rfl)
   (aE (gR (U 0) nY rfl)
   (aE (gR (U 0) nY rfl)
   (aU (fN fT rfl (gv (hG (U 1) T.gg T.o6 lr aj T.qh .nil b0)) (b1 (i:=4) LI.aA) (aE (o_ bE (c0 (U 0) rfl) (U 4) (bq Uc aj T.abg T.GI.bg T.YB (ab (dd (U 1) T.gg T.Gc ik aj T.mz .nil b0 (ab (U 4) au)) (ab (U 2) (ab (U 3) au)))) rfl)
   (aU (o_ bE (c0 (U 0) rfl) (U 4) (bq B4 aj T.OK T.Au.bg T.Do (ab (bq ID aj T.Os T.ze.bg T.JO (ab (U 2) (ab (U 3) (ab (U 4) au)))) au)) rfl)))))))))),?_⟩
 nofun;refine ⟨_,_,_,aS,T.ny,T.JS,by decide,?_⟩;refine ⟨_,_,_,aR,T.ny,T.Is,eO (n:=999) (by decide),?_⟩;refine ⟨_,_,_,aR,T.ny,T.age,eO (n:=999) (eO (n:=998) (by decide)),fun lm sR=>?_⟩;simp only [q3] at sR ⊢;rw [show dk (aa "crossing") (V.ref c) ([]:List (Str × V))=[(aa "crossing",V.ref c)] from rfl,show dk (aa "size") (V.int z) [(aa "crossing",V.ref c)]=[(aa "crossing",V.ref c),(aa "size",V.int z)] from ha [aa "crossing"] rfl (by ac_nf),show dk (aa "spans") (V.ref p) [(aa "crossing",V.ref c),(aa "size",V.int z)]=[(aa "crossing",V.ref c),(aa "size",V.int z),(aa "spans",V.ref p)] from ha [aa "crossing",aa "size"] rfl (by ac_nf)] at sR ⊢;have r2:a ≠ lm:=fun z=>by subst z;rw [aR] at sR;cases sR
 have NM:H lm=none:=by rw [aW (eY r2)] at sR;exact sR
 refine ⟨t.eE,av,[(aa "crossing",V.ref c),(aa "size",V.int z),(aa "spans",V.ref p)],by rw [aW r2];exact aR,T.ny,T.Ov,show (3:Nat) < 1000 by decide,fun un nz=>?_⟩;rw [show dk (aa "lamps") (V.ref lm) [(aa "crossing",V.ref c),(aa "size",V.int z),(aa "spans",V.ref p)]=[(aa "crossing",V.ref c),(aa "size",V.int z),(aa "spans",V.ref p),(aa "lamps",V.ref lm)] from ha [aa "crossing",aa "size",aa "spans"] rfl (by ac_nf)] at nz ⊢;have sS:a ≠ un:=fun z=>by subst z;rw [aR] at nz;cases nz
 have BG:un ≠ lm:=fun z=>by subst z;rw [aW (eY sS),aR] at nz;cases nz
 have Qi:H un=none:=by rw [aW (eY sS),aW BG,aW (eY sS)] at nz;exact nz
 refine ⟨t.eE,av,[(aa "crossing",V.ref c),(aa "size",V.int z),(aa "spans",V.ref p),(aa "lamps",V.ref lm)],by rw [aW sS];exact aR,T.ny,T.QN,show (4:Nat) < 1000 by decide,?_⟩;rw [show dk (aa "untils") (V.ref un) [(aa "crossing",V.ref c),(aa "size",V.int z),(aa "spans",V.ref p),(aa "lamps",V.ref lm)]=lj c z p lm un from ha [aa "crossing",aa "size",aa "spans",aa "lamps"] rfl (by ac_nf)];have hf:∃ dV:ah,dV=upd (upd (upd (upd (upd H a (.ins t.eE av [(aa "crossing",V.ref c),(aa "size",V.int z),(aa "spans",V.ref p)])) lm (.bV [])) a (.ins t.eE av [(aa "crossing",V.ref c),(aa "size",V.int z),(aa "spans",V.ref p),(aa "lamps",V.ref lm)])) un (.bV [])) a (.ins t.eE av (lj c z p lm un)):=⟨_,rfl⟩;obtain ⟨dV,ej⟩:=hf;rw [<- ej];have g1:dV a=some (.ins t.eE av (lj c z p lm un)):=by rw [ej,aR]
 have g2:dV lm=some (.bV []):=by rw [ej,aW (eY r2),aW (eY BG),aW (eY r2),aR]
 have g3:dV un=some (.bV []):=by rw [ej,aW (eY sS),aR]
 have uG:cD a H dV:=fun b u af e=>by rw [ej,aW af,aW (cV e Qi),aW af,aW (cV e NM),aW af];exact e
 have OC:aM dV:=by rw [ej];exact ((((ti.upd).upd).upd).upd).upd
 clear ej;have oG:=C.jH uG aS;obtain ⟨⟨gW,fO⟩,sm,wl,aA,ax,_,_⟩:=id oG;refine ⟨_,_,ax,hY _ _ _ (by ac_nf),c,n,ds,rfl,oG,fun d3 f9=>⟨d3,rfl,⟨_,aH.of aR⟩,?_⟩⟩;refine ec.list (xs:=ba (ds.map (·.name))) (fun i σ I=>(∃ y,σ=[some (V.ref a),some (V.ref c),some (V.int z),some (V.ref p),y])/\cD a H I/\aM I/\I a=some (.ins t.eE av (lj c z p lm un))/\I d3=some (.lst (ba (ds.map (·.name))))/\my I lm ds (fun d=>.lst (ba (ob z sp d))) i/\my I un ds (fun d=>.lst ((ee z sp d.name).map V.int)) i) ?_ ?_ ?_ ?_
 .have sn:=bN (o:=.lst (ba (ds.map (·.name)))) f9;exact ⟨⟨_,rfl⟩,uG.trans (cD.of sn),OC.upd,sn _ _ g1,aR,⟨[],rfl,by rw [sn _ _ g2];simp [fP],fun i r d h=>by simp at h⟩,⟨[],rfl,by rw [sn _ _ g3];simp [fP],fun i r d h=>by simp at h⟩⟩
 .rintro i σ I ak bh;ac_rfl
  obtain ⟨_,_,_,_,h,_⟩:=bh;subst a7;exact aH.of h
 .rintro i v σ I aK bh;ac_rfl
  obtain ⟨⟨y,rfl⟩,d4,a5,ov,hM,⟨cJ,hg,Dc,iO⟩,⟨dU,Je,HS,FW⟩⟩:=bh;obtain ⟨x,ao,rfl⟩:=cz aK;obtain ⟨d,hd,rfl⟩:=cz ao;have ji:=C.jH d4 aS;have Gm:=L.jH d4 aS;obtain ⟨_,ai1,aiy,agx,af6,_,_⟩:=id ji;subst a7;nofun;refine ⟨_,_,af6,hY _ _ _ (by ac_nf),c,n,ds,i,d,rfl,ji,hd,fun aaX W=>?_⟩;have p0:ds[cJ.length]? = some d:=by rw [hg];exact hd
  have NZ:ds[dU.length]? = some d:=by rw [Je];exact hd
  refine ⟨aaX,d,z,p,sp,rfl,ay,W,Gm,aC,bu d (c6 hd),fun bO H1 s1 cq lJ ag=>⟨_,Pw T (s1 _ _ ov),lm,rfl,_,k2.k (k:=du d.name) (s1 _ _ Dc) (iD (show (fP ds cJ).length <= 12 by unfold fP;rw [a8,E9];omega) (by decide)),?_⟩⟩;rw [Gs gW p0];have nh:∀ {b:Addr} {u:dY},I b=some u->b ≠ lm->upd H1 lm (.bV (fP ds (cJ ++ [bO]))) b=some u:=fun e h=>by rw [aW h];exact s1 _ _ e
  have bR:cD a H (upd H1 lm (.bV (fP ds (cJ ++ [bO])))):=fun b u af e=>nh (d4 b u af e) (cV e NM)
  refine ⟨z,p,d.name,sp,rfl,ay,L.jH bR aS,aC,fun j6 cj s3 h4 Lb bc=>⟨j6,_,rfl,bc,by rw [oF];exact ay,fun vT dC s4 h2 ahy cb=>?_⟩⟩;have EX:=s3.trans s4;have OU:dC un=some (.bV (fP ds dU)):=EX _ _ (nh HS BG);have a2:dC a=some (.ins t.eE av (lj c z p lm un)):=EX _ _ (nh ov r2);refine ⟨_,AW T a2,un,rfl,_,k2.k (k:=du d.name) OU (iD (show (fP ds dU).length <= 12 by unfold fP;rw [a8,E9];omega) (by decide)),?_⟩;rw [Gs gW NZ];have pR:∀ {b:Addr} {u:dY},upd H1 lm (.bV (fP ds (cJ ++ [bO]))) b=some u->b ≠ un->upd dC un (.bV (fP ds (dU ++ [vT]))) b=some u:=fun e h=>by rw [aW h];exact EX _ _ e
  have ER:∀ {b:Addr} {ys:List V},I b=some (.lst ys)->b ≠ lm:=fun e=>dH e Dc (by intro z;cases z)
  have Ea:∀ {b:Addr} {ys:List V},I b=some (.lst ys)->b ≠ un:=fun e=>dH e HS (by intro z;cases z)
  have Tr:bO ≠ lm:=dH ag (s1 _ _ Dc) (by intro z;cases z);have afk:bO ≠ un:=dH ag (s1 _ _ HS) (by intro z;cases z);have Ri:vT ≠ un:=dH cb OU (by intro z;cases z);refine ⟨⟨_,rfl⟩,fun b u af e=>pR (bR b u af e) (cV e Qi),(h2 (h4 (cq a5).upd)).upd,pR (nh ov r2) sS,pR (nh hM (ER hM)) (Ea hM),⟨cJ ++ [bO],by rw [eV,hg];rfl,pR aR (eY BG),fun j r e bb he=>?_⟩,⟨dU ++ [vT],by rw [eV,Je];rfl,aR,fun j r e bb he=>?_⟩⟩
  .rcases jV bb with ⟨_,e3⟩ | ⟨eJ,rfl⟩
   .have:=iO j r e e3 he;exact pR (nh this (ER this)) (Ea this)
   .rw [eJ,p0] at he;cases he;exact pR (by rw [aW Tr];exact ag) afk
  .rcases jV bb with ⟨_,e3⟩ | ⟨eJ,rfl⟩
   .have:=FW j r e e3 he;exact pR (nh this (ER this)) (Ea this)
   .rw [eJ,NZ] at he;cases he;rw [aW Ri];exact cb
 .rintro σ I bh;ac_rfl
  obtain ⟨_,d4,a5,ov,_,p6,xY⟩:=bh;have o5:(ba (ds.map (·.name))).length=ds.length:=by unfold ba;simp
  subst a7;rw [o5] at p6 xY;exact q _ d4 a5 ⟨av,p,lm,un,ov,C.jH d4 aS,L.jH d4 aS,p6,xY⟩
theorem Yt:bT P base T 6 t.vP t.AB Hl (RZ t):=by
 have ik:cg P w K ai base c7 5 t.pK t.u_ nf (K2 t):=(oe T).mono (by decide);have agi:cg P w K ai base c7 4 t.pO t.ug zD (Kw t):=YT T;have acD:cg P w K ai base c7 5 t.oW t.tI z7 (N8 t):=(afP T).mono (by decide);have Xw:cg P w K ai base c7 5 t.p_ t.u3 n9 (L8 t):=(Wq T).mono (by decide);have Ro:cg P w K ai base c7 5 t.pZ t.vt n9 (Oy t):=aff T;exists T.ap.ok uo,9
 obtain ⟨c,n,ds,z,p,sp,rfl,C,a0,bu,ay,L,aC,hw,ti,bl,fi,cX,bQ⟩:=h;refine ⟨_,(aE (rM (i:=3) uo.aA rfl (l3 rfl) rfl (gv (U 2)) (fU (sc:=br A0) rfl (by ac_nf)) (N:=xX) (sel:=[none,none,none]) (gf (M:=["crossing","size","rows","spans","name","begin","turns"]) (by ac_nf)) (eZ.of (fun _ _ _ _=>(h8 (K:=K) (n:=3) rfl rfl (dp (b1 (i:=0) (eC (N:=xX) (by ac_nf) rfl)) (dp (b1 (i:=1) (eC (N:=xX) (by ac_nf) rfl)) (dp (b1 (i:=2) (eC (N:=xX) (by ac_nf) rfl)) hV))))) (fun _ _ _ _=>⟨_,gX,by walk_at "B"⟩) (fun _ _ _ _=>⟨_,(ox (ab (U 0) (ab (U 1) (ab (U 2) au)))),by walk_at "B"⟩)) rfl)
   (aE (fN fT rfl (gv (U 3)) (h8 (K:=K) (n:=3) rfl rfl (dp (b1 (i:=4) uo.aA) (dp (b1 (i:=5) uo.aA) (dp (b1 (i:=6) uo.aA) hV)))) (aU (d_ (dd (U 0) T.gg T.Gc ik aj T.mz .nil b0 (ab (U 4) au)))))
   (aE (d_ (bq acD aj T.QT T.F3.bg T.U5 (ab (U 0) (ab (U 3) au))))
   (aE (d_ (bq Xw aj T.aaQ T.Fk.bg T.X2 (ab (U 0) (ab (U 1) (ab (U 3) au)))))
   (aE (d_ (bq Ro aj T.RB T.C6.bg T.aau (ab (U 0) (ab (U 1) (ab (U 3) au)))))
   (aU (bL (qJ T.XY agi aj rfl T.YE T.aay .nil b0 (ab (U 0) (ab (U 1) (ab (U 3) au))))))))))),?_⟩
 nofun;obtain ⟨qs,cT,hz⟩:=L;have og:qs.length=sp.length:=by rw [hz.1,a8]
 have wW:=aC.1;refine ⟨⟨_,aH.of cT⟩,?_⟩;refine cZ.list (xs:=qs.map V.ref) (fun i ys I=>∃ os:List Addr,ys=os.map V.ref/\fA I os ((sp.take i).map g4)/\aF H I/\aM I) (cp (show (qs.map V.ref).length <= 100 by rw [a8];omega) (by decide)) ⟨[],rfl,by rw [MS];exact fA.nil _,aF.refl _,ti⟩ ?_ ?_ ?_
 .rintro i ys I ak bh;ac_rfl
  obtain ⟨os,rfl,r,bf,_⟩:=bh;subst a7;refine ⟨(aH.of cT).same bf,?_⟩;rw [a8,r.1,a8,fq];omega
 .rintro i v ys I aK ⟨os,rfl,r,bf,a5⟩ N bl;obtain ⟨kV,gA,rfl⟩:=cz aK;obtain ⟨o,aX,e⟩:=hz.at gA;obtain ⟨d,hd,rfl⟩:=cz aX;have b5:=bf _ _ e;dsimp only at bl;rw [k1 hd,eQ] at bl;nofun;refine ⟨_,cU.of b5,rfl,_,_,rfl,_,_,rfl,_,_,rfl,rfl,Sub.NB,by decide,fun ek i4=>?_⟩;exact bl _ _ ⟨os ++ [ek],by rw [eQ];rfl,(r.same (bN i4)).app (fA.one aR),bf.trans (bN i4),a5.upd⟩
 rintro ys H1 ⟨os,rfl,r,hQ,e7⟩ ek i4;rw [lz (by rw [a8];omega)] at r;have s2:aF H1 (upd H1 ek (.lst (os.map V.ref))):=bN i4;have f':aM (upd H1 ek (.lst (os.map V.ref))):=e7.upd;have L2:gj (upd H1 ek (.lst (os.map V.ref))) ek (gb g4 sp):=⟨os,aR,r.same s2⟩;have mF:=hQ.trans s2;generalize upd H1 ek (.lst (os.map V.ref))=az at s2 f' L2 mF ⊢;have pD:=C.same mF;obtain ⟨_,sm,wl,aA,ax,_,_⟩:=id pD;obtain ⟨tP,fc,Mj⟩:=id L2;have agz:tP.length=sp.length:=by rw [Mj.1,a8]
 nofun;refine ⟨⟨_,aH.of fc⟩,?_⟩;refine ec.list (xs:=tP.map V.ref) (fun i σ I=>(∃ x y ey,σ=[some (V.ref c),some (V.int z),some (V.ref p),some (V.ref ek),x,y,ey])/\I=az) ?_ ?_ ?_ ?_
 .exact ⟨⟨_,_,_,rfl⟩,rfl⟩
 .rintro i σ I ak ⟨_,rfl⟩;exact aH.of fc
 .rintro i v σ I aK bh;ac_rfl
  obtain ⟨⟨x,y,ey,rfl⟩,rfl⟩:=bh;obtain ⟨kV,gA,rfl⟩:=cz aK;obtain ⟨o,aX,e⟩:=Mj.at gA;obtain ⟨c',i1,rfl⟩:=cz aX;obtain ⟨d,hd⟩:=hw c' (c6 i1);obtain ⟨p4,j,bb⟩:=Ql hd;subst a7;nofun;exact ⟨_,cU.of e,rfl,_,_,rfl,_,_,rfl,_,_,rfl,rfl,_,_,ax,hY _ _ _ (by ac_nf),c,n,ds,j,d,by rw [p4],pD,bb,fun a W=>⟨(by first | exact ⟨_,_,_,rfl⟩ | exact ⟨_,_,rfl⟩ | exact ⟨_,rfl⟩ | simp),rfl⟩⟩
 rintro σ I bh;ac_rfl
 obtain ⟨⟨x,y,ey,rfl⟩,rfl⟩:=bh;subst a7;nofun;refine ⟨c,n,ds,ek,sp,rfl,pD,L2,wW,bl,fun cj s3 h4=>?_⟩;have j2:=h4 f';have tu:=pD.same s3;have Oi:=L2.same s3;nofun;refine ⟨c,n,ds,z,ek,sp,rfl,tu,bu,⟨by omega,by omega⟩,Oi,aC,hw,fi,fun dC s4 h2=>?_⟩;have y2:=h2 j2;have Kj:=tu.same s4;have r8:=Oi.same s4;nofun;refine ⟨c,n,ds,z,ek,sp,rfl,Kj,a0,ay,r8,aC,y2,cX,fun dV s5 s'=>?_⟩;have oG:=Kj.same s5;have XZ:=r8.same s5;nofun;intro a av aS pJ dW;have sc:aF dV (upd (upd dV av (.own a)) a (.ins t.eE av [])):=((aF.refl dV).gB pJ).gB aS;refine ⟨a,av,c,n,ds,z,ek,sp,rfl,aR,oG.same sc,bu,ay,XZ.same sc,aC,(s'.upd).upd,fun ib gx B3 ck=>⟨rfl,?_⟩⟩;have MJ:=((mF.trans s3).trans s4).trans s5;exact bQ a ib (mG (MJ.trans sc) gx (MJ.free aS)) B3 ck
noncomputable abbrev S (x:String):Str:=aa x
noncomputable def iN (s:bK):List Str:=[S "free",s.name,num s.b,num s.n]
noncomputable def fJ (z:Int) (sp:List bK):List (List Str):=[S "round",num z] :: sp.map iN
noncomputable def fz (z:Int) (sp:List bK):Str:=b3 nl ((fJ z sp).map (b3 bw))
noncomputable def mJ (ds:List aG) (sp:List bK):List Str:=(ds.map (·.name)).filter fun x=>decide ((cR x sp).length < 3)
noncomputable def uV (z:Int) (d:bK):Prop:=0 <= d.b/\d.b < z/\1 <= d.n/\d.n <= z
structure mx (z:Int) (ds:List aG) (sp:List bK):Prop where
 ln:sp.length <= 40
 nm:∀ s ∈ sp,made s.name dO 8=true
 zK:∀ (i:Nat) (d:bK),sp[i]? = some d->d.name ∈ mJ ds (sp.take i)
 c':∀ s ∈ sp,uV z s
noncomputable def X3 (t:bt):bF:=fun vs H Q _=>∃ q row z,vs=[.ref q]/\b9 t H q row [S "round",num z] 0/\(1 <= z/\z <= 240)/\aM H/\LQ q H (Q (.int z))
noncomputable def agb (t:bt):bF:=fun vs H Q _=>∃ q row c n ds z p sp d,vs=[.ref q,.ref c,.int z,.ref p]/\b9 t H q row (iN d) 0/\d7 t H c n ds/\(1 <= z/\z <= 240)/\gj H p (gb g4 sp)/\sp.length <= 100/\aM H/\d.name ∈ mJ ds sp/\uV z d /\
 ∀ x I,cD q H I->aM I->I x=some (g4 d)->H x=none->Q (.ref x) I
noncomputable def Wa (t:bt):bF:=fun vs H Q _=>∃ (c:Addr) (n:Int) (ds:List aG) (z:Nat) (sp:List bK),vs=[.ref c,.str (fz z sp)]/\d7 t H c n ds/\0 < n/\rU ds/\(1 <= z/\z <= 240)/\mx z ds sp/\aM H/\n0 ds sp=none/\n4 ds z sp=none/\oL n z sp ds=none /\
 ∀ a I,aF H I->aM I->fH t I a c n ds z sp->Q (.ref a) I
theorem mx.ok {z:Int} {ds:List aG} {sp:List bK} (h:mx z ds sp) (ay:z <= 240):oV z sp:=⟨cp h.ln (by decide),fun d hd=>by have:=h.c' d hd;unfold uV at this;omega⟩
theorem mx.j_ {z:Int} {ds:List aG} {sp:List bK} (h:mx z ds sp):∀ s ∈ sp,∃ d,j_ ds s.name=some d:=fun s aC=>by
 obtain ⟨i,ak⟩:=iX aC;obtain ⟨d,hd,e⟩:=dN.mp (vF.mp (h.zK i s ak)).1;unfold My.j_;cases hf:ds.find? fun d=>decide (d.name=s.name) with
 | some d'=>exact ⟨d',rfl⟩
 | none=>exact absurd (n'.mp hf d hd) (by simp [e])
theorem agr {z:Nat} {ds:List aG} {sp:List bK} (ay:z <= 240) (h:mx z ds sp):(ht (fz z sp)=fJ z sp)/\(fz z sp).length <= 20000/\∀ r ∈ fJ z sp,r ≠ []/\r.length <= 1000/\∀ y ∈ r,y.length <= 1000:=by
 have pl:∀ r ∈ fJ z sp,(r ≠ []/\r.length <= 4)/\∀ x ∈ r,nT x:=fun r aj=>by
  rcases cP.mp aj with rfl | aj
  .refine ⟨⟨by simp,by simp⟩,fun x ao=>?_⟩;simp only [cP,fw,or_false] at ao;rcases ao with rfl | rfl
   .exact ⟨by ac_nf,by ac_nf,by ac_nf⟩
   .exact i' (by omega) (by omega)
  .obtain ⟨s,aC,rfl⟩:=dN.mp aj;have g:=h.c' s aC;unfold uV at g;refine ⟨⟨by simp [iN],by simp [iN]⟩,fun x ao=>?_⟩;simp only [iN,cP,fw,or_false] at ao;rcases ao with rfl | rfl | rfl | rfl
   .exact ⟨by ac_nf,by ac_nf,by ac_nf⟩
   .exact F4 (h.nm s aC)
   .exact i' (by omega) (by omega)
   .exact i' (by omega) (by omega)
 refine ⟨OP (by simp [fJ]) (fun r aj=>(pl r aj).1.1) fun r aj=>(pl r aj).2,?_,fun r aj=>⟨(pl r aj).1.1,cp (pl r aj).1.2 (by decide),fun y bj=>cp ((pl r aj).2 y bj).1 (by decide)⟩⟩;have ag:∀ y ∈ (fJ z sp).map (b3 bw),y.length <= 36:=fun y bj=>by
  obtain ⟨r,aj,rfl⟩:=dN.mp bj;have:=lE bw 8 r fun x ao=>((pl r aj).2 x ao).1
  rw [hA] at this;have:=(pl r aj).1.2;omega
 have ar:=lE nl 36 _ ag;rw [jJ] at ar;have bc:((fJ z sp).map (b3 bw)).length <= 41:=by
  have:=h.ln;simp [fJ];omega
 unfold fz;omega
theorem d7.Em {t:bt} {H I:ah} {q c:Addr} {n:Int} {ds:List aG} {row:Int} {ws:List Str} {k:Nat} (h:d7 t H c n ds) (s:cD q H I) (R:b9 t H q row ws k):d7 t I c n ds:=by
 obtain ⟨h0,fm,wl,aA,ax,⟨as,dc,dI,al⟩,cu⟩:=h;obtain ⟨_,AL,aZ,f1,f2⟩:=id R;refine ⟨h0,fm,wl,aA,s _ _ (fun z=>?_) ax,⟨as,s _ _ (dH dc f1 (by intro z;cases z)) dc,dI,fun i b d af hd=>?_⟩,s _ _ (dH cu f1 (by intro z;cases z)) cu⟩
 .subst z;rw [ax] at f1;have e:=dZ f1;injection e with _ _ gr;unfold lQ jG at gr;injection gr with hj _;injection hj with i3 _;exact absurd i3 (by ac_nf)
 .have W:=al i b d af hd;have a0:=PH W R;exact ⟨W.1,W.2.imp fun av e=>s _ _ a0 e⟩
theorem gj.Em {t:bt} {H I:ah} {q p:Addr} {sp:List bK} {row:Int} {ws:List Str} {k:Nat} (h:gj H p (gb g4 sp)) (s:cD q H I) (R:b9 t H q row ws k):gj I p (gb g4 sp):=by
 obtain ⟨_,AL,aZ,f1,f2⟩:=id R;obtain ⟨qs,cT,eu⟩:=h;refine ⟨qs,s _ _ (dH cT f1 (by intro z;cases z)) cT,eu.1,fun i q o a4 aX=>?_⟩;have e:=eu.2 i q o a4 aX;refine s _ _ (dH e f1 ?_) e;obtain ⟨d,_,rfl⟩:=cz aX;intro z;cases z
theorem Sh:bT P base T 5 t.xi t.xy ["reader"] (X3 t):=by
 refine bA (uZ T) fun l'=>bA (sy T) fun je=>bA (uH T) fun nr=>?_;exists T.E0.ok Od,9
 obtain ⟨q,row,z,rfl,R,ay,a5,iy⟩:=h;refine ⟨_,(aE (d_ (dd (U 0) T.dJ T.sY l' aj T.sb .nil b0 (ab (gD (ab bG au)) au)))
   (aE (bI (i:=1) Od.aA (dd (U 0) T.dJ T.mf je aj T.mB .nil b0 (ab aJ (ab (hJ rfl T.afK T.Rc) au))))
   (aE (d_ (hG (U 0) T.dJ T.xk nr aj T.uh .nil b0))
   (aU (bL (U 1)))))),?_⟩
 obtain ⟨_,av,aZ,ax,aD⟩:=id R;nofun;refine ⟨_,_,ax,b9.no _ _ _ (by ac_nf),by decide,fun p aw=>?_⟩;have s0:aF H (upd H p (.lst [V.str (aa "round")])):=bN aw;refine ⟨q,row,_,0,_,p,[aa "round"],rfl,R.same s0,rfl,aH.of aR,by simp,fun H1 s1 cq jE=>?_⟩;obtain ⟨_,B0,MU,f1,f2⟩:=id jE;nofun;refine ⟨_,_,f1,b9.no _ _ _ (by ac_nf),⟨q,row,_,1,_,1,240,z,rfl,jE,rfl,l8 (by omega) (by omega) (by omega) (by omega),cq a5.upd,fun az s2 cQ fV=>?_⟩⟩;obtain ⟨_,J9,MC,g1,g2⟩:=id fV;nofun;refine ⟨_,_,g1,b9.no _ _ _ (by ac_nf),⟨q,row,_,2,rfl,fV,rfl,?_⟩⟩;exact iy az (((cD.of s0).trans s1).trans s2) (cQ (cq a5.upd))
theorem SE:bT P base T 5 t.wK t.za Co (agb t):=by
 refine bA (uZ T) fun l'=>bA (sy T) fun je=>bA (uH T) fun nr=>bA (tk T) fun m'=>bA (vJ T) fun lr=>?_;exists T.Ee.ok zh,9
 obtain ⟨q,row,c,n,ds,z,p,sp,d,rfl,R,C,ay,L,o5,a5,aI,⟨d6,dr,u6,cq⟩,iy⟩:=h;refine ⟨_,(aE (d_ (dd (U 0) T.dJ T.sY l' aj T.sb .nil b0 (ab (gD (ab bG au)) au)))
   (aE (bI (i:=4) zh.aA (dd (U 0) T.dJ T.sY l' aj T.sb .nil b0 (ab (ig rfl (gv (hG (U 1) T.gg T.o6 lr aj T.qh .nil b0)) (fU (sc:=br yz) rfl (by ac_nf)) (N:=["known","spans"]) (sel:=[none,some 3]) (gf (M:=["reader","crossing","size","spans","name","begin","turns"]) (by ac_nf)) (eZ.of (fun _ _ _ _=>(b1 (i:=0) (eC (N:=["known","spans"]) (by ac_nf) rfl))) (fun _ _ _ _=>⟨_,(GB (cy oO (hZ jx rfl T.jg i_ (ab (bq m' aj T.tC T.pk.bg T.ux (ab (U 1) (ab (U 0) au))) au)) (hJ rfl T.acN T.adE) (cc _))),by walk_at "B"⟩) (fun _ _ _ _=>⟨_,(U 0),by walk_at "B"⟩))) au)))
   (aE (bI (i:=5) zh.aA (dd (U 0) T.dJ T.mf je aj T.mB .nil b0 (ab aJ (ab (Db ol (U 2) aJ) au))))
   (aE (bI (i:=6) zh.aA (dd (U 0) T.dJ T.mf je aj T.mB .nil b0 (ab aJ (ab (U 2) au))))
   (aE (d_ (hG (U 0) T.dJ T.xk nr aj T.uh .nil b0))
   (aU (bL (ox (ab (U 4) (ab (U 5) (ab (U 6) au))))))))))),?_⟩
 obtain ⟨_,av,aZ,ax,aD⟩:=id R;nofun;refine ⟨_,_,ax,b9.no _ _ _ (by ac_nf),by decide,fun p7 pg=>?_⟩;have s0:aF H (upd H p7 (.lst [V.str (aa "free")])):=bN pg;refine ⟨q,row,_,0,_,p7,[aa "free"],rfl,R.same s0,rfl,aH.of aR,by simp,fun H1 s1 abE jE=>?_⟩;obtain ⟨_,B0,MU,f1,f2⟩:=id jE;have e7:=abE a5.upd;have hO:cD q H H1:=(cD.of s0).trans s1;have w4:=C.Em hO R;have n_:=L.Em hO R;obtain ⟨⟨_,fO⟩,sm,wl,aA,g1,_,_⟩:=id w4;nofun;refine ⟨_,_,f1,b9.no _ _ _ (by ac_nf),_,_,g1,hY _ _ _ (by ac_nf),c,n,ds,rfl,w4,fun d3 f9=>⟨d3,rfl,⟨_,aH.of aR⟩,?_⟩⟩;have sn:aF H1 (upd H1 d3 (.lst (ba (ds.map (·.name))))):=bN f9;have M5:(ba (ds.map (·.name))).length=ds.length:=by unfold ba;simp
 refine cZ.list (xs:=ba (ds.map (·.name))) (fun i ys I=>ys=ba (((ds.map (·.name)).take i).filter fun x=>decide ((cR x sp).length < 3))/\aF (upd H1 d3 (.lst (ba (ds.map (·.name))))) I/\aM I) (cp (show _ <= 12 by rw [M5];omega) (by decide)) ⟨by rw [MS];rfl,aF.refl _,e7.upd⟩ ?_ ?_ ?_
 .rintro i ys I ak ⟨rfl,bf,_⟩;refine ⟨aH.of (bf _ _ aR),?_⟩;unfold ba;rw [a8];exact cp (Tb ..) (by rw [fq];omega)
 .rintro i v ys I aK ⟨rfl,bf,e2⟩ N bl;obtain ⟨x,ao,rfl⟩:=cz aK;dsimp only at bl;rw [k1 ao,Sj] at bl;nofun;refine ⟨Sub.name,p,x,sp,rfl,(n_.same sn).same bf,o5,fun r az s2 cQ ⟨qs,fc,ft⟩=>⟨r,rfl,_,.inl (aH.of fc),?_⟩⟩;have EW:qs.length=(cR x sp).length:=by rw [ft.1,a8]
  rw [a8,EW];by_cases dT:(cR x sp).length < 3
  .rw [if_pos (decide_eq_true (by omega))];refine bl _ _ ⟨?_,bf.trans s2,cQ e2⟩;rw [Nf (by simpa using dT)];unfold ba;rw [eQ];rfl
  .rw [if_neg (by rw [decide_eq_true_eq];omega)];refine bl _ _ ⟨?_,bf.trans s2,cQ e2⟩;rw [NU (by simpa using dT),List.filter_nil,G0]
 rintro ys az ⟨rfl,mF,f'⟩ ra WU;rw [M5,lz (by rw [a8];exact bW _)];rw [show (ds.map (·.name)).filter (fun x=>decide ((cR x sp).length < 3))=mJ ds sp from rfl];have Cm:aF H1 (upd az ra (.lst (ba (mJ ds sp)))):=(sn.trans mF).trans (bN WU);have QP:aM (upd az ra (.lst (ba (mJ ds sp)))):=f'.upd;have HJ:upd az ra (.lst (ba (mJ ds sp))) ra=some (.lst (ba (mJ ds sp))):=aR;generalize upd az ra (.lst (ba (mJ ds sp)))=cj at Cm QP HJ ⊢;nofun;refine ⟨q,row,_,1,_,ra,mJ ds sp,rfl,jE.same Cm,rfl,aH.of HJ,aI,fun dC s4 h2 il=>?_⟩;have y2:=h2 QP;have Ep:cD q H dC:=(hO.trans (cD.of Cm)).trans s4;obtain ⟨_,acS,Q8,FL,O0⟩:=id il;nofun;refine ⟨_,_,FL,b9.no _ _ _ (by ac_nf),⟨q,row,_,2,_,0,z - 1,d.b,rfl,il,rfl,l8 d6 (by omega) d6 (by omega),y2,fun dV s5 mR kn=>?_⟩⟩;have s':=mR y2;have Fn:cD q H dV:=Ep.trans s5;obtain ⟨_,Pc,Jh,Cq,MT⟩:=id kn;nofun;refine ⟨_,_,Cq,b9.no _ _ _ (by ac_nf),⟨q,row,_,3,_,1,z,d.n,rfl,kn,rfl,l8 (by omega) (by omega) u6 cq,s',fun ib gx i5 vD=>?_⟩⟩;have B3:=i5 s';have hk:cD q H ib:=Fn.trans gx;obtain ⟨_,Wt,agh,bR,bo⟩:=id vD;nofun;refine ⟨_,_,bR,b9.no _ _ _ (by ac_nf),⟨q,row,_,4,rfl,vD,rfl,by decide,fun x ao=>?_⟩⟩;have ael:H x=none:=by
  cases e:H x with
  | none=>rfl
  | some u=>
   by_cases vS:x=q
   .subst vS;rw [bR] at ao;cases ao
   .rw [hk _ _ vS e] at ao;cases ao
 exact iy x _ (hk.trans (cD.of (bN ao))) B3.upd aR ael
theorem Rj:bT P base T 7 t.pU t.qW u5 (Wa t):=by
 refine bA (Po T) fun H_=>bA (Sh T) fun aeO=>bA (SE T) fun XH=>bA (Yt T) fun Y9=>?_;exists T.u9.ok va,9
 obtain ⟨c,n,ds,z,sp,rfl,C,a0,bu,ay,q2,a5,bl,fi,cX,iy⟩:=h;refine ⟨_,(aE (bI (i:=2) va.aA (bq H_ aj T.K6 T.BN.bg T.LY (ab (U 1) au)))
   (aE (bI (i:=3) va.aA (bq aeO aj T.afL T.E0.bg T.XA (ab (cx dm (U 2) aJ) au)))
   (aE (bI (i:=4) va.aA (gD au))
   (aE (fN fT rfl (gv (rv J' (U 2) (qx aJ) wX)) (b1 (i:=5) va.aA) (aU (d_ (ff l5 n1 o' oP (U 4) (ab (bq XH aj T.Vr T.Ee.bg T.YZ (ab (U 5) (ab (U 0) (ab (U 3) (ab (U 4) au))))) au)))))
   (aU (bL (bq Y9 aj T.RX T.ap.bg T.aey (ab (U 0) (ab (U 3) (ab (U 4) au)))))))))),?_⟩
 obtain ⟨jW,oq,IK⟩:=agr ay.2 q2;generalize fz z sp=x at jW oq ⊢;nofun;refine ⟨x,rfl,oq,?_,a5,fun p H1 hQ e7 R=>?_⟩
 .rw [jW];exact fun r aj=>(IK r aj).2
 rw [jW] at R;obtain ⟨qs,aw,pg,og,xt⟩:=R;obtain ⟨jf,gV,rfl⟩:∃ jf gV,qs=jf :: gV:=by
  cases qs with
  | nil=>simp [fJ] at og
  | cons a b=>exact ⟨a,b,rfl⟩
 have GP:gV.length=sp.length:=by simpa [fJ] using og
 have aht:=q2.ln;obtain ⟨nM,IA⟩:=xt 0 jf _ rfl rfl;nofun;refine ⟨_,aH.of aw,_,dh (j:=0) rfl,⟨jf,_,z,rfl,nM,by omega,e7,fun az s2 f'=>?_⟩⟩;nofun;refine ⟨gi _,fun wl fX=>?_⟩;obtain ⟨Tj,acp,aeB,GN⟩:=nM.ins;have Gn:p ≠ jf:=dH aw GN (by intro z;cases z);have d8:az p=some (.lst ((jf :: gV).map V.ref)):=s2 _ _ Gn aw;have qn:aF az (upd az wl (.lst [])):=bN fX;have wb:kK ((jf :: gV).map V.ref) (some 1) none=gV.map V.ref:=by
  unfold kK;simp [fa.cA];exact lz (by rw [a8];exact bW _)
 refine ⟨_,aH.of (qn _ _ d8),fun pc qr=>?_⟩;rw [wb];have pT:pc ≠ wl:=fun z=>by subst z;rw [aR] at qr;cases qr
 have px:aF (upd az wl (.lst [])) (upd (upd az wl (.lst [])) pc (.lst (gV.map V.ref))):=bN qr;refine ⟨⟨_,aH.of aR⟩,?_⟩;have tZ:aF H az:=mG hQ s2 IA;refine ec.list (xs:=gV.map V.ref) (fun i σ I=>(∃ y,σ=[some (V.ref c),some (V.str x),some (V.ref p),some (V.int z),some (V.ref wl),y])/\aM I/\aF H I/\I pc=some (.lst (gV.map V.ref))/\H wl=none /\
  gj I wl (gb g4 (sp.take i)) /\
  ∀ (j:Nat) (q:Addr) (s:bK),i <= j->gV[j]? = some q->sp[j]? = some s->b9 t I q ((j + 1:Nat):Int) (iN s) 0/\H q=none) ?_ ?_ ?_ ?_
 .refine ⟨⟨_,rfl⟩,(f'.upd).upd,(tZ.trans qn).trans px,aR,tZ.free fX,⟨[],px _ _ aR,fA.nil _⟩,fun j q s _ ag ar=>?_⟩;obtain ⟨ly,pW⟩:=xt (j + 1) q (iN s) (by rw [lY];exact ag) (by unfold fJ;rw [lY,dS,ar];rfl);exact ⟨((ly.jH s2 (z1 ly nM (by omega)) nM.ins).same qn).same px,pW⟩
 .rintro i σ I ak bh;ac_rfl
  obtain ⟨_,_,_,h,_⟩:=bh;subst a7;exact aH.of h
 .rintro i v σ I aK bh;ac_rfl
  obtain ⟨⟨y,rfl⟩,e2,l0,pP,qj,L,Rs⟩:=bh;obtain ⟨q,a4,rfl⟩:=cz aK;obtain ⟨ak,_⟩:=cW.mp a4;have hS:i < sp.length:=by omega
  have i1:sp[i]? = some sp[i]:=cv hS;obtain ⟨lS,Ir⟩:=Rs i q _ (bW _) a4 i1;obtain ⟨os,dc,dI⟩:=id L;obtain ⟨_,AL,aiA,gA,ags⟩:=id lS;have ah4:os.length=i:=by rw [dI.1,a8,fq];omega
  subst a7;nofun;refine ⟨.inl ⟨_,aH.of dc⟩,?_⟩;refine ⟨q,_,c,n,ds,z,wl,sp.take i,sp[i],rfl,lS,C.same l0,by omega,L,by rw [fq];omega,e2,q2.zK i _ i1,q2.c' _ (c6 i1),fun xu cj s3 j2 iP ts=>?_⟩;have vX:wl ≠ q:=dH dc gA (by intro z;cases z);have lu:cj wl=some (.lst (os.map V.ref)):=s3 _ _ vX dc;have G8:aF H cj:=mG l0 s3 Ir;refine ⟨_,lu,iD (show (os.map V.ref).length <= 100 by rw [a8];omega) (by decide),?_⟩;have DL:xu ≠ wl:=fun z=>by
   subst z;rw [dc] at ts;cases ts
  refine ⟨⟨_,rfl⟩,j2.upd,fun b u e=>?_,?_,qj,⟨os ++ [xu],by rw [aR,eQ];rfl,?_⟩,fun j ef s bb ag ar=>?_⟩
  .rw [aW (cV e qj)];exact G8 _ _ e
  .rw [aW pT];exact s3 _ _ (dH pP gA (by intro z;cases z)) pP
  .rw [k1 i1,eQ];refine fA.app ⟨dI.1,fun j b o af aX=>?_⟩ (fA.one (by rw [aW DL];exact iP));have e:=dI.2 j b o af aX;obtain ⟨s,_,rfl⟩:=cz aX;rw [aW (dH e dc (by intro z;cases z))];exact s3 _ _ (dH e gA (by intro z;cases z)) e
  .obtain ⟨ly,pW⟩:=Rs j ef s (by omega) ag ar;have qH:=ly.jH s3 (z1 ly lS (by omega)) lS.ins;refine ⟨?_,pW⟩;obtain ⟨ay,fm,aZ,ax,aD⟩:=qH;refine ⟨ay,fm,aZ,by rw [aW (dH ax lu (by intro z;cases z))];exact ax,?_⟩;rw [aW (fun z=>by
    subst z;rw [lu] at aD;have hj:=dZ aD;injection hj with i3;cases os with
    | nil=>cases i3
    | cons a fu=>injection i3 with kg _;cases kg)]
   exact aD
 .rintro σ I bh;ac_rfl
  obtain ⟨⟨y,rfl⟩,e2,l0,pP,qj,L,Rs⟩:=bh;subst a7;rw [a8,GP,o3] at L;nofun;exact ⟨c,n,ds,z,wl,sp,rfl,C.same l0,a0,bu,by omega,L,q2.ok (by omega),q2.j_,e2,bl,fi,cX,fun a cj s3 h4 ck=>iy a cj (l0.trans s3) h4 ck⟩
theorem AC {α:Type} (z:Nat) (v:α) (b:Int) (ay:0 < z) (l:List α) (aB:l.length=z):∀ (k:Nat) (i:Nat),i < z->(i2 z v b k l)[i]? = if ∃ j,j < k/\(b + (j:Int)) % (z:Int)=(i:Int) then some v else l[i]?
 | 0,i,ak=>by rw [if_neg (fun ⟨j,bb,_⟩=>by omega)];rfl
 | k + 1,i,ak=>by
  have b2:=AC z v b ay l aB k i ak;have h0:=gQ (b + (k:Int)) (show (z:Int) ≠ 0 by omega);have ag:=h1 (b + (k:Int)) (show 0 < (z:Int) by omega);unfold i2 m2;by_cases c:(b + (k:Int)) % (z:Int)=(i:Int)
  .rw [show ((b + (k:Int)) % (z:Int)).toNat=i by omega,Nx (by rw [oB,aB];exact ak),if_pos ⟨k,by omega,c⟩]
  .rw [Mw (by omega),b2];by_cases e:∃ j,j < k/\(b + (j:Int)) % (z:Int)=(i:Int)
   .obtain ⟨j,bb,m_⟩:=e;rw [if_pos ⟨j,bb,m_⟩,if_pos ⟨j,by omega,m_⟩]
   .rw [if_neg e,if_neg];rintro ⟨j,bb,m_⟩;by_cases aa4:j=k
    .subst aa4;exact c m_
    .exact e ⟨j,by omega,m_⟩
theorem ZS {z b i:Int} {n:Int} (ay:0 < z) (ak:0 <= i/\i < z) (a0:0 <= n/\n <= z):(∃ j:Nat,j < n.toNat/\(b + (j:Int)) % z=i)↔(i - b) % z < n:=by
 have h0:=gQ (i - b) (show z ≠ 0 by omega);have ag:=h1 (i - b) ay;constructor
 .rintro ⟨j,bb,e⟩;have:(i - b) % z=j:=by
   rw [<- e,N4,show b + (j:Int) - b=j by omega];exact oh (by omega) (by omega)
  omega
 .intro h;refine ⟨((i - b) % z).toNat,by omega,?_⟩;rw [l4 h0,Int.add_emod_emod,show b + (i - b)=i by omega];exact oh ak.1 ak.2
theorem MG {z:Nat} (ay:0 < z) {b n:Int} (a0:0 <= n/\n <= z) {i:Nat} (ak:i < z):(fL z [(b,n)])[i]? = some (decide (((i:Int) - b) % (z:Int) < n)):=by
 unfold fL;rw [List.foldl_cons,QA,AC z true b ay _ (rZ ..) _ _ ak];have:=ZS (z:=z) (b:=b) (i:=i) (n:=n) (by omega) ⟨by omega,by omega⟩ a0;by_cases c:((i:Int) - b) % (z:Int) < n
 .rw [if_pos (this.mpr c),decide_eq_true c]
 .rw [if_neg (fun e=>c (this.mp e)),decide_eq_false c,Zx,if_pos ak]
theorem Fm (m:List Bool):∀ k,0 <= gn m k
 | 0=>by show (0:Int) <= 0;decide
 | k + 1=>by
  have:=Fm m k;unfold gn;split <;> omega
theorem Jc (m:List Bool) (g:Int) (a9:0 <= g):∀ k:Nat,gn m k <= g↔(∃ j:Nat,(j:Int) <= g/\j < k/\m[(2 * m.length - 1 - (k - 1 - j)) % m.length]? = some true)\/(k:Int) <= g
 | 0=>by
  constructor
  .intro _;exact .inr (by omega)
  .intro _;exact a9
 | k + 1=>by
  by_cases c:m[(2 * m.length - 1 - k) % m.length]? = some true
  .have e:gn m (k + 1)=0:=by unfold gn;rw [if_pos c]
   rw [e];exact ⟨fun _=>.inl ⟨0,by omega,by omega,by rw [show k + 1 - 1 - 0=k by omega];exact c⟩,fun _=>a9⟩
  .have e:gn m (k + 1)=gn m k + 1:=by
    show (if m[(2 * m.length - 1 - k) % m.length]? = some true then 0 else gn m k + 1)=_;rw [if_neg c]
   rw [e];by_cases ahG:1 <= g
   .have b2:=Jc m (g - 1) (by omega) k;constructor
    .intro h;rcases b2.mp (by omega) with ⟨j,ag,ar,bc⟩ | h
     .exact .inl ⟨j + 1,by omega,by omega,by rw [show k + 1 - 1 - (j + 1)=k - 1 - j by omega];exact bc⟩
     .exact .inr (by omega)
    .rintro (⟨j,ag,ar,bc⟩ | h)
     .by_cases bb:j=0
      .subst bb;rw [show k + 1 - 1 - 0=k by omega] at bc;exact absurd bc c
      .have:=b2.mpr (.inl ⟨j - 1,by omega,by omega,by rw [show k - 1 - (j - 1)=k + 1 - 1 - j by omega];exact bc⟩);omega
     .have:=b2.mpr (.inr (by omega));omega
   .have:=Fm m k;constructor
    .intro h;omega
    .rintro (⟨j,ag,ar,bc⟩ | h)
     .have bb:j=0:=by omega
      subst bb;rw [show k + 1 - 1 - 0=k by omega] at bc;exact absurd bc c
     .omega
theorem YG {m:List Bool} {t:Nat} (c_:t < m.length):(lV m)[t]? = some (gn m (2 * m.length - t)):=by
 unfold lV;rw [dS,JX c_];rfl
theorem Xx {m:List Bool} (hm:∃ i,i < m.length/\m[i]? = some true) {t:Nat} (c_:t < m.length) (g:Int) (a9:0 <= g):gn m (2 * m.length - t) <= g↔∃ j:Nat,(j:Int) <= g/\m[(t + j) % m.length]? = some true:=by
 have pos:∀ j,j < 2 * m.length - t->(2 * m.length - 1 - (2 * m.length - t - 1 - j))=t + j:=fun j bb=>by omega
 rw [Jc m g a9];constructor
 .rintro (⟨j,ag,ar,bc⟩ | h)
  .rw [pos j ar] at bc;exact ⟨j,ag,bc⟩
  .obtain ⟨i,ak,e⟩:=hm;refine ⟨(i + m.length - t) % m.length,?_,?_⟩
   .have:=t2 (i + m.length - t) (show 0 < m.length by omega);omega
   .rw [RW,show t + (i + m.length - t)=i + m.length by omega,ada,xO ak];exact e
 .rintro ⟨j,ag,ar⟩;have bb:=t2 j (show 0 < m.length by omega);have hle:=Nat.mod_le j m.length;refine .inl ⟨j % m.length,by omega,by omega,?_⟩;rw [pos _ (by omega),RW];exact ar
theorem Un {m:List Bool} (hm:∃ i,i < m.length/\m[i]? = some true):∃ i,i < m.reverse.length/\m.reverse[i]? = some true:=by
 obtain ⟨i,ak,e⟩:=hm;refine ⟨m.length - 1 - i,by rw [pj];omega,?_⟩;rw [OS (by omega),show m.length - 1 - (m.length - 1 - i)=i by omega];exact e
theorem aav {m:List Bool} {t:Nat} (c_:t < m.length):∃ v,(tc m)[t]? = some v/\0 <= v/\((∃ i,i < m.length/\m[i]? = some true)->∀ g:Int,0 <= g->(v <= g↔∃ j:Nat,(j:Int) <= g/\m[(((t:Int) - (j:Int)) % (m.length:Int)).toNat]? = some true)):=by
 have aj:m.reverse.length=m.length:=pj;have ag:m.length - 1 - t < m.reverse.length:=by omega
 refine ⟨gn m.reverse (2 * m.reverse.length - (m.length - 1 - t)),?_,Fm _ _,fun hm g a9=>?_⟩
 .unfold tc;rw [OS (by rw [xR];omega),xR,aj];have:=YG ag;rw [aj] at this;exact this
 .rw [Xx (Un hm) ag g a9];have key:∀ j:Nat,m.reverse[(m.length - 1 - t + j) % m.reverse.length]? = m[(((t:Int) - (j:Int)) % (m.length:Int)).toNat]?:=fun j=>by
   rw [aj];have cL:=t2 (m.length - 1 - t + j) (show 0 < m.length by omega);rw [OS (by omega)];congr 1;have h0:=gQ ((t:Int) - (j:Int)) (show (m.length:Int) ≠ 0 by omega);have e:((t:Int) - (j:Int)) % (m.length:Int)=((m.length - 1 - (m.length - 1 - t + j) % m.length:Nat):Int):=by
    have d:=Nat.div_add_mod (m.length - 1 - t + j) m.length;generalize (m.length - 1 - t + j) / m.length=q at d;generalize (m.length - 1 - t + j) % m.length=r at d cL ⊢;have aD:(t:Int) - (j:Int)=((m.length - 1 - r:Nat):Int) + (m.length:Int) * (-(q:Int)):=by
     have d':(m.length:Int) * (q:Int) + (r:Int)=((m.length - 1 - t + j:Nat):Int):=by rw [<- d];push_cast;rfl
     rw [Int.mul_neg];omega
    rw [aD,DG];exact oh (by omega) (by omega)
   omega
  constructor
  .rintro ⟨j,ar,bc⟩;exact ⟨j,ar,by rw [<- key j];exact bc⟩
  .rintro ⟨j,ar,bc⟩;exact ⟨j,ar,by rw [key j];exact bc⟩
theorem Kv {z:Nat} (ay:0 < z) {b n:Int} (a0:1 <= n/\n <= z) {t:Nat} (c_:t < z):∃ v,(tc (fL z [(b,n)]))[t]? = some v/\0 <= v/\∀ g:Int,0 <= g->(v <= g↔∃ j:Nat,(j:Int) <= g/\((t:Int) - (j:Int) - b) % (z:Int) < n):=by
 have aB:(fL z [(b,n)]).length=z:=oF _ _;obtain ⟨v,ag,ar,bc⟩:=aav (m:=fL z [(b,n)]) (t:=t) (by rw [aB];exact c_);refine ⟨v,ag,ar,fun g a9=>?_⟩;have Qv:=gQ b (show (z:Int) ≠ 0 by omega);have r9:=h1 b (show 0 < (z:Int) by omega);have hm:∃ i,i < (fL z [(b,n)]).length/\(fL z [(b,n)])[i]? = some true:=by
  refine ⟨(b % (z:Int)).toNat,by rw [aB];omega,?_⟩;rw [MG ay ⟨by omega,a0.2⟩ (by omega),l4 Qv,decide_eq_true];rw [N4,Int.sub_self,Int.zero_emod];omega
 rw [bc hm g a9,aB];have key:∀ j:Nat,(fL z [(b,n)])[(((t:Int) - (j:Int)) % (z:Int)).toNat]? = some (decide (((t:Int) - (j:Int) - b) % (z:Int) < n)):=fun j=>by
  have dT:=gQ ((t:Int) - (j:Int)) (show (z:Int) ≠ 0 by omega);have fg:=h1 ((t:Int) - (j:Int)) (show 0 < (z:Int) by omega);rw [MG ay ⟨by omega,a0.2⟩ (by omega),l4 dT,N4]
 constructor
 .rintro ⟨j,g1,g2⟩;rw [key j] at g2;exact ⟨j,g1,of_decide_eq_true (dZ g2)⟩
 .rintro ⟨j,g1,g2⟩;exact ⟨j,g1,by rw [key j,decide_eq_true g2]⟩
theorem Z' {n:Int} {z:Nat} (ay:0 < z) {ds:List aG} {sp:List bK} (ag:∀ d ∈ ds,∃ s:bK,cR d.name sp=[(s.b,s.n)]/\1 <= s.n/\s.n <= z/\∀ e ∈ ds,d.name ≠ e.name->mt n d e=true->∀ aO:bK,cR e.name sp=[(aO.b,aO.n)]->∀ (t j:Nat),t < z->(j:Int) <= ju d e->((t:Int) - aO.b) % z < aO.n->((t:Int) - j - s.b) % z < s.n->False):oL n z sp ds=none:=by
 unfold oL;refine F1.mpr fun d hd=>?_
 unfold Dm;refine F1.mpr fun e he=>?_
 suffices h:qC n z sp d e=none by rw [h];rfl
 unfold qC;split
 .rename_i aq;obtain ⟨s,ax,g1,g2,al⟩:=ag d hd;obtain ⟨aO,aD,g3,uG,_⟩:=ag e he
  suffices h:sg (ju d e) (kl z sp d.name) (kl z sp e.name)=none by rw [h];rfl
  unfold sg;refine n'.mpr fun x ao=>?_
  obtain ⟨⟨hO,Jr⟩,t⟩:=x;have bc:=adJ.mp ao;rw [JF] at bc;dsimp only at bc ⊢;rw [iV,decide_eq_true_eq,decide_eq_true_eq];rintro ⟨e3,eJ⟩;have c_:t < z:=by
   have:=(cW.mp bc.1).1;rwa [BA] at this
  unfold kl at bc;rw [ax,aD] at bc;have a9:0 <= ju d e:=by unfold ju;split <;> omega
  obtain ⟨v1,bR,_,bQ⟩:=Kv (z:=z) ay (b:=s.b) (n:=s.n) ⟨g1,g2⟩ c_;obtain ⟨v2,bo,_,eK⟩:=Kv (z:=z) ay (b:=aO.b) (n:=aO.n) ⟨g3,uG⟩ c_;rw [bc.1] at bR;rw [bc.2] at bo;cases bR;cases bo;obtain ⟨j,bb,af⟩:=(bQ _ a9).mp eJ;obtain ⟨abS,EJ,fv⟩:=(eK 0 (by omega)).mp (by omega);have:abS=0:=by omega
  subst this;exact al e he aq.1 aq.2 aO aD t j c_ bb (by simpa using fv) af
 .rfl
theorem YP {z:Int} {ds:List aG} {sp:List bK} (bE:∀ (i j:Nat) (s e:bK),sp[i]? = some s->sp[j]? = some e->s.name=e.name->i=j) (h:∀ s ∈ sp,∃ d,j_ ds s.name=some d/\d.least <= s.n/\s.n + fj d + eW d <= z):n4 ds z sp=none:=by
 unfold n4;refine n'.mpr fun e he=>?_
 obtain ⟨s,k⟩:=e;have aI:sp[k]? = some s:=by simpa using adJ.mp he
 obtain ⟨d,hw,aB,aj⟩:=h s (c6 aI);intro c;unfold sh at c;dsimp only at c;rw [hw] at c;have c:(decide (s.n < d.least) || decide (qU z sp k s < s.n + fj d + eW d))=true:=c;rw [decide_eq_false (show ¬ s.n < d.least by omega),xp,decide_eq_true_eq] at c;have a0:cR s.name (sp.eraseIdx k)=[]:=by
  cases e:cR s.name (sp.eraseIdx k) with
  | nil=>rfl
  | cons p ps=>
   have aw:p ∈ cR s.name (sp.eraseIdx k):=by rw [e];exact oY ..
   obtain ⟨x,ao,vp,_⟩:=DT aw;obtain ⟨j,bb,m_⟩:=List.mem_eraseIdx_iff_getElem?.mp ao;exact absurd (bE j k x s m_ aI vp) bb
 unfold qU at c;rw [a0] at c;have c:z < s.n + fj d + eW d:=c;omega
theorem OA {sp:List bK} (bE:∀ (i j:Nat) (s e:bK),sp[i]? = some s->sp[j]? = some e->s.name=e.name->i=j) {i:Nat} {s:bK} (aC:sp[i]? = some s):cR s.name sp=[(s.b,s.n)]:=by
 have:∀ (l:List bK) (i:Nat),(∀ (a b:Nat) (s e:bK),l[a]? = some s->l[b]? = some e->s.name=e.name->a=b)->l[i]? = some s->l.filter (fun d=>decide (d.name=s.name))=[s]:=fun l=>by
  induction l with
  | nil=>intro i _ h;simp at h
  | cons x l b2=>
   intro i bE h
   match i,h with
   | 0,h=>
    cases (show x=s by simpa using h);rw [Nf (by simp),Sw.mpr];intro e he z;obtain ⟨j,bb⟩:=iX he;have:=bE (j + 1) 0 e s (by rw [lY];exact bb) rfl (of_decide_eq_true z);omega
   | i + 1,h=>
    rw [lY] at h;rw [NU]
    .exact b2 i (fun a b s e aS af vp=>by have:=bE (a + 1) (b + 1) s e (by rw [lY];exact aS) (by rw [lY];exact af) vp;omega) h
    .intro z;have:=bE 0 (i + 1) x s rfl (by rw [lY];exact h) (of_decide_eq_true z);omega
 unfold cR;rw [this sp i bE aC];rfl
theorem YU {ds:List aG} {sp:List bK} (h:∀ d ∈ ds,∃ s ∈ sp,s.name=d.name):n0 ds sp=none:=by
 unfold n0;refine n'.mpr fun x ao=>?_
 obtain ⟨d,hd,rfl⟩:=dN.mp ao;obtain ⟨s,aC,e⟩:=h d hd;intro z;have:cR d.name sp=[]:=by simpa using z
 have m:(s.b,s.n) ∈ cR d.name sp:=dN.mpr ⟨s,vF.mpr ⟨aC,by simpa using e⟩,rfl⟩;rw [this] at m;cases m
noncomputable def Nj (K:a') (a:Addr) (ns:List Int):bF:=fun vs H Q _=>vs=[.ref a]/\Sc K a ns H/\∀ n:Int,(4 <= n/\n <= 99)->Q (.int n) H
theorem adI (a:Addr) (ns:List Int) (fQ:ns.length <= 63):bT P base T 2 t.r5 t.tL qo (Nj K a ns):=by
 refine bA (ot T a ns fQ) fun dA=>?_;refine T.H9.ok aee (fun vs H Q E h=>?_) (fun _ _ _ s H vs Q E aj h=>?_)
 .obtain ⟨rfl,_⟩:=h;rfl
 obtain ⟨rfl,S,q⟩:=h;have bY:=fe ns 0 (m:=13) (by decide);have b_:=fl ns 0 (m:=13) (by decide);refine ⟨_,(aU (bL (wH (cy dE (bq dA aj T.el T.d5.bg T.ei (ab (U 0) (ab aJ (ab aJ au)))) aJ (cc _)) aJ (Db cO aJ (bq dA aj T.el T.d5.bg T.ei (ab (U 0) (ab aJ (ab aJ au)))))))),?_⟩;nofun;refine ⟨_,_,rfl,S,by decide,by decide,?_⟩;refine ⟨rfl,?_⟩;by_cases z:cn ns 1 6=0
 .rw [if_pos (by rw [z];rfl)];exact q 99 (by decide)
 .rw [if_neg (by simpa using z)];exact ⟨_,_,rfl,S,by decide,by decide,_,rfl,q _ (by omega)⟩
theorem Kk (x:Str) {a b:Nat} (m6:a <= b) (af:b <= x.cps.toList.length):(oR x (some (a:Int)) (some (b:Int))).cps.toList=(x.cps.toList.drop a).take (b - a):=by
 have ao:x.length=x.cps.toList.length:=by simp [lK]
 have e:=StrLaws.sliceText_nat x m6 (by rw [ao];exact af);rw [show oR x (some (a:Int)) (some (b:Int))=CL x (some (a:Int)) (some (b:Int)) from rfl,e]
theorem J6 (x:Str) {b:Nat} (af:b <= x.cps.toList.length):(oR x none (some (b:Int))).cps.toList=x.cps.toList.take b:=by
 have:oR x none (some (b:Int))=oR x (some ((0:Nat):Int)) (some (b:Int)):=by
  show CL x none (some (b:Int))=CL x (some ((0:Nat):Int)) (some (b:Int));unfold CL;rw [StrLaws.sliceIdx_none_lo];rfl
 rw [this,Kk x (gi _) af,List.drop_zero,Nat.sub_zero]
noncomputable def xf (l:List Nat) (k:Nat):List Nat:=l.take (k + 1)
noncomputable def me (l:List Nat) (at_ size f k:Nat):List Nat:=l.take at_ ++ [97 + (f + 7 * k) % 26] ++ (l.drop (at_ + 1)).take (size - (at_ + 1))
theorem Cp {l:List Nat} (aB:l.length=8) (al:∀ c ∈ l,97 <= c/\c <= 122) {k:Nat} (aI:k < 8):(xf l k).length=k + 1/\∀ c ∈ xf l k,97 <= c/\c <= 122:=by
 unfold xf;exact ⟨by rw [fq];omega,fun c aq=>al c (Lf aq)⟩
theorem T4 {l:List Nat} (aB:l.length=8) (al:∀ c ∈ l,97 <= c/\c <= 122) {a z f k:Nat} (aS:a < z) (ay:z <= 8):(me l a z f k).length=z/\∀ c ∈ me l a z f k,97 <= c/\c <= 122:=by
 unfold me;refine ⟨by rw [eV,eV,fq,fq,Of,O5];omega,fun c aq=>?_⟩;rcases r7.mp aq with aq | aq
 .rcases r7.mp aq with aq | aq
  .exact al c (Lf aq)
  .rw [nI.mp aq];omega
 .exact al c (List.mem_of_mem_drop (Lf aq))
theorem QZ {l:List Nat} (aB:l.length=8) {a z f i j:Nat} (aS:a < z) (ay:z <= 8) (ak:i < 8) (bb:j < 8) (e:me l a z f i=me l a z f j):i=j:=by
 have ag:∀ k,(me l a z f k)[a]? = some (97 + (f + 7 * k) % 26):=fun k=>by
  unfold me;rw [nt,se (by rw [fq];omega),fq,show a - min a l.length=0 by omega];rfl
 have ar:=ag i;rw [e,ag j] at ar;have:=dZ ar;omega
theorem acd {x:Str} {l:List Nat} (e:x.cps.toList=l) (h0:1 <= l.length) (ag:l.length <= 8) (al:∀ c ∈ l,97 <= c/\c <= 122):made x dO 8=true:=by
 have ao:x.length=x.cps.toList.length:=by simp [lK]
 exact Ig (by rw [ao,e];exact h0) (by rw [ao,e];exact ag) (by rw [e];exact al)
noncomputable def zR (m:Nat) (xs:List Str):Prop:=xs.length=m/\xs.Nodup/\∀ x ∈ xs,made x dO 8=true
theorem D7 {i:Int} (h0:0 <= i) (ag:i < 26):∃ c:Nat,iZ (aa "abcdefghijklmnopqrstuvwxyz").cps.toList i=some c/\c=97 + i.toNat:=by
 have:∀ k,k < 26->iZ (aa "abcdefghijklmnopqrstuvwxyz").cps.toList ((k:Nat):Int)=some (97 + k):=by ac_nf
 refine ⟨97 + i.toNat,?_,rfl⟩;have e:=this i.toNat (by omega);rwa [l4 h0] at e
theorem FM:∀ ys:List Str,(b3 ⟨#[]⟩ ys).cps.toList=(ys.map (·.cps.toList)).flatten
 | []=>rfl
 | [a]=>by
  show a.cps.toList=_;simp
 | a :: b :: r=>by
  show (a ++ ⟨#[]⟩ ++ b3 ⟨#[]⟩ (b :: r)).cps.toList=_;rw [gI,gZ,gI,gZ,FM (b :: r)];simp
theorem Cn (f:Nat->Nat) (n:Nat):(iA (aa "") ((dG n).map fun i=>ea (f i))).cps.toList=(dG n).map f:=by
 rw [show iA (aa "") ((dG n).map fun i=>ea (f i))=b3 ⟨#[]⟩ ((dG n).map fun i=>ea (f i)) from ta _ _,FM,lG];have:((fun x:Str=>x.cps.toList) ∘ fun i=>ea (f i))=fun i=>[f i]:=rfl
 rw [this]
 induction (dG n) with
 | nil=>rfl
 | cons a l b2=>rw [dP,U3,b2];rfl
noncomputable def afD (K:a') (a:Addr) (ns:List Int):bF:=fun vs H Q _=>∃ m:Nat,vs=[.ref a,.int m]/\Sc K a ns H/\(1 <= m/\m <= 8)/\∀ p xs I,aF H I->Sc K a ns I->H p=none->I p=some (.lst (ba xs))->zR m xs->Q (.ref p) I
theorem agj (a:Addr) (ns:List Int) (fQ:ns.length <= 63):bT P base T 2 t.vE t.yF BR (afD K a ns):=by
 refine bA (ot T a ns fQ) fun dA=>?_;exists T.BZ.ok k5,9
 obtain ⟨m,rfl,S,hm,q⟩:=h;have hI:(aa "abcdefghijklmnopqrstuvwxyz").length=26:=by ac_nf
 refine ⟨_,(aE (rA (i:=2) k5.aA rfl (nU rfl) bG)
   (aE (bI (i:=3) k5.aA (ff iw kO kM j' bG (ab (ig rfl (ja rfl T.iU (ab aJ au)) (fU (sc:=br x7) rfl (by ac_nf)) (N:=["_law_k","_law_letters","_law_script"]) (sel:=[none,some 2,some 0]) (gf (M:=["_law_script","_law_many","_law_letters","_law_word","_law_size","_law_at","_law_first","_law_some","_law_k","_law_name","_law_sign"]) (by ac_nf)) (eZ.of (fun _ _ _ _=>(b1 (i:=0) (eC (N:=["_law_k","_law_letters","_law_script"]) (by ac_nf) rfl))) (fun _ _ _ _=>⟨_,gX,by walk_at "B"⟩) (fun _ _ _ _=>⟨_,(cx vK (U 1) (bq dA aj T.el T.d5.bg T.ei (ab (U 2) (ab (Db cO aJ (U 0)) (ab aJ au))))),by walk_at "B"⟩))) au)))
   (aE (bI (i:=4) k5.aA (Db cO aJ (bq dA aj T.el T.d5.bg T.ei (ab (U 0) (ab aJ (ab aJ au))))))
   (aE (bI (i:=5) k5.aA (bq dA aj T.el T.d5.bg T.ei (ab (U 0) (ab aJ (ab (U 4) au)))))
   (aE (bI (i:=6) k5.aA (bq dA aj T.el T.d5.bg T.ei (ab (U 0) (ab aJ (ab aJ au)))))
   (aE (bI (i:=7) k5.aA (gD au))
   (aE (fN fT rfl (ja rfl T.iU (ab (U 1) au)) (b1 (i:=8) k5.aA) (aE (bI (i:=9) k5.aA (rv IF (U 3) wX (qx (Db cO (U 8) aJ))))
   (aE (cI (cy dE (bq dA aj T.el T.d5.bg T.ei (ab (U 0) (ab aJ (ab aJ au)))) aJ (cc _)) (aE (bI (i:=10) k5.aA (cx vK (U 2) (Db gz (Db cO (U 6) (Db hW aJ (U 8))) aJ)))
   (aU (bI (i:=9) k5.aA (Db cS (Db cS (rv IF (U 3) wX (qx (U 5))) (U 10)) (rv IF (U 3) (qx (Db cO (U 5) aJ)) (qx (U 4))))))) cM)
   (aU (d_ (ff l5 n1 o' oP (U 7) (ab (U 9) au)))))))
   (aE (cI (cy dE (bq dA aj T.el T.d5.bg T.ei (ab (U 0) (ab aJ (ab aJ au)))) aJ (cc _)) (aU (d_ (OJ l5 afV PySem.F.type_list_reverse af9 (U 7)))) cM)
   (aU (bL (U 7))))))))))),?_⟩
 refine fW (fun aQ I=>I=H/\aQ=[~~~a,some (.int m),some (.str (aa "abcdefghijklmnopqrstuvwxyz")),none,none,none,none,none,none,none,none]) (fun dq bu=>?_) fun fD a7=>?_
 .nofun;exact bu _ _ ⟨rfl,rfl⟩
 rintro nD H1 ⟨rfl,rfl⟩;subst a7;refine fW (fun aQ I=>aF H1 I/\Sc K a ns I/\∃ fE:Str,fE.cps.toList.length=8/\(∀ c ∈ fE.cps.toList,97 <= c/\c <= 122)/\aQ=[~~~a,some (.int m),some (.str (aa "abcdefghijklmnopqrstuvwxyz")),some (.str fE),none,none,none,none,none,none,none]) (fun dq bu=>?_) fun fD a7=>?_
 .nofun;refine ⟨by decide,by decide,?_⟩;refine cZ.uQ (n:=8) (fun i=>V.str (ea (97 + (cn ns (100 + (i:Int)) 26).toNat))) (by decide) (fun i N ak bl=>?_) (fun p aw=>?_)
  .have bY:=fe ns (100 + (i:Int)) (m:=26) (by decide);have b_:=fl ns (100 + (i:Int)) (m:=26) (by decide);obtain ⟨c,aq,rfl⟩:=D7 bY b_;(nofun; repeat (dsimp only [ep];nofun));exact ⟨Sub.name,S,by omega,by omega,by decide,by rw [hI];decide,_,aq,bl⟩
  .have e:(dG 8).map (fun i:Nat=>V.str (ea (97 + (cn ns (100 + (i:Int)) 26).toNat)))=ba ((dG 8).map fun i:Nat=>ea (97 + (cn ns (100 + (i:Int)) 26).toNat)):=by unfold ba;rw [lG];rfl
   refine ⟨p,rfl,(dG 8).map fun i:Nat=>ea (97 + (cn ns (100 + (i:Int)) 26).toNat),by rw [<- e];exact aH.of aR,?_,?_⟩
   .have ag:(gb (fun x:Str=>x.length) ((dG 8).map fun i:Nat=>ea (97 + (cn ns (100 + (i:Int)) 26).toNat))).sum=8:=by
     rw [lG];rfl
    rw [ag,a8,jN];ac_nf
   .refine bu _ _ ⟨bN aw,S.new aw,_,?_,fun c aq=>?_,rfl⟩
    .rw [Cn (fun i:Nat=>97 + (cn ns (100 + (i:Int)) 26).toNat) 8,a8,jN]
    .rw [Cn (fun i:Nat=>97 + (cn ns (100 + (i:Int)) 26).toNat) 8] at aq;obtain ⟨i,_,rfl⟩:=dN.mp aq;have bY:=fe ns (100 + (i:Int)) (m:=26) (by decide);have b_:=fl ns (100 + (i:Int)) (m:=26) (by decide);omega
 rintro c5 az ⟨s2,mN,fE,fX,xE,rfl⟩;have od:fE.length=8:=by
  have:fE.length=fE.cps.toList.length:=by simp [lK]
  omega
 obtain ⟨z,fM,iK⟩:∃ z:Nat,1 + cn ns 112 8=(z:Nat)/\(1 <= z/\z <= 8):=by
  have bY:=fe ns 112 (m:=8) (by decide);have b_:=fl ns 112 (m:=8) (by decide);exact ⟨(1 + cn ns 112 8).toNat,by omega,by omega⟩
 subst a7;refine fW (fun aQ I=>I=az/\aQ=[~~~a,some (.int m),some (.str (aa "abcdefghijklmnopqrstuvwxyz")),some (.str fE),some (.int (z:Nat)),none,none,none,none,none,none]) (fun dq bu=>?_) fun fD a7=>?_
 ·(nofun; repeat (dsimp only [ep];nofun));rw [fM];exact ⟨mN,by omega,by omega,by decide,bu _ _ ⟨rfl,rfl⟩⟩
 rintro lD cj ⟨rfl,rfl⟩;obtain ⟨at_,oZ,Mv⟩:∃ at_:Nat,cn ns 113 (z:Int)=(at_:Nat)/\at_ < z:=by
  have bY:=fe ns 113 (m:=(z:Int)) (by omega);have b_:=fl ns 113 (m:=(z:Int)) (by omega);exact ⟨(cn ns 113 (z:Int)).toNat,by omega,by omega⟩
 subst a7;refine fW (fun aQ I=>I=cj/\aQ=[~~~a,some (.int m),some (.str (aa "abcdefghijklmnopqrstuvwxyz")),some (.str fE),some (.int (z:Nat)),some (.int (at_:Nat)),none,none,none,none,none]) (fun dq bu=>?_) fun fD a7=>?_
 ·(nofun; repeat (dsimp only [ep];nofun));rw [oZ];exact ⟨mN,by omega,by omega,by omega,bu _ _ ⟨rfl,rfl⟩⟩
 rintro yj dC ⟨rfl,rfl⟩;obtain ⟨f,hf,ah'⟩:∃ f:Nat,cn ns 114 26=(f:Nat)/\f < 26:=by
  have bY:=fe ns 114 (m:=26) (by decide);have b_:=fl ns 114 (m:=26) (by decide);exact ⟨(cn ns 114 26).toNat,by omega,by omega⟩
 subst a7;refine fW (fun aQ I=>I=dC/\aQ=[~~~a,some (.int m),some (.str (aa "abcdefghijklmnopqrstuvwxyz")),some (.str fE),some (.int (z:Nat)),some (.int (at_:Nat)),some (.int (f:Nat)),none,none,none,none]) (fun dq bu=>?_) fun fD a7=>?_
 ·(nofun; repeat (dsimp only [ep];nofun));rw [hf];exact ⟨mN,by omega,by omega,by decide,bu _ _ ⟨rfl,rfl⟩⟩
 rintro yY dV ⟨rfl,rfl⟩;subst a7;refine fW (fun aQ I=>Sc K a ns I/\aF dV I/\∃ cJ,dV cJ=none/\I cJ=some (.lst [])/\aQ=[~~~a,some (.int m),some (.str (aa "abcdefghijklmnopqrstuvwxyz")),some (.str fE),some (.int (z:Nat)),some (.int (at_:Nat)),some (.int (f:Nat)),~~~cJ,none,none,none]) (fun dq bu=>?_) fun fD a7=>?_
 .nofun;exact ⟨gi _,fun cJ hg=>bu _ _ ⟨mN.new hg,bN hg,cJ,hg,aR,rfl⟩⟩
 rintro nq ib ⟨Ba,gx,cJ,hg,Yw,rfl⟩;obtain ⟨b,af⟩:∃ b:Bool,decide (cn ns 110 2=1)=b:=⟨_,rfl⟩;subst a7;obtain ⟨g,a9⟩:∃ g:Nat->List Nat,g=fun k=>if b=true then me fE.cps.toList at_ z f k else xf fE.cps.toList k:=⟨_,rfl⟩
 refine fW (fun aQ I=>Sc K a ns I/\aF dV I/\(∃ xs:List Str,I cJ=some (.lst (ba xs))/\xs.map (·.cps.toList)=(dG m).map g)/\∃ fy hC fI,aQ=[~~~a,some (.int m),some (.str (aa "abcdefghijklmnopqrstuvwxyz")),some (.str fE),some (.int (z:Nat)),some (.int (at_:Nat)),some (.int (f:Nat)),~~~cJ,fy,hC,fI]) (fun dq bu=>?_) fun fD a7=>?_
 .nofun;refine ⟨by omega,by omega,?_⟩;refine ec.range (fun i σ I=>Sc K a ns I/\aF dV I/\(∃ xs:List Str,I cJ=some (.lst (ba xs))/\xs.map (·.cps.toList)=(dG i).map g)/\∃ fy hC fI,σ=[~~~a,some (.int m),some (.str (aa "abcdefghijklmnopqrstuvwxyz")),some (.str fE),some (.int (z:Nat)),some (.int (at_:Nat)),some (.int (f:Nat)),~~~cJ,fy,hC,fI]) ⟨Ba,gx,⟨[],Yw,rfl⟩,_,_,_,rfl⟩ ?_ ?_
  .rintro i σ I ak bh;ac_rfl
   obtain ⟨jZ,eT,⟨xs,kJ,qi⟩,fy,hC,fI,rfl⟩:=bh;have afl:i < 8:=by have:i < (m:Int).toNat:=ak;omega
   have oq:xs.length=i:=by have:=congrArg m8 qi;rwa [a8,a8,jN] at this
   subst a7;simp only [i7,c3,yB,An,Cr];exists (fun aQ cf=>cf=I/\aQ=[~~~a,some (.int m),some (.str (aa "abcdefghijklmnopqrstuvwxyz")),some (.str fE),some (.int (z:Nat)),some (.int (at_:Nat)),some (.int (f:Nat)),~~~cJ,some (.int (i:Nat)),some (.str (oR fE none (some ((i + 1:Nat):Int)))),fI]),0
   .nofun;exact ⟨by rw [od];decide,bu _ _ ⟨rfl,by rw [Int.natCast_add];rfl⟩⟩
   rintro MY BP ⟨rfl,rfl⟩;subst a7;simp only [c3];exists (fun aQ cf=>cf=BP/\∃ nm:Str,nm.cps.toList=g i/\∃ fI,aQ=[~~~a,some (.int m),some (.str (aa "abcdefghijklmnopqrstuvwxyz")),some (.str fE),some (.int (z:Nat)),some (.int (at_:Nat)),some (.int (f:Nat)),~~~cJ,some (.int (i:Nat)),some (.str nm),fI]),0
   .refine cG b (fun Q aN=>?_) (fun SM=>?_) (fun GG=>?_)
    ·(nofun; repeat (dsimp only [ep];nofun));rw [af];exact ⟨jZ,by omega,by omega,by decide,aN⟩
    .have Dp:g i=me fE.cps.toList at_ z f i:=by rw [a9];exact if_pos SM
     obtain ⟨c,aq,rfl⟩:=D7 (i:=((f:Int) + 7 * (i:Int)) % 26) (gQ _ (by decide)) (h1 _ (by decide));have rQ:∀ k:Nat,k <= 1000->k <= sizeLine:=fun k h=>cp h (by decide)
     have cT:=wx fE none (some (at_:Int));have eu:=wx fE (some ((at_:Int) + 1)) (some (z:Int));have ahw:(ea (97 + (((f:Int) + 7 * (i:Int)) % 26).toNat)).length=1:=rfl;nofun;refine ⟨.inl ⟨by decide,by decide⟩,by decide,by rw [hI];decide,_,aq,by rw [od];decide,rQ _ (by show _ + (ea (97 + (((f:Int) + 7 * (i:Int)) % 26).toNat)).length <= 1000;omega),by rw [od];decide,rQ _ (by show (_ ++ ea (97 + (((f:Int) + 7 * (i:Int)) % 26).toNat)).length + _ <= 1000;rw [Ix];omega),?_⟩;refine bu _ _ ⟨rfl,_,?_,_,rfl⟩;rw [Dp];unfold me;rw [gI,gZ,gI,gZ,J6 fE (by omega),show ((at_:Int) + 1)=((at_ + 1:Nat):Int) by omega,Kk fE (by omega) (by omega),show (((f:Int) + 7 * (i:Int)) % 26).toNat=(f + 7 * i) % 26 by omega]
    .have Dp:g i=xf fE.cps.toList i:=by rw [a9];exact if_neg (by rw [GG];decide)
     nofun;exact bu _ _ ⟨rfl,_,by rw [Dp,J6 fE (by omega)];rfl,_,rfl⟩
   rintro J2 O9 ⟨rfl,nm,xd,fI,rfl⟩;subst a7;nofun;refine ⟨.inl ⟨_,aH.of kJ⟩,_,kJ,iD (show (ba xs).length <= 8 by unfold ba;rw [a8];omega) (by decide),jZ.set kJ (fun _ _ z=>by cases z),eT.gB hg,⟨xs ++ [nm],?_,?_⟩,?_⟩
   .rw [aR];unfold ba;rw [eQ];rfl
   .rw [eQ,qi,z',eQ,dP,hE,xd];rfl
   .repeat (first | exact ⟨_,rfl⟩ | refine ⟨⟨_,rfl⟩,?_⟩)
  .rintro σ I bh;ac_rfl
   obtain ⟨jZ,eT,⟨xs,kJ,qi⟩,fy,hC,fI,rfl⟩:=bh;subst a7;exact bu _ _ ⟨jZ,eT,⟨xs,kJ,by rw [qi,show (m:Int).toNat=m by omega]⟩,fy,hC,fI,rfl⟩
 rintro jb gC ⟨jZ,eT,⟨xs,kJ,qi⟩,fy,hC,fI,rfl⟩;have oq:xs.length=m:=by have:=congrArg m8 qi;rwa [a8,a8,jN] at this
 have Ve:∀ k,k < m->(1 <= (g k).length/\(g k).length <= 8)/\∀ c ∈ g k,97 <= c/\c <= 122:=fun k aI=>by
  rw [a9];dsimp only;split
  .have:=T4 fX xE (f:=f) (k:=k) Mv iK.2;exact ⟨by omega,this.2⟩
  .have:=Cp fX xE (k:=k) (by omega);exact ⟨by omega,this.2⟩
 have aa6:∀ i j,i < m->j < m->g i=g j->i=j:=fun i j ak bb e=>by
  rw [a9] at e
  try dsimp only at e
  split at e
  .exact QZ fX Mv iK.2 (by omega) (by omega) e
  .have ag:=Cp fX xE (k:=i) (by omega);have ar:=Cp fX xE (k:=j) (by omega);rw [e] at ag;omega
 have Il:∀ (i:Nat) (x:Str),xs[i]? = some x->i < m/\x.cps.toList=g i:=fun i x ao=>by
  have ak:i < m:=by rw [<- oq];exact (cW.mp ao).1
  have e:=congrArg (fun l=>l[i]?) qi
  try dsimp only at e
  rw [dS,ao,dS,JX ak] at e;exact ⟨ak,dZ e⟩
 have N:zR m xs:=by
  refine ⟨oq,List.pairwise_iff_getElem.mpr fun i j ak bb Eo e=>?_,fun x ao=>?_⟩
  .obtain ⟨a1,a2⟩:=Il i _ (cv ak);obtain ⟨dr,dX⟩:=Il j _ (cv bb);rw [e,dX] at a2;have:=aa6 i j a1 dr a2.symm;omega
  .obtain ⟨i,ak⟩:=iX ao;obtain ⟨a1,a2⟩:=Il i _ ak;have:=Ve i a1;exact acd a2 this.1.1 this.1.2 this.2
 subst a7;refine fW (fun aQ I=>Sc K a ns I/\aF dV I/\(∃ xs:List Str,I cJ=some (.lst (ba xs))/\zR m xs)/\∃ fy hC fI,aQ=[~~~a,some (.int m),some (.str (aa "abcdefghijklmnopqrstuvwxyz")),some (.str fE),some (.int (z:Nat)),some (.int (at_:Nat)),some (.int (f:Nat)),~~~cJ,fy,hC,fI]) (fun dq bu=>?_) fun fD a7=>?_
 .refine cG (decide (cn ns 111 2=1)) (fun Q aN=>?_) (fun _=>?_) (fun _=>?_)
  ·(nofun; repeat (dsimp only [ep];nofun));exact ⟨jZ,by omega,by omega,by decide,aN⟩
  .nofun;refine ⟨.inl ⟨_,aH.of kJ⟩,_,kJ,bu _ _ ⟨jZ.set kJ (fun _ _ z=>by cases z),eT.gB hg,⟨xs.reverse,by rw [aR];unfold ba;rw [Er],by rw [pj];exact N.1,List.pairwise_reverse.mpr (N.2.1.imp fun h=>eY h),fun x ao=>N.2.2 x (List.mem_reverse.mp ao)⟩,_,_,_,rfl⟩⟩
  .nofun;exact bu _ _ ⟨jZ,eT,⟨xs,kJ,N⟩,_,_,_,rfl⟩
 rintro uC gK ⟨Q5,fs,⟨ys,G5,ZX⟩,aim,aiI,ahe,rfl⟩;subst a7;nofun;exact q cJ ys gK (s2.trans fs) Q5 (s2.free hg) G5 ZX
noncomputable abbrev oM (d:aG):List V:=[.str (dK d.k),.str d.name,.int d.start,.int d.fin,.int d.off,.int d.near,.int d.least]
noncomputable def jv (H:ah) (wl:Addr) (ds:List aG):Prop:=∃ qs:List Addr,H wl=some (.lst (qs.map V.ref))/\qs.length=ds.length/\∀ (i:Nat) (q:Addr) (d:aG),qs[i]? = some q->ds[i]? = some d->H q=some (.tup (oM d))
theorem jv.same {H I:ah} {wl:Addr} {ds:List aG} (h:jv H wl ds) (s:aF H I):jv I wl ds:=by
 obtain ⟨qs,ax,aD,al⟩:=h;exact ⟨qs,s _ _ ax,aD,fun i q d ag ar=>s _ _ (al i q d ag ar)⟩
theorem jv.snoc {H:ah} {wl p:Addr} {ds:List aG} {d:aG} {qs:List Addr} (cT:H wl=some (.lst (qs.map V.ref))) (eu:qs.length=ds.length)
  (al:∀ (i:Nat) (q:Addr) (d:aG),qs[i]? = some q->ds[i]? = some d->H q=some (.tup (oM d))) (aw:H p=none) :
  jv (upd (upd H p (.tup (oM d))) wl (.lst (qs.map V.ref ++ [.ref p]))) wl (ds ++ [d]):=by
 have pT:p ≠ wl:=(cV cT aw).symm;refine ⟨qs ++ [p],by rw [aR,eQ];rfl,by rw [eV,eV,eu];rfl,fun i q e ag ar=>?_⟩;rcases jV ag with ⟨eJ,e3⟩ | ⟨eJ,rfl⟩
 .rcases jV ar with ⟨mV,uD⟩ | ⟨mV,_⟩
  .have:=al i q e e3 uD;rw [aW (dH this cT (by intro z;cases z)),aW (cV this aw)];exact this
  .omega
 .rcases jV ar with ⟨mV,uD⟩ | ⟨mV,rfl⟩
  .omega
  .rw [aW pT,aR]
theorem W9 {n s j:Int} (h0:0 <= s) (ag:s < n) (ar:0 <= j) (bc:j < n - 1):s ≠ (s + 1 + j) % n:=by
 by_cases c:s + 1 + j < n
 .rw [oh (by omega) c];omega
 .rw [show s + 1 + j=(s + 1 + j - n) + n * 1 by omega,DG,oh (by omega) (by omega)];omega
theorem ZN {i:Int} (h0:0 <= i) (ag:i < 3):iZ [V.str (aa "car"),V.str (aa "foot"),V.str (aa "tram")] i=some (.str (dK i.toNat)):=by
 have:i=0\/i=1\/i=2:=by omega
 rcases this with rfl | rfl | rfl
 .exact dh (j:=0) rfl
 .exact dh (j:=1) rfl
 .exact dh (j:=2) rfl
structure md (n:Int) (ds:List aG):Prop where
 al:∀ d ∈ ds,m9 n d/\d.least <= 4
 aA:(ds.map (·.name)).Nodup
theorem md.J3 {n:Int} {ds:List aG} (h:md n ds) (a0:2 <= n/\n <= 99) (aB:1 <= ds.length/\ds.length <= 12):ke n ds:=⟨a0,aB,fun d hd=>(h.al d hd).1,h.aA⟩
noncomputable def Jp (K:a') (a:Addr) (ns:List Int):bF:=fun vs H Q _=>∃ (m:Nat) (n:Int),vs=[.ref a,.int m,.int n]/\Sc K a ns H/\(1 <= m/\m <= 8)/\(4 <= n/\n <= 99)/\∀ p ds I,aF H I->Sc K a ns I->H p=none->jv I p ds->ds.length=m->md n ds->Q (.ref p) I
theorem Sm (a:Addr) (ns:List Int) (fQ:ns.length <= 63):bT P base T 3 t.rz t.ui yn (Jp K a ns):=by
 refine bA (ot T a ns fQ) fun dA=>bA (agj T a ns fQ) fun acU=>?_;exists T.Hy.ok jT,9
 obtain ⟨m,n,rfl,S,hm,a0,q⟩:=h;refine ⟨_,(aE (bI (i:=3) jT.aA (bq acU aj T.X0 T.BZ.bg T.Zn (ab (U 0) (ab (U 1) au))))
   (aE (bI (i:=4) jT.aA (bq dA aj T.el T.d5.bg T.ei (ab (U 0) (ab aJ (ab (U 2) au)))))
   (aE (bI (i:=5) jT.aA (gD au))
   (aE (fN fT rfl (ja rfl T.iU (ab (U 1) au)) (b1 (i:=6) jT.aA) (aE (bI (i:=7) jT.aA (bq dA aj T.el T.d5.bg T.ei (ab (U 0) (ab (Db cO aJ (Db hW aJ (U 6))) (ab (U 2) au)))))
   (aE (bI (i:=8) jT.aA (Db gz (Db cO (Db cO (U 7) aJ) (bq dA aj T.el T.d5.bg T.ei (ab (U 0) (ab (Db cO aJ (Db hW aJ (U 6))) (ab (Db ol (U 2) aJ) au))))) (U 2)))
   (aE (cI (gy.pt (xe (cy dE (bq dA aj T.el T.d5.bg T.ei (ab (U 0) (ab aJ (ab aJ au)))) aJ (cc _)) (vi (cy jj (U 7) (U 4) (cc _))))) (aU (bI (i:=8) jT.aA (U 4))) cM)
   (aE (bI (i:=9) jT.aA (bq dA aj T.el T.d5.bg T.ei (ab (U 0) (ab (Db cO aJ (Db hW aJ (U 6))) (ab aJ au)))))
   (aE (bI (i:=10) jT.aA (bq dA aj T.el T.d5.bg T.ei (ab (U 0) (ab (Db cO aJ (Db hW aJ (U 6))) (ab aJ au)))))
   (aE (cI (cy dE (bq dA aj T.el T.d5.bg T.ei (ab (U 0) (ab (Db cO aJ (U 6)) (ab aJ au)))) aJ (cc _)) (aU (bI (i:=9) jT.aA (bq dA aj T.el T.d5.bg T.ei (ab (U 0) (ab (Db cO aJ (Db hW aJ (U 6))) (ab aJ au)))))) cM)
   (aE (cI (cy dE (bq dA aj T.el T.d5.bg T.ei (ab (U 0) (ab (Db cO aJ (Db hW aJ (U 6))) (ab aJ au)))) aJ (cc _)) (aU (bI (i:=10) jT.aA (bq dA aj T.el T.d5.bg T.ei (ab (U 0) (ab (Db cO aJ (Db hW aJ (U 6))) (ab aJ au)))))) cM)
   (aE (bI (i:=11) jT.aA (cx dm (gD (ab bG (ab bG (ab bG au)))) (bq dA aj T.el T.d5.bg T.ei (ab (U 0) (ab (Db cO aJ (Db hW aJ (U 6))) (ab aJ au))))))
   (aE (bI (i:=12) jT.aA (Db cO aJ (bq dA aj T.el T.d5.bg T.ei (ab (U 0) (ab (Db cO aJ (Db hW aJ (U 6))) (ab aJ au))))))
   (aU (d_ (ff l5 n1 o' oP (U 5) (ab (ox (ab (U 11) (ab (cx dm (U 3) (U 6)) (ab (U 7) (ab (U 8) (ab (U 9) (ab (U 10) (ab (U 12) au)))))))) au))))))))))))))
   (aU (bL (U 5))))))),?_⟩
 refine fW (fun aQ I=>aF H I/\Sc K a ns I/\∃ nl xs,I nl=some (.lst (ba xs))/\zR m xs/\aQ=[~~~a,some (.int m),some (.int n),~~~nl,none,none,none,none,none,none,none,none,none]) (fun dq bu=>?_) fun fD a7=>?_
 .nofun;exact ⟨m,rfl,S,hm,fun p xs I s1 pq _ e N=>bu _ _ ⟨s1,pq,p,xs,e,N,rfl⟩⟩
 rintro nD H1 ⟨s1,pq,nl,xs,vp,N,rfl⟩;subst a7;refine fW (fun aQ I=>I=H1/\∃ hu:Int,(0 <= hu/\hu < n)/\aQ=[~~~a,some (.int m),some (.int n),~~~nl,some (.int hu),none,none,none,none,none,none,none,none]) (fun dq bu=>?_) fun fD a7=>?_
 .have bY:=fe ns 115 (m:=n) (by omega);have b_:=fl ns 115 (m:=n) (by omega);(nofun; repeat (dsimp only [ep];nofun));exact ⟨pq,by omega,by omega,by omega,bu _ _ ⟨rfl,_,⟨bY,b_⟩,rfl⟩⟩
 rintro c5 az ⟨rfl,hu,acj,rfl⟩;subst a7;refine fW (fun aQ I=>Sc K a ns I/\aF az I/\∃ wl,az wl=none/\I wl=some (.lst [])/\aQ=[~~~a,some (.int m),some (.int n),~~~nl,some (.int hu),~~~wl,none,none,none,none,none,none,none]) (fun dq bu=>?_) fun fD a7=>?_
 .nofun;exact ⟨gi _,fun wl fX=>bu _ _ ⟨pq.new fX,bN fX,wl,fX,aR,rfl⟩⟩
 rintro lD cj ⟨YS,s3,wl,fX,iP,rfl⟩;subst a7;nofun;refine ⟨by omega,by omega,?_⟩;refine ec.range (fun i σ I=>Sc K a ns I/\aF az I/\(∃ ds,jv I wl ds/\ds.length=i/\(∀ d ∈ ds,m9 n d/\d.least <= 4)/\∀ (j:Nat) (d:aG),ds[j]? = some d->xs[j]? = some d.name)/\∃ hk hi fy hC fI mn hR,σ=[~~~a,some (.int m),some (.int n),~~~nl,some (.int hu),~~~wl,hk,hi,fy,hC,fI,mn,hR]) ⟨YS,s3,⟨[],⟨[],iP,rfl,fun i q d h=>by simp at h⟩,rfl,fun d h=>by simp at h,fun j d h=>by simp at h⟩,_,_,_,_,_,_,_,rfl⟩ ?_ ?_
 .rintro i σ I ak bh;ac_rfl
  obtain ⟨gJ,s4,⟨ds,r8,fO,bz,xd⟩,hk,hi,fy,hC,fI,mn,hR,rfl⟩:=bh;have Jj:i < m:=by have:i < (m:Int).toNat:=ak;omega
  have su:xs[i]? = some (xs[i]'(by rw [N.1];exact Jj)):=cv _;subst a7;generalize xs[i]'(by rw [N.1];exact Jj)=nm at su;have S0:=s4 _ _ vp;have TY:iZ (ba xs) ((i:Nat):Int)=some (.str nm):=dh (by unfold ba;rw [dS,su];rfl);simp only [i7,c3,yB,An,Cr];exists (fun aQ cf=>cf=I/\∃ st:Int,(0 <= st/\st < n)/\aQ=[~~~a,some (.int m),some (.int n),~~~nl,some (.int hu),~~~wl,some (.int (i:Nat)),some (.int st),fy,hC,fI,mn,hR]),0
  .have bY:=fe ns (120 + 7 * (i:Int)) (m:=n) (by omega);have b_:=fl ns (120 + 7 * (i:Int)) (m:=n) (by omega);(nofun; repeat (dsimp only [ep];nofun));exact ⟨.inl ⟨by decide,by decide⟩,gJ,by omega,by omega,by omega,bu _ _ ⟨rfl,_,⟨bY,b_⟩,rfl⟩⟩
  rintro MY BP ⟨rfl,st,gk,rfl⟩;subst a7;simp only [c3];exists (fun aQ cf=>cf=BP/\∃ e5:Int,(0 <= e5/\e5 < n)/\st ≠ e5/\aQ=[~~~a,some (.int m),some (.int n),~~~nl,some (.int hu),~~~wl,some (.int (i:Nat)),some (.int st),some (.int e5),hC,fI,mn,hR]),0
  .have bY:=fe ns (121 + 7 * (i:Int)) (m:=n - 1) (by omega);have b_:=fl ns (121 + 7 * (i:Int)) (m:=n - 1) (by omega);have m0:=gQ (st + 1 + cn ns (121 + 7 * (i:Int)) (n - 1)) (show n ≠ 0 by omega);have fc:=h1 (st + 1 + cn ns (121 + 7 * (i:Int)) (n - 1)) (show 0 < n by omega);(nofun; repeat (dsimp only [ep];nofun));exact ⟨.inl ⟨by decide,by decide⟩,gJ,by omega,by omega,by omega,by omega,bu _ _ ⟨rfl,_,⟨m0,fc⟩,W9 gk.1 gk.2 bY (by omega),rfl⟩⟩
  rintro J2 O9 ⟨rfl,e5,AF,dW,rfl⟩;subst a7;simp only [c3];exists (fun aQ cf=>cf=O9/\∃ e5:Int,(0 <= e5/\e5 < n)/\st ≠ e5/\aQ=[~~~a,some (.int m),some (.int n),~~~nl,some (.int hu),~~~wl,some (.int (i:Nat)),some (.int st),some (.int e5),hC,fI,mn,hR]),0
  .refine cG (decide (cn ns 116 3=0) && decide (st ≠ hu)) (fun Q aN=>?_) (fun af=>?_) (fun af=>?_)
   ·(nofun; repeat (dsimp only [ep];nofun));refine ⟨gJ,by omega,by omega,by decide,?_⟩;by_cases dT:cn ns 116 3=0
    .rw [if_pos (decide_eq_true dT)];rw [decide_eq_true dT,tF,show decide (st ≠ hu) = !decide (st=hu) from decide_not] at aN;exact aN
    .rw [if_neg (by simpa using dT)];rw [decide_eq_false dT,q0] at aN;exact aN
   .rw [iV] at af;nofun;exact bu _ _ ⟨rfl,hu,acj,of_decide_eq_true af.2,rfl⟩
   .nofun;exact bu _ _ ⟨rfl,e5,AF,dW,rfl⟩
  rintro S5 afY ⟨rfl,oN,Ml,aaa,rfl⟩;subst a7;simp only [c3];exists (fun aQ cf=>cf=afY/\∃ qk:Int,(0 <= qk/\qk <= 30)/\aQ=[~~~a,some (.int m),some (.int n),~~~nl,some (.int hu),~~~wl,some (.int (i:Nat)),some (.int st),some (.int oN),some (.int qk),fI,mn,hR]),0
  .have bY:=fe ns (123 + 7 * (i:Int)) (m:=9) (by decide);have b_:=fl ns (123 + 7 * (i:Int)) (m:=9) (by decide);(nofun; repeat (dsimp only [ep];nofun));exact ⟨.inl ⟨by decide,by decide⟩,gJ,by omega,by omega,by decide,bu _ _ ⟨rfl,_,by omega,rfl⟩⟩
  rintro X1 ZA ⟨rfl,Kc,Uw,rfl⟩;subst a7;simp only [c3];exists (fun aQ cf=>cf=ZA/\∃ pE:Int,(0 <= pE/\pE <= 30)/\aQ=[~~~a,some (.int m),some (.int n),~~~nl,some (.int hu),~~~wl,some (.int (i:Nat)),some (.int st),some (.int oN),some (.int Kc),some (.int pE),mn,hR]),0
  .have bY:=fe ns (125 + 7 * (i:Int)) (m:=6) (by decide);have b_:=fl ns (125 + 7 * (i:Int)) (m:=6) (by decide);(nofun; repeat (dsimp only [ep];nofun));exact ⟨.inl ⟨by decide,by decide⟩,gJ,by omega,by omega,by decide,bu _ _ ⟨rfl,_,by omega,rfl⟩⟩
  rintro ahk acn ⟨rfl,ne1,Tx,rfl⟩;subst a7;simp only [c3];exists (fun aQ cf=>cf=acn/\∃ qk:Int,(0 <= qk/\qk <= 30)/\aQ=[~~~a,some (.int m),some (.int n),~~~nl,some (.int hu),~~~wl,some (.int (i:Nat)),some (.int st),some (.int oN),some (.int qk),some (.int ne1),mn,hR]),0
  .refine cG (decide (cn ns (117 + (i:Int)) 6=0)) (fun Q aN=>?_) (fun _=>?_) (fun _=>?_)
   ·(nofun; repeat (dsimp only [ep];nofun));exact ⟨gJ,by omega,by omega,by decide,aN⟩
   .have bY:=fe ns (123 + 7 * (i:Int)) (m:=31) (by decide);have b_:=fl ns (123 + 7 * (i:Int)) (m:=31) (by decide);(nofun; repeat (dsimp only [ep];nofun));exact ⟨.inl ⟨by decide,by decide⟩,gJ,by omega,by omega,by decide,bu _ _ ⟨rfl,_,by omega,rfl⟩⟩
   .nofun;exact bu _ _ ⟨rfl,Kc,Uw,rfl⟩
  rintro ahb SW ⟨rfl,of2,WX,rfl⟩;subst a7;simp only [c3];exists (fun aQ cf=>cf=SW/\∃ pE:Int,(0 <= pE/\pE <= 30)/\aQ=[~~~a,some (.int m),some (.int n),~~~nl,some (.int hu),~~~wl,some (.int (i:Nat)),some (.int st),some (.int oN),some (.int of2),some (.int pE),mn,hR]),0
  .refine cG (decide (cn ns (124 + 7 * (i:Int)) 8=0)) (fun Q aN=>?_) (fun _=>?_) (fun _=>?_)
   ·(nofun; repeat (dsimp only [ep];nofun));exact ⟨.inl ⟨by decide,by decide⟩,gJ,by omega,by omega,by decide,aN⟩
   .have bY:=fe ns (125 + 7 * (i:Int)) (m:=31) (by decide);have b_:=fl ns (125 + 7 * (i:Int)) (m:=31) (by decide);(nofun; repeat (dsimp only [ep];nofun));exact ⟨.inl ⟨by decide,by decide⟩,gJ,by omega,by omega,by decide,bu _ _ ⟨rfl,_,by omega,rfl⟩⟩
   .nofun;exact bu _ _ ⟨rfl,ne1,Tx,rfl⟩
  rintro aiD ZO ⟨rfl,ne2,Wx,rfl⟩;subst a7;simp only [c3];exists (fun aQ cf=>aF ZO cf/\Sc K a ns cf/\∃ k:Nat,k < 3/\aQ=[~~~a,some (.int m),some (.int n),~~~nl,some (.int hu),~~~wl,some (.int (i:Nat)),some (.int st),some (.int oN),some (.int of2),some (.int ne2),some (.str (dK k)),hR]),0
  .have bY:=fe ns (122 + 7 * (i:Int)) (m:=3) (by decide);have b_:=fl ns (122 + 7 * (i:Int)) (m:=3) (by decide);(nofun; repeat (dsimp only [ep];nofun));exact ⟨by decide,fun p aw=>⟨.inl ⟨by decide,by decide⟩,gJ.new aw,by omega,by omega,by decide,_,aH.of aR,_,ZN bY b_,bu _ _ ⟨bN aw,gJ.new aw,_,by omega,rfl⟩⟩⟩
  rintro aiz Wh ⟨DQ,Mu,k,aI,rfl⟩;have af4:=DQ _ _ S0;have VO:=r8.same DQ;subst a7;simp only [c3];exists (fun aQ cf=>cf=Wh/\∃ sN:Int,(1 <= sN/\sN <= 4)/\aQ=[~~~a,some (.int m),some (.int n),~~~nl,some (.int hu),~~~wl,some (.int (i:Nat)),some (.int st),some (.int oN),some (.int of2),some (.int ne2),some (.str (dK k)),some (.int sN)]),0
  .have bY:=fe ns (126 + 7 * (i:Int)) (m:=4) (by decide);have b_:=fl ns (126 + 7 * (i:Int)) (m:=4) (by decide);(nofun; repeat (dsimp only [ep];nofun));exact ⟨.inl ⟨by decide,by decide⟩,Mu,by omega,by omega,by decide,bu _ _ ⟨rfl,_,by omega,rfl⟩⟩
  rintro aiN ai2 ⟨rfl,sN,hle,rfl⟩;obtain ⟨qs,cT,eu,al⟩:=VO;subst a7;nofun;refine ⟨.inl ⟨_,aH.of cT⟩,_,aH.of af4,_,TY,by decide,fun p aw=>?_⟩;have v5:wl ≠ p:=cV cT aw;have Gm:=jv.snoc (d:=⟨k,nm,st,oN,of2,ne2,sN⟩) cT eu al aw;refine ⟨_,by rw [aW v5];exact cT,iD (show (qs.map V.ref).length <= 8 by rw [a8];omega) (by decide),(Mu.new aw).set (by rw [aW v5];exact cT) (fun _ _ z=>by cases z),((s4.trans DQ).trans (bN aw)).gB fX,⟨ds ++ [⟨k,nm,st,oN,of2,ne2,sN⟩],Gm,by rw [eV,fO];rfl,fun d hd=>?_,fun j d hd=>?_⟩,?_⟩
  .rcases r7.mp hd with hd | hd
   .exact bz d hd
   .rw [nI.mp hd];exact ⟨⟨aI,N.2.2 nm (c6 su),⟨gk.1,gk.2⟩,⟨Ml.1,Ml.2⟩,aaa,WX,Wx,⟨hle.1,by dsimp only;omega⟩⟩,hle.2⟩
  .rcases jV hd with ⟨_,z⟩ | ⟨z,rfl⟩
   .exact xd j d z
   .rw [z,fO];exact su
  .repeat (first | exact ⟨_,rfl⟩ | refine ⟨⟨_,rfl⟩,?_⟩)
 .rintro σ I bh;ac_rfl
  obtain ⟨gJ,s4,⟨ds,r8,fO,bz,xd⟩,hk,hi,fy,hC,fI,mn,hR,rfl⟩:=bh;subst a7;rw [show (m:Int).toNat=m by omega] at fO;nofun;refine q wl ds I (s1.trans s4) gJ (s1.free fX) r8 fO ⟨fun d hd=>bz d hd,?_⟩;have e:ds.map (·.name)=xs:=by
   refine List.ext_getElem? fun j=>?_
   rw [dS];cases h:ds[j]? with
   | some d=>exact (xd j d h).symm
   | none=>
    have:ds.length <= j:=adH.mp h;exact (adH.mpr (by rw [N.1];omega)).symm
  rw [e];exact N.2.1
theorem abQ (n:Int):aa "ring " ++ num n=b3 bw [aa "ring",num n]:=by
 apply js;have ax:(aa "ring ").cps.toList=[114,105,110,103,32]:=by ac_nf
 have aD:(aa "ring").cps.toList=[114,105,110,103]:=by ac_nf
 rw [km,kf];simp only [gI,gZ,dP,hE,f7,ax,aD,mP,ma]
theorem Ke {B:Nat}:∀ {ys:List Str},(∀ y ∈ ys,y.length <= B)->(ys.map (·.length)).sum <= ys.length * B
 | [],_=>by simp
 | a :: r,h=>by
  have ag:=h a (by simp);have ar:=Ke (B:=B) (ys:=r) fun y bj=>h y (hP _ bj)
  rw [dP,vd,fp,ac4];omega
theorem I3 {n:Int} {ds:List aG} (h:ke n ds):∀ y ∈ (f3 n ds).map (b3 bw),y.length <= 63:=fun y bj=>by
 obtain ⟨r,aj,rfl⟩:=dN.mp bj;have:=lE bw 8 r fun x ao=>(h.plain r aj x ao).1
 rw [hA] at this;have aB:r.length <= 7:=by
  rcases cP.mp aj with rfl | aj
  .simp
  .obtain ⟨d,hd,rfl⟩:=dN.mp aj;simp [ki]
 omega
noncomputable def L1 (K:a'):bF:=fun vs H Q _=>∃ n wl ds,vs=[.int n,.ref wl]/\jv H wl ds/\md n ds/\(2 <= n/\n <= 99)/\(1 <= ds.length/\ds.length <= 12)/\aM H/\Q (.str (e4 n ds)) H
noncomputable def ae' (K:a'):bF:=fun vs H Q _=>∃ n wl ds,vs=[.int n,.ref wl]/\jv H wl ds/\md n ds/\(2 <= n/\n <= 99)/\(1 <= ds.length/\ds.length <= 12)/\∀ I,aF H I->Q (.str (e4 n ds)) I
theorem adP:bT P base T 1 t.ru t.xo yN (L1 K):=by
 refine cg.forget (sp:=ae' K) ?_ fun vs H Q E h=>?_
 .exists T.E1.ok GQ,9
  obtain ⟨n,wl,ds,rfl,L,D,a0,aB,q⟩:=h;refine ⟨_,(aE (bI (i:=2) GQ.aA (gD (ab (Db cS bG (ie i9 rfl T.jn i6 (ab (U 0) au))) au)))
   (aE (fN fT rfl (gv (U 1)) (b1 (i:=3) GQ.aA) (aU (d_ (ff l5 n1 o' oP (U 2) (ab (ff iw kO kM j' bG (ab (Db aaI (gD (ab (cx wn (U 3) aJ) (ab (cx wn (U 3) aJ) au))) (ig rfl (Oh (rv ae1 (U 3) (qx aJ) wX)) (fU (sc:=br x4) rfl (by ac_nf)) (N:=["_law_number"]) (sel:=[none]) (gf (M:=["_law_places_here","_law_ways_here","_law_rows","_law_way"]) (by ac_nf)) (eZ.of (fun _ _ _ _=>(b1 (i:=0) (eC (N:=["_law_number"]) (by ac_nf) rfl))) (fun _ _ _ _=>⟨_,gX,by walk_at "B"⟩) (fun _ _ _ _=>⟨_,(ie i9 rfl T.jn i6 (ab (U 0) au)),by walk_at "B"⟩)))) au)) au)))))
   (aU (bL (ff iw kO kM j' bG (ab (U 2) au)))))),?_⟩
  have cX:=D.J3 a0 aB;obtain ⟨qs,cT,eu,al⟩:=L;have hlen:∀ x:Str,nT x->x.length <= 8:=fun x h=>h.1
  have rQ:∀ k:Nat,k <= 1000->k <= sizeLine:=fun k h=>cp h (by decide)
  have ad1:(aa "ring ").length=5:=by ac_nf
  have r9:(aa " ").length=1:=by ac_nf
  nofun;have ah7:(aa (toString n)).length <= 8:=(i' (v:=n) (by omega) (by omega)).1;refine ⟨Iy (by omega),rQ _ (by rw [ad1];omega),by decide,fun cJ Nt=>?_⟩;rw [abQ];have s0:aF H (upd H cJ (.lst [V.str (b3 bw [aa "ring",num n])])):=bN Nt;refine ⟨⟨_,aH.of (s0 _ _ cT)⟩,?_⟩;refine ec.list (xs:=qs.map V.ref) (fun i σ I=>aF H I/\I cJ=some (.lst (ba ((f3 n (ds.take i)).map (b3 bw))))/\∃ x,σ=[some (.int n),~~~wl,~~~cJ,x]) ?_ ?_ ?_ ?_
  .exact ⟨s0,aR,none,rfl⟩
  .rintro i σ I ak ⟨bf,_,_⟩;exact aH.of (bf _ _ cT)
  .rintro i v σ I aK bh;ac_rfl
   obtain ⟨bf,aj,x,rfl⟩:=bh;obtain ⟨ef,a4,rfl⟩:=cz aK;have hS:i < ds.length:=by rw [<- eu];exact (cW.mp a4).1
   have hd:ds[i]? = some ds[i]:=cv hS;have iY:cU K I ef (oM ds[i]):=cU.of (bf _ _ (al i ef _ a4 hd));have hw:=(D.al _ (c6 hd)).1;have dr:=hw.st;have dX:=hw.e5;have PR:=hw.of;have Qw:=hw.Bo;have ZV:=hw.le;have eJ:=hlen _ (MR ds[i].k);have e3:=hlen _ (F4 hw.nm);have ahj:(num ds[i].start).length <= 8:=hlen _ (i' (v:=ds[i].start) (by omega) (by omega));have agZ:(num ds[i].fin).length <= 8:=hlen _ (i' (v:=ds[i].fin) (by omega) (by omega));have ag':(num ds[i].off).length <= 8:=hlen _ (i' (v:=ds[i].off) (by omega) (by omega));have aif:(num ds[i].least).length <= 8:=hlen _ (i' (v:=ds[i].least) (by omega) (by omega));have ain:(num ds[i].near).length <= 8:=hlen _ (i' (v:=ds[i].near) (by omega) (by omega));subst a7;nofun;refine ⟨.inl ⟨_,aH.of aj⟩,?_⟩;have aaR:iZ (oM ds[i]) 0=some (.str (dK ds[i].k)):=dh (j:=0) rfl;have zd:iZ (oM ds[i]) 1=some (.str ds[i].name):=dh (j:=1) rfl;have wb:kK (oM ds[i]) (some 2) none=[.int ds[i].start,.int ds[i].fin,.int ds[i].off,.int ds[i].near,.int ds[i].least]:=rfl;refine ⟨_,iY,_,aaR,_,iY,_,zd,by decide,fun p7 pg=>?_⟩;have s1:aF I (upd I p7 (.lst [.str (dK ds[i].k),.str ds[i].name])):=bN pg;have lJ:=s1 _ _ aj;have Lq:(upd I p7 (.lst [.str (dK ds[i].k),.str ds[i].name])) p7=some (.lst [.str (dK ds[i].k),.str ds[i].name]):=aR;have hQ:=bf.trans s1;have P8:=iY.same s1;generalize upd I p7 (.lst [.str (dK ds[i].k),.str ds[i].name])=H1 at lJ Lq hQ P8 ⊢;refine ⟨_,P8,(show ¬ (fa.cA 7 0 (some 2)=0/\fa.cA 7 7 none=7) by decide),fun p aw=>⟨⟨_,cU.of aR⟩,?_⟩⟩;rw [wb];refine cZ.acB (xs:=[.int ds[i].start,.int ds[i].fin,.int ds[i].off,.int ds[i].near,.int ds[i].least]) (zs:=ba [num ds[i].start,num ds[i].fin,num ds[i].off,num ds[i].near,num ds[i].least]) (cU.of aR) (rQ _ (show 5 <= 1000 by decide)) rfl (fun j v z N aK ay bl=>?_) (fun dQ d8=>?_)
   .have key:∃ a:Int,v=.int a/\z=.str (num a)/\0 <= a/\a < 100:=by
     match j,aK,ay with
     | 0,aK,ay=>cases aK;cases ay;exact ⟨_,rfl,rfl,dr.1,by omega⟩
     | 1,aK,ay=>cases aK;cases ay;exact ⟨_,rfl,rfl,dX.1,by omega⟩
     | 2,aK,ay=>cases aK;cases ay;exact ⟨_,rfl,rfl,PR.1,by omega⟩
     | 3,aK,ay=>cases aK;cases ay;exact ⟨_,rfl,rfl,Qw.1,by omega⟩
     | 4,aK,ay=>cases aK;cases ay;exact ⟨_,rfl,rfl,by omega,by omega⟩
     | k + 5,aK,ay=>simp at aK
    obtain ⟨a,rfl,rfl,Gd,aiR⟩:=key;nofun;exact ⟨Sub.name,Iy (by omega),bl⟩
   .have s2:aF H1 (upd (upd H1 p (.tup [.int ds[i].start,.int ds[i].fin,.int ds[i].off,.int ds[i].near,.int ds[i].least])) dQ (.lst (ba [num ds[i].start,num ds[i].fin,num ds[i].off,num ds[i].near,num ds[i].least]))):=(bN aw).trans (bN d8);have aD:(upd (upd H1 p (.tup [.int ds[i].start,.int ds[i].fin,.int ds[i].off,.int ds[i].near,.int ds[i].least])) dQ (.lst (ba [num ds[i].start,num ds[i].fin,num ds[i].off,num ds[i].near,num ds[i].least]))) dQ=some (.lst (ba [num ds[i].start,num ds[i].fin,num ds[i].off,num ds[i].near,num ds[i].least])):=aR;generalize upd (upd H1 p (.tup [.int ds[i].start,.int ds[i].fin,.int ds[i].off,.int ds[i].near,.int ds[i].least])) dQ (.lst (ba [num ds[i].start,num ds[i].fin,num ds[i].off,num ds[i].near,num ds[i].least]))=az at s2 aD ⊢;refine ⟨_,rfl,_,s2 _ _ Lq,_,aD,rQ _ (show 2 + 5 <= 1000 by decide),fun l_ nG=>?_⟩;have Lb:(upd az l_ (.lst ([V.str (dK ds[i].k),V.str ds[i].name] ++ ba [num ds[i].start,num ds[i].fin,num ds[i].off,num ds[i].near,num ds[i].least]))) cJ=some (.lst (ba ((f3 n (ds.take i)).map (b3 bw)))):=by
     rw [aW (cV (s2 _ _ lJ) nG)];exact s2 _ _ lJ
    refine ⟨ki ds[i],aH.of aR,?_,_,Lb,?_,?_,?_,_,rfl⟩
    .rw [r9];simp only [ki,dP,hE,vd,aa2,fp,AN];omega
    .rw [iJ,a8];exact iD (show (f3 n (ds.take i)).length <= 13 by unfold f3;rw [fp,a8,fq];omega) (by decide)
    .exact fun b u e=>by rw [aW (cV e Nt)];exact (bN nG) _ _ (s2 _ _ (hQ _ _ e))
    .rw [aR,show iA (aa " ") (ki ds[i])=b3 bw (ki ds[i]) from ta _ _];congr 2;unfold f3 ba;simp;rw [q5,dS,hd];rfl
  .rintro σ I bh;ac_rfl
   obtain ⟨bf,aj,x,rfl⟩:=bh;subst a7;nofun;rw [a8,eu,o3] at aj;refine ⟨_,aH.of aj,?_,?_⟩
   .have fQ:∀ y ∈ (f3 n ds).map (b3 bw),y.length <= 63:=I3 cX;have aiK:((f3 n ds).map (b3 bw)).length <= 13:=by
     unfold f3;rw [a8,fp,a8];omega
    have:=Ke fQ;rw [show (aa "\n").length=1 by ac_nf];omega
   .have:=q I bf;unfold e4 at this;rw [show iA (aa "\n") ((f3 n ds).map (b3 bw))=b3 nl ((f3 n ds).map (b3 bw)) from ta _ _];exact this
 .obtain ⟨n,wl,ds,ag,ar,bc,cb,ej,a5,q⟩:=h;exact ⟨a5,n,wl,ds,ag,ar,bc,cb,ej,fun I bf=>⟨bf,q⟩⟩
section
variable {w:World} {K:a'} {ai:Str->Option Value} {t:bt} {H:ah} {a c av p lm un:Addr} {z:Int}
theorem BI (T:Txt w K ai t) (e:H a=some (.ins t.eE av (lj c z p lm un))):hB K H a (aa "crossing") (.ref c):=⟨_,av,_,e,T.ny,T.JS,jQ tM 0 (y5 ..) (by ac_nf) rfl⟩
theorem P' (T:Txt w K ai t) (e:H a=some (.ins t.eE av (lj c z p lm un))):hB K H a (aa "size") (.int z):=⟨_,av,_,e,T.ny,T.Is,jQ tM 1 (y5 ..) (by ac_nf) rfl⟩
end
theorem my.get {H:ah} {p:Addr} {ds:List aG} {f:aG->dY} (h:my H p ds f ds.length) (aA:(ds.map (·.name)).Nodup) {i:Nat} {d:aG} (hd:ds[i]? = some d):∃ r,Ev H p (.str d.name) (some (.ref r))/\H r=some (f d):=by
 obtain ⟨rs,aB,aw,al⟩:=h;have ak:i < rs.length:=by rw [aB];exact (cW.mp hd).1
 have aj:rs[i]? = some rs[i]:=cv ak;refine ⟨rs[i],?_,al i _ d aj hd⟩;have:=Ev.k (k:=du d.name) aw;rw [Gu aA hd aj] at this;exact this
noncomputable def gP (z:Nat) (sp:List bK) (d:aG) (turn:Int):Str:=((ob z sp d)[(turn % (z:Int)).toNat]?).getD (aa "")
noncomputable def afc (t:bt):bF:=fun vs H Q _=>∃ (pl c:Addr) (n:Int) (ds:List aG) (z:Nat) (sp:List bK) (i:Nat) (d:aG) (turn:Int),vs=[.ref pl,.str d.name,.int turn]/\fH t H pl c n ds z sp/\0 < z/\ds[i]? = some d/\Q (.str (gP z sp d turn)) H
noncomputable def US (t:bt):bF:=fun vs H Q _=>∃ (pl c:Addr) (n:Int) (ds:List aG) (z:Nat) (sp:List bK) (i:Nat) (d:aG) (m:Int),vs=[.ref pl,.str d.name]/\fH t H pl c n ds z sp/\z <= 1000/\ds[i]? = some d/\(m ∈ ee z sp d.name/\∀ k ∈ ee z sp d.name,k <= m)/\∀ p,H p=none->Q (.ref p) (upd H p (.tup [.int m,.int ((ee z sp d.name).idxOf m:Nat)]))
theorem wR {z:Nat} {sp:List bK} {x:Str}:(ee z sp x).length=z:=by
 unfold ee;rw [xR,oF]
theorem TJ:bT P base T 3 t.wD t.Bf kS (afc t):=by
 refine bA (oe T) fun ik=>?_;exists T.BW.ok Wu,9
 obtain ⟨pl,c,n,ds,z,sp,i,d,turn,rfl,ck,ay,hd,q⟩:=h;obtain ⟨av,p,lm,un,d1,C,_,Xv,_⟩:=ck.at_;obtain ⟨⟨gW,_⟩,sm,wl,aA,ax,_,_⟩:=id C;have bE:=No aj;refine ⟨_,(aE (d_ (dd (c0 (U 0) rfl) T.gg T.Gc ik aj T.mz .nil b0 (ab (U 1) au)))
   (aU (bL (cx dm (lX bE (c0 (U 0) rfl) (U 1) (fun _ _=>rfl)) (Db gz (U 2) (c0 (U 0) rfl)))))),?_⟩
 nofun;refine ⟨_,BI T d1,_,rfl,_,_,ax,hY _ _ _ (by ac_nf),c,n,ds,i,d,rfl,C,hd,fun a W=>?_⟩;obtain ⟨r,a9,p9⟩:=Xv.get gW hd;have h0:=gQ turn (show (z:Int) ≠ 0 by omega);have ag:=h1 turn (show (0:Int) < z by omega);have hlen:(ob z sp d).length=z:=sV _ _ _ _;have bb:(turn % (z:Int)).toNat < (ob z sp d).length:=by rw [hlen];omega
 nofun;refine ⟨_,Pw T d1,_,rfl,_,a9,_,P' T d1,_,rfl,by omega,_,rfl,_,aH.of p9,.str (gP z sp d turn),?_,q⟩;have e:=dh (xs:=ba (ob z sp d)) (j:=(turn % (z:Int)).toNat) (v:=.str (gP z sp d turn)) (by unfold ba gP;rw [dS,cv bb];rfl);rwa [l4 h0] at e
theorem KP:bT P base T 3 t.uq t.x' sv (US t):=by
 refine bA (oe T) fun ik=>?_;exists T.yi.ok Kd,9
 obtain ⟨pl,c,n,ds,z,sp,i,d,m,rfl,ck,ay,hd,hm,q⟩:=h;obtain ⟨av,p,lm,un,d1,C,_,_,DC⟩:=ck.at_;obtain ⟨⟨gW,_⟩,sm,wl,aA,ax,_,_⟩:=id C;have bE:=No aj;refine ⟨_,(aE (d_ (dd (c0 (U 0) rfl) T.gg T.Gc ik aj T.mz .nil b0 (ab (U 1) au)))
   (aE (bI (i:=2) Kd.aA (hZ (acx rfl) rfl T.N2 Qh (ab (lX bE (c0 (U 0) rfl) (U 1) (fun _ _=>rfl)) au)))
   (aU (bL (ox (ab (U 2) (ab (ff l5 Y6 PySem.F.type_list_index WJ (lX bE (c0 (U 0) rfl) (U 1) (fun _ _=>rfl)) (ab (U 2) au)) au))))))),?_⟩
 nofun;refine ⟨_,BI T d1,_,rfl,_,_,ax,hY _ _ _ (by ac_nf),c,n,ds,i,d,rfl,C,hd,fun a W=>?_⟩;obtain ⟨r,a9,p9⟩:=DC.get gW hd;nofun;exact ⟨_,AW T d1,_,rfl,_,a9,_,rfl,_,aH.of p9,m,hm.1,hm.2,_,AW T d1,_,rfl,_,a9,.inl ⟨_,aH.of p9⟩,_,rfl,_,aH.of p9,hm.1,by rw [wR];exact ay,by decide,q⟩
theorem my.same {H I:ah} {p:Addr} {ds:List aG} {f:aG->dY} {n:Nat} (h:my H p ds f n) (s:aF H I):my I p ds f n:=by
 obtain ⟨rs,aB,aw,al⟩:=h;exact ⟨rs,aB,s _ _ aw,fun i r d ag ar=>s _ _ (al i r d ag ar)⟩
theorem fH.same {t:bt} {H I:ah} {a c:Addr} {n:Int} {ds:List aG} {z:Nat} {sp:List bK} (h:fH t H a c n ds z sp) (s:aF H I):fH t I a c n ds z sp:=by
 obtain ⟨av,p,lm,un,e,C,L,p6,xY⟩:=h.at_;exact ⟨av,p,lm,un,s _ _ e,C.same s,L.same s,p6.same s,xY.same s⟩
noncomputable def abL (t:bt):bF:=fun vs H Q _=>∃ (pl c:Addr) (n:Int) (ds:List aG) (z:Nat) (sp:List bK) (d:aG) (turn v:Int),vs=[.ref pl,.str d.name,.int turn]/\fH t H pl c n ds z sp/\0 < z/\d ∈ ds/\(ee z sp d.name)[(turn % (z:Int)).toNat]? = some v/\Q (.int (turn + v)) H
theorem OL:bT P base T 3 t.ue t.xA kS (abL t):=by
 refine bA (oe T) fun ik=>?_;exists T.yx.ok TN,9
 obtain ⟨pl,c,n,ds,z,sp,d,turn,v,rfl,ck,ay,hd,aK,q⟩:=h;obtain ⟨av,p,lm,un,d1,C,_,_,DC⟩:=ck.at_;obtain ⟨⟨gW,_⟩,sm,wl,aA,ax,_,_⟩:=id C;obtain ⟨i,ak⟩:=iX hd;have bE:=No aj;refine ⟨_,(aE (d_ (dd (c0 (U 0) rfl) T.gg T.Gc ik aj T.mz .nil b0 (ab (U 1) au)))
   (aU (bL (Db cO (U 2) (cx dm (lX bE (c0 (U 0) rfl) (U 1) (fun _ _=>rfl)) (Db gz (U 2) (c0 (U 0) rfl))))))),?_⟩
 nofun;refine ⟨_,BI T d1,_,rfl,_,_,ax,hY _ _ _ (by ac_nf),c,n,ds,i,d,rfl,C,ak,fun a W=>?_⟩;obtain ⟨r,a9,p9⟩:=DC.get gW ak;have h0:=gQ turn (show (z:Int) ≠ 0 by omega);nofun;refine ⟨_,AW T d1,_,rfl,_,a9,_,P' T d1,_,rfl,by omega,_,rfl,_,aH.of p9,.int v,?_,_,rfl,q⟩;have e:=dh (xs:=(ee z sp d.name).map V.int) (j:=(turn % (z:Int)).toNat) (v:=.int v) (by rw [dS,aK];rfl);rwa [l4 h0] at e
unseal L2.ck L2.bD L2.gS L2.ij L2.hN L2.gy
section
open PySem.Spec PyProof.Rows
theorem Ox {prog:Program} {w:World}:∀ {aL:List DictEntry} {bC:List Str},bS (bC.map V.str) (aL.map (·.key))->Pairs (strKind prog w) aL (bC.zip (aL.map (·.val)))
 | [],[],_=>.nil
 | e :: aL,k :: bC,.cons r t=>by
  obtain ⟨cY,ax⟩:=(show ∃ t,e.key=tK k t from r);exact .cons (by show (strKind prog w).is k e.key=true;rw [ax];exact strKind_is prog w k cY) rfl (Ox t)
theorem VB {bC:List Str} {aL:List DictEntry} (h:bS (bC.map V.str) (aL.map (·.key))):bC.length=aL.length:=by
 have:=h.length;rwa [a8,a8] at this
section
variable {X:a6}
theorem adL {a:Addr} {bC:List Str} (aq:X.calm=true) (D:yr X.w X.K a bC) (aA:bC.Nodup) (ay:bC.length <= 100):mw X (.type "list") (fun xs H Q=>xs=[.ref a]/\∀ l,H l=none->Q (.ref l) (upd H l (.lst (ba bC)))):=by
 intro ae s σ H xs us Q J r h;obtain ⟨rfl,q⟩:=h;obtain ⟨u,rfl,dU⟩:=ks r;cases dU;obtain ⟨aL,n,aC,aB,aI,aK⟩:=D;have hlen:=VB aK;have Pr:(bC.zip (aL.toList.map (·.val))).length=bC.length:=by rw [E9,a8];omega
 have Py:(bC.zip (aL.toList.map (·.val))).map (·.1)=bC:=by rw [List.map_fst_zip (by rw [a8];omega)]
 have a3:s.heap.DictAt (strKind X.prog X.w) a (bC.zip (aL.toList.map (·.val))) n:=by
  refine ⟨_,aL,J.gU _ _ aB,⟨rfl,rfl,rfl⟩,rfl,fun e he=>?_,Ox aK,by rw [Py];exact aA⟩;obtain ⟨x,t,ax,aD⟩:=aI.all e (Ws.mpr he);exact ⟨x,by rw [ax];exact strKind_is X.prog X.w x t,aD⟩
 refine PySem.W.kdl_call (PySem.W.kdl_dict (knd:=strKind X.prog X.w) aC) (J.ok.hd aq) a3 (by rw [Pr];exact cp ay (by decide)) fun h' cY acc c jw fi nc=>?_
 refine ⟨.ref _,_,J.laid (o:=.lst (ba bC)) (t':=cY) jw (bW _) ⟨by unfold ba;rw [a8];exact cp ay (by decide),acc.toList,c,?_,fi⟩,rfl,q _ (J.bz.fresh (bW _))⟩;have Nq:=NR (f:=fun i=>V.str (bC.getD i (aa ""))) (fun i v aK=>by
  obtain ⟨k,x,ax,aD⟩:=aK;have cu:bC[i]? = some k:=by
   have:=congrArg (Option.map (·.1)) ax;rw [<- dS,Py] at this;exact this
  show bx (V.str (bC.getD i (aa ""))) v;rw [iF,cu];exact Sb aD) nc
 have vz:(dG (bC.zip (aL.toList.map (·.val))).length).map (fun i=>V.str (bC.getD i (aa "")))=ba bC:=by
  rw [Pr];unfold ba;refine r3 (by simp) fun i ag ar=>?_
  rw [vQ,aeS,vQ,iF,cv (by simpa using ar)];rfl
 rw [vz] at Nq;exact Nq
noncomputable def vb (z y:Str):List V:=match lb z y 0 z.length 1 with | i :: _=>[.str (pv z 0 i),.str y,.str (pv z (i + y.length) z.length)] | []=>[.str z,.str lp,.str lp]
noncomputable def ac_:V->List V->ah->cm->Prop:=fun x vs H Q=>∃ z y,x=.str z/\vs=[.str y]/\(y.length == 0)=false/\z.length <= sizeLine/\∀ p,H p=none->Q (.ref p) (upd H p (.tup (vb z y)))
theorem T8:n5 X "str.partition" ac_:=by
 intro ae s σ H x xs v us Q J bp b8 h;obtain ⟨z,y,rfl,rfl,bj,ay,q⟩:=h;obtain ⟨t,rfl⟩:=bp;obtain ⟨u,rfl,dU⟩:=ks b8;obtain ⟨qT,rfl⟩:=dU;refine call_meets X9 (typeIs_str _ _ _) PySem.F.entry_str_partition (PySem.F.args_str_partition_2 _ _) (meets_str_partition z y t qT bj ay) ?_;unfold vb at q
 revert q
 cases lb z y 0 z.length 1 with
 | nil=>
  intro q;exact ⟨.ref s.heap.objs.size,_,J.laid (t':=s.toks + 1) (o:=.tup [.str z,.str lp,.str lp]) (fun b b6 q=>er _ q) (bW _) ⟨⟨by show 3 <= sizeLine;decide,_,e6 _ rfl,rfl⟩,[.str z t,.str lp s.toks,.str lp s.toks],.cons ⟨_,rfl⟩ (.cons ⟨_,rfl⟩ (.cons ⟨_,rfl⟩ .nil)),⟨_,e6 _ rfl,rfl,_,rfl⟩⟩,rfl,q _ (J.bz.fresh (bW _))⟩
 | cons i r=>
  intro q;exact ⟨.ref s.heap.objs.size,_,J.laid (t':=s.toks + 1 + 1) (o:=.tup [.str (pv z 0 i),.str y,.str (pv z (i + y.length) z.length)]) (fun b b6 q=>er _ q) (bW _) ⟨⟨by show 3 <= sizeLine;decide,_,e6 _ rfl,rfl⟩,[.str (pv z 0 i) s.toks,.str y qT,.str (pv z (i + y.length) z.length) (s.toks + 1)],.cons ⟨_,rfl⟩ (.cons ⟨_,rfl⟩ (.cons ⟨_,rfl⟩ .nil)),⟨_,e6 _ rfl,rfl,_,rfl⟩⟩,rfl,q _ (J.bz.fresh (bW _))⟩
end
end
theorem acM {X:a6} {body:List Stmt} {h0:ExceptHandler} {aC:List ExceptHandler} {cB:en} {pos:Pos} (ao:X.dj=fun _ _=>False) (af:ij X body cB):gS X (.Try body (h0 :: aC) [] [] pos) cB:=by
 intro ae s σ H D J h;refine wpAny_Try_except (wpAny_mono (af ae s σ H D J h) (fun f s1 q=>?_) fun e s1 q=>?_)
 .cases f with
  | next=>exact wpAny_execs_nil q
  | brk=>exact q
  | cont=>exact q
  | ret u=>exact q
 .rw [ao] at q;exact q.elim
section
open PySem.Spec PyProof.Rows
noncomputable def Itm (d:Addr) (o:Obj) (kvs:List (Key × V)):hU:=
 ⟨fun i H=>H d=some (.eb o (.bV kvs))/\i < kvs.length,fun i H v I=>∃ p k x,H p=none/\v=.ref p/\kvs[i]? = some (k,x)/\I=upd H p (.tup [dM k,x]),fun i H=>H d=some (.eb o (.bV kvs))/\kvs.length <= i⟩
theorem aaB {kvs:List (Key × V)} {vs:List (Key × Value)} (r:fx kvs vs) {i:Nat} {k:Key} {x:V} (h:kvs[i]? = some (k,x)):∃ u,vs[i]? = some (k,u)/\bx x u:=by
 induction r generalizing i with
 | nil=>simp at h
 | cons aw _ b2=>
  cases i with
  | zero=>
   cases h;exact ⟨_,congrArg some (Prod.ext aw.1.symm rfl),aw.2⟩
  | succ i=>exact b2 h
theorem ae0 {P:Program} {w:World} {K:a'} {aL:List Expr} {kh} {pos:Pos} {d it:Addr} {o:Obj} {cC:Nat} {kvs:List (Key × V)} {vs:List (Key × Value)} (dW:d ≠ it) (rel:fx kvs vs)
  (a3:∀ h:Heap,h.get? d=some o->h.DictAt (hy P w) d vs cC):lW P w K (.Tuple aL kh pos) (Itm d o kvs) [it] it (fun i h=>∃ ok dz,IsItemIter h it d i vs.length cC ok dz) where
 mem:=by simp
 obj:=fun i h ⟨ok,dz,he⟩ b af=>by
  have e:b=it:=by simpa using af
  subst e;exact ⟨_,he,fun v z=>by
   have ey:G6 _=D2 v:=z;cases ey⟩
 keep:=fun i h h' ⟨ok,dz,he⟩ k=>⟨ok,dz,k it (by simp) _ he⟩
 item:=by
  intro X di hw d9 aq i ae s σ H E J hf ⟨ok,dz,he⟩ a9;subst di hw d9;obtain ⟨a4,ao⟩:=a9;have rj:s.heap.get? d=some o:=(J.bz d _ a4).1;obtain ⟨⟨k,x⟩,Qd⟩:∃ q,kvs[i]? = some q:=⟨_,cv ao⟩;obtain ⟨u,bE,dU⟩:=aaB rel Qd;refine wpAny_pyNext_items_item he (a3 _ rj) bE fun key ag DX xj B9 iK EM=>⟨_,rfl,?_⟩
  refine wpAny_letOwnedTupleGo_items xj fun ar CK gc=>?_
  replace gc:sG it ag ar:=gc;have w0:it < s.heap.objs.size:=dt he;have aI:∀ b o,b ∉ [it]->s.heap.get? b=some o->ar.get? b=some o:=fun b o af q=>by
   have fv:b ≠ it:=fun z=>af (by simp [z])
   exact gc.extBut _ _ fv (EM b o fv q)
  have aY:Inv X ae σ H { s with heap:=ar,toks:=s.toks }:=J.y4 aI hf;have f_:h_ X ae H s.heap.objs.size:=J.kD (bW _) (J.bz.fresh (bW _));have wh:ar.get? s.heap.objs.size=some { cls:=.type "tuple",data:=.seq #[key,u] }:=(gc.2 _ (NT w0)).trans B9;have bX:=aY.adopt (o:=.tup [dM k,x]) f_ ⟨⟨by show 2 <= sizeLine;decide,_,wh,rfl⟩,[key,u],.cons (KX DX) (.cons dU .nil),⟨_,wh,rfl,_,rfl⟩⟩;refine ⟨.ref s.heap.objs.size,_,bX,rfl,⟨_,k,x,f_.1,rfl,Qd,rfl⟩,⟨_,_,CK⟩,fun b af=>?_⟩;have e:b=it:=by simpa using af
  subst e;rw [aW (e9 w0)];exact (hf b af).1
 done:=by
  intro X di hw d9 aq i ae s σ H E J hf ⟨ok,dz,he⟩ a9;subst di hw d9;obtain ⟨a4,ao⟩:=a9;have rj:s.heap.get? d=some o:=(J.bz d _ a4).1;exact wpAny_pyNext_items_end (J.ok.hd aq) he (a3 _ rj) (by rw [aeX];rw [<- rel.length];exact ao) fun h' e8=>⟨rfl,J.y4 (t':=s.toks) (fun b o af q=>e8 b o (fun z=>af (by simp [z])) q) hf⟩
 self:=fun _ _ _ _ _ ⟨_,_,he⟩ h=>PySem.W.kcp_self he h
noncomputable def IV (c9:TE):TI:=fun σ H R=>c9 σ H fun x H1=>∃ p d kvs,x=.ref p/\H1 p=some (.ext (lx p d))/\H1 d=some (.bV kvs)/\∀ o,R (Itm d o kvs) (upd H1 d (.eb o (.bV kvs)))
theorem aem {X:a6} {aL:List Expr} {kh} {rO:Pos} {l:Expr} {c9:TE} (aB:bD X l c9):k4 X (.Tuple aL kh rO) l (IV c9):=by
 intro ae s σ H R J h;refine bM (aB ae s σ H _ J h) fun v s1 ⟨x,H1,aY,bO,bQ⟩=>?_
 obtain ⟨p,d,kvs,e,cC,qE,q⟩:=bQ;subst e;cases bO;obtain ⟨_,hd,vs,rel,eS⟩:=z4 aY.bz qE;obtain ⟨aia,dat⟩:=eS.dictAt;obtain ⟨o,tW,g,jL⟩:=id dat;have bX:=L6 aY qE g;have aK:s1.heap.IsItemsView p d:=(aY.bz p _ cC).1;refine wpAny_pyIter_items aK dat ?_;refine ⟨s1.heap.objs.size,[s1.heap.objs.size],_,_,_,rfl,bX.kept (t':=s1.toks) fun b o e=>er _ e,ae0 (e9 (dt g)) rel (fun h e=>⟨o,tW,e,jL⟩),⟨_,_,e6 _ rfl⟩,fun b af=>?_,q o⟩;have e:b=s1.heap.objs.size:=by simpa using af
 subst e;exact bX.kD (bW _) (bX.bz.fresh (bW _))
end
seal L2.ck L2.bD L2.gS L2.ij L2.hN L2.gy
theorem Ll:∀ d,d < 10->hD (H8 d).toNat=true/\((H8 d).toNat=48->d=0):=by ac_nf
theorem ach (n:Nat):((lH 10 n).map mh).all hD=true/\1 <= ((lH 10 n).map mh).length/\(n=0\/((lH 10 n).map mh).headD 0 ≠ 48):=by
 induction n using Nat.strongRecOn with
 | _ n b2=>
  by_cases h:n < 10
  .rw [Nat.toDigits_of_lt_base h];have z:=Ll n h;refine ⟨?_,bW _,?_⟩
   .show ((hD (H8 n).toNat) && true)=true;rw [z.1];rfl
   .by_cases h0:n=0
    .exact .inl h0
    .exact .inr fun e=>h0 (z.2 e)
  .rw [Nat.toDigits_of_base_le (by decide) (by omega),eQ];obtain ⟨a,b,c⟩:=b2 (n / 10) (by omega);have z:=Ll (n % 10) (by omega);refine ⟨?_,?_,?_⟩
   .rw [List.all_append,a];show (true && ((hD (H8 (n % 10)).toNat) && true))=true;rw [z.1];rfl
   .rw [eV];omega
   .refine .inr fun e=>?_
    have ho:=c.resolve_left (by omega);cases aB:(lH 10 (n / 10)).map mh with
    | nil=>rw [aB] at b;exact absurd b (by decide)
    | cons x r=>
     rw [aB] at ho e;exact ho e
noncomputable def ro (m:Nat) (x:Str):Prop:=(1 <= (cs x).length/\(cs x).length <= m)/\(cs x).all hD=true/\((cs x).length <= 1\/(cs x).headD 0 ≠ 48)
theorem C4 {v:Int} {m:Nat} (hm:1 <= m) (h0:0 <= v) (ag:v < 10 ^ m):ro m (num v)/\val (num v)=v:=by
 obtain ⟨n,rfl⟩:∃ n:Nat,v=n:=⟨v.toNat,by omega⟩;have e:cs (num (n:Int))=(lH 10 n).map mh:=MV n;have a0:n < 10 ^ m:=by exact_mod_cast ag
 obtain ⟨a,b,c⟩:=ach n;have d:=agC hm a0;constructor
 .unfold ro;rw [e];refine ⟨⟨b,by rw [a8];exact d⟩,a,?_⟩;rcases c with rfl | c
  .exact .inl (by decide)
  .exact .inr c
 .show ((Fb (cs (num (n:Int))):Nat):Int)=n;rw [e,PySem.W.KIN.val_back]
theorem U_ {v:Int} (h0:0 <= v) (ag:v < 10 ^ 59):∀ c ∈ (num v).cps.toList,48 <= c/\c <= 57:=fun c aq=>by
 have:=o1.mp (C4 (by decide) h0 ag).1.2.1 c aq;simpa [hD] using this
noncomputable def IY:bF:=fun vs H Q _=>∃ x,vs=[.str x,.int 59]/\ro 59 x/\aM H/\Q (.bk true) H
noncomputable def UN:bF:=fun vs H Q _=>∃ x,vs=[.str x]/\ro 59 x/\aM H/\Q (.int (val x)) H
theorem Z3:bT P base T 2 t.rV t.w7 tq IY:=by
 refine bA (DF T) fun vh=>?_;exists T.vU.ok JU,9
 obtain ⟨x,rfl,hw,a5,q⟩:=h;have aB:=ls x;obtain ⟨⟨ag,ar⟩,bc,cb⟩:=hw;have ia:x.length <= sizeLine:=cp (show x.length <= 59 by omega) (by decide);have ZH:made x m4 59=true:=by
  unfold made;rw [if_neg (fun z=>by have:=tO.mp z;omega),if_neg (by omega),show (p1 m4)=hD from funext P7];exact bc
 refine ⟨_,(aE (cI (ou (nj (bq vh aj T.C2 T.u4.bg T.CY (ab (U 0) (ab (hJ rfl T.QM T.Mt) (ab (U 1) au)))))) (aU (bL jp)) cM)
   (aU (bL (E6 (hb dE (U 0) bG (cc _)) (xl (hb jj (cx vK (U 0) aJ) bG (cc _))))))),?_⟩
 refine cG false (fun Q aN=>?_) (fun aq=>nomatch aq) (fun _=>?_)
 ·(nofun; repeat (dsimp only [zM];nofun));refine ⟨by omega,a5,?_⟩;rw [ZH];exact aN
 .rw [eH];dsimp only;refine JZ (.bk true) (fun Q aN=>?_) ?_
  case refine_2=>exact q
  nofun;obtain ⟨c,r,nX⟩:∃ c r,cs x=c :: r:=by
   cases h:cs x with
   | nil=>rw [h] at ag;exact absurd ag (by decide)
   | cons c r=>exact ⟨c,r,rfl⟩
  by_cases dT:x=aa "0"
  .rw [if_pos (decide_eq_true dT)];exact aN
  .rw [if_neg (by simpa using dT)];refine ⟨ia,c,dh (xs:=cs x) (j:=0) (v:=c) (by rw [nX];rfl),?_⟩;have afs:¬ c=48:=by
    rcases cb with cb | cb
    .intro jI;have aj:r=[]:=by
      rw [nX] at cb;cases r with
      | nil=>rfl
      | cons d r=>simp at cb
     exact dT (by rw [vy];exact xG.mpr (by rw [nX,aj,jI]))
    .rw [nX] at cb;exact cb
   rw [adR,decide_eq_false afs];exact aN
theorem SR:bT P base T 3 t.w2 t.yw ["word"] UN:=by
 refine bA (Z3 T) fun ET=>?_;exists T.Fd.ok X7,9
 obtain ⟨x,rfl,hw,a5,q⟩:=h;have aB:=ls x;have IC:intText? x=some (val x):=intText_digits (N9 hw.2.1) (fun z=>by have ey:cs x=[]:=z;have:=hw.1.1;rw [ey] at this;exact absurd this (by decide)) (by have:=hw.1.2;omega);refine ⟨_,(aE (cI (ou (nj (bq ET aj T.Ma T.vU.bg T.Ol (ab (U 0) (ab (hJ rfl T.pp T.afB) au))))) (aU (bL wV)) cM)
   (aU (bL (ie LK rfl T.KQ L4 (ab (U 0) au))))),?_⟩
 refine cG false (fun Q aN=>?_) (fun aq=>nomatch aq) (fun _=>?_)
 ·(nofun; repeat (dsimp only [IY];nofun));exact ⟨hw,a5,aN⟩
 .nofun;refine ⟨val x,IC,by have:=hw.1.2;omega,q⟩
noncomputable def o8 (part x:Str) (v:V):Prop:=
 (part=aa "name" /\ made x dO 8=true/\v=.str x)\/(part=aa "turn" /\ ro 59 x/\v=.int (val x))\/(part=aa "many" /\ ∃ n,k_ x 1 200=.int n/\v=.int n)
noncomputable def S_ (t:bt):bF:=fun vs H Q _=>∃ p row ws pl x,vs=[.ref p]/\b9 t H p row ws pl/\ws[pl]? = some x/\made x dO 8=true/\aM H/\sD t H p row ws (pl + 1) (Q (.str x))
noncomputable def XR (t:bt):bF:=fun vs H Q _=>∃ p row ws pl x,vs=[.ref p]/\b9 t H p row ws pl/\ws[pl]? = some x/\ro 59 x/\aM H/\sD t H p row ws (pl + 1) (Q (.int (val x)))
noncomputable def Lp (t:bt):bF:=fun vs H Q _=>∃ p part row ws pl x v,vs=[.ref p,.str part]/\b9 t H p row ws pl/\ws[pl]? = some x/\o8 part x v/\aM H/\sD t H p row ws (pl + 1) (Q v)
theorem RT:bT P base T 3 t.u' t.yO ["reader"] (S_ t):=by
 refine bA (sA T) fun k0=>bA (wv T) fun nE=>bA (OT T) fun Cc=>?_;exists T.HA.ok Kr,9
 obtain ⟨p,row,ws,pl,x,rfl,R,ao,hm,a5,q⟩:=h;refine ⟨_,(aE (bI (i:=1) Kr.aA (hG (U 0) T.dJ T.ce k0 aj T.qK .nil b0))
   (aE (d_ (dd (U 0) T.dJ T.lf nE aj T.vu .nil b0 (ab (bq Cc aj T.M9 T.zq.bg T.Nm (ab (U 1) au)) au)))
   (aU (bL (U 1))))),?_⟩
 have cL:pl < ws.length:=(cW.mp ao).1;have a9:ws.getD pl (aa "")=x:=by rw [iF,ao];rfl
 obtain ⟨ay,av,aZ,ax,aD⟩:=id R;nofun;refine ⟨_,_,ax,b9.no _ _ _ (by ac_nf),⟨p,row,ws,pl,rfl,R,by omega,?_⟩⟩;rw [a9];nofun;refine ⟨_,_,ax,b9.no _ _ _ (by ac_nf),x,rfl,ay.2 x (c6 ao),a5,?_⟩;rw [hm];refine ⟨p,row,ws,pl,rfl,R,fun I s1 s2 s3=>?_⟩;nofun;exact q I s1 s2 s3
theorem Sq:bT P base T 4 t.wg t.Bc ["reader"] (XR t):=by
 refine bA (sA T) fun k0=>bA (wv T) fun nE=>bA (SR T) fun RJ=>?_;exists T.DZ.ok ms,9
 obtain ⟨p,row,ws,pl,x,rfl,R,ao,hm,a5,q⟩:=h;refine ⟨_,(aE (bI (i:=1) ms.aA (bq RJ aj T.aaS T.Fd.bg T.Yb (ab (hG (U 0) T.dJ T.ce k0 aj T.qK .nil b0) au)))
   (aE (d_ (dd (U 0) T.dJ T.lf nE aj T.vu .nil b0 (ab (hb KS (U 1) wV (cc _)) au)))
   (aU (bL (U 1))))),?_⟩
 have cL:pl < ws.length:=(cW.mp ao).1;have a9:ws.getD pl (aa "")=x:=by rw [iF,ao];rfl
 obtain ⟨ay,av,aZ,ax,aD⟩:=id R;nofun;refine ⟨_,_,ax,b9.no _ _ _ (by ac_nf),⟨p,row,ws,pl,rfl,R,by omega,?_⟩⟩;rw [a9];nofun;refine ⟨x,rfl,hm,a5,?_⟩;nofun;refine ⟨_,_,ax,b9.no _ _ _ (by ac_nf),?_⟩;refine ⟨p,row,ws,pl,rfl,R,fun I s1 s2 s3=>?_⟩;nofun;exact q I s1 s2 s3
theorem Sa:bT P base T 5 t.rG t.uR xn (Lp t):=by
 refine bA (RT T) fun Y5=>bA (Sq T) fun R7=>bA (sy T) fun je=>?_;exists T.GA.ok aao,9
 obtain ⟨p,part,row,ws,pl,x,v,rfl,R,ao,hm,a5,q⟩:=h;refine ⟨_,(aE (cI (cy dE (U 1) bG (cc _)) (aU (bL (bq Y5 aj T.agq T.HA.bg T.WG (ab (U 0) au)))) cM)
   (aE (cI (cy dE (U 1) bG (cc _)) (aU iE) cM)
   (aE (cI (cy dE (U 1) bG (cc _)) (aU (bL (bq R7 aj T.U2 T.DZ.bg T.abW (ab (U 0) au)))) cM)
   (aE (cI (cy dE (U 1) bG (cc _)) (aU (bL (dd (U 0) T.dJ T.mf je aj T.mB .nil b0 (ab aJ (ab (hJ rfl T.S2 T.V9) au))))) cM)
   (aU iE))))),?_⟩
 rcases hm with ⟨rfl,hm,rfl⟩ | ⟨rfl,hm,rfl⟩ | ⟨rfl,n,hm,rfl⟩
 .refine cG true (fun Q aN=>?_) (fun _=>?_) (fun aq=>nomatch aq)
  .nofun;exact aN
  .nofun;exact ⟨p,row,ws,pl,x,rfl,R,ao,hm,a5,q⟩
 .refine cG false (fun Q aN=>?_) (fun aq=>nomatch aq) (fun _=>?_)
  .nofun;exact aN
  rw [eH];dsimp only;refine cG false (fun Q aN=>?_) (fun aq=>nomatch aq) (fun _=>?_)
  .nofun;exact aN
  rw [eH];dsimp only;refine cG true (fun Q aN=>?_) (fun _=>?_) (fun aq=>nomatch aq)
  .nofun;exact aN
  .nofun;exact ⟨p,row,ws,pl,x,rfl,R,ao,hm,a5,q⟩
 .refine cG false (fun Q aN=>?_) (fun aq=>nomatch aq) (fun _=>?_)
  .nofun;exact aN
  rw [eH];dsimp only;refine cG false (fun Q aN=>?_) (fun aq=>nomatch aq) (fun _=>?_)
  .nofun;exact aN
  rw [eH];dsimp only;refine cG false (fun Q aN=>?_) (fun aq=>nomatch aq) (fun _=>?_)
  .nofun;exact aN
  rw [eH];dsimp only;refine cG true (fun Q aN=>?_) (fun _=>?_) (fun aq=>nomatch aq)
  .nofun;exact aN
  .obtain ⟨ay,av,aZ,ax,aD⟩:=id R;nofun;exact ⟨_,_,ax,b9.no _ _ _ (by ac_nf),p,row,ws,pl,x,_,_,n,rfl,R,ao,hm,a5,q⟩
unseal L2.ck L2.bD L2.gS L2.ij L2.hN L2.gy
noncomputable def mC (ps ws:List Str) (zs:List V):Prop:=ws.length=ps.length/\zs.length=ps.length/\∀ (i:Nat) (a y:Str) (v:V),ps[i]? = some a->ws[i]? = some y->zs[i]? = some v->o8 a y v
noncomputable def h6:List (Str × List Str):=[(aa "crossing",[aa "name"]),(aa "plan",[aa "name",aa "name"]),(aa "colours",[aa "name",aa "turn"]),(aa "wait",[aa "name",aa "name",aa "turn"]),(aa "longest",[aa "name",aa "name"]),(aa "draw",[aa "name",aa "turn",aa "many"])]
noncomputable def XP (t:bt):bF:=fun vs H Q _=>∃ x first ps ws zs,vs=[.str x]/\x.length <= 900/\ht x=[first :: ws]/\(first,ps) ∈ h6/\mC ps ws zs/\aM H/\∀ p l I,aF H I->aM I->I p=some (.tup [.str first,.ref l])->I l=some (.lst zs)->H l=none->Q (.ref p) I
theorem abJ (T:Txt w K ai t) {first:Str} {ps:List Str} (h:(first,ps) ∈ h6):∃ a,(GD t).lookup first=some (.ref a)/\hn K a (ba ps)/\ps.length <= 3:=by
 unfold h6 at h;simp only [cP,GW,fw,or_false] at h;rcases h with ⟨rfl,rfl⟩ | ⟨rfl,rfl⟩ | ⟨rfl,rfl⟩ | ⟨rfl,rfl⟩ | ⟨rfl,rfl⟩ | ⟨rfl,rfl⟩
 .exact ⟨_,rfl,T.GE,by decide⟩
 .exact ⟨_,rfl,T.VD,by decide⟩
 .exact ⟨_,rfl,T.adn,by decide⟩
 .exact ⟨_,rfl,T.ZG,by decide⟩
 .exact ⟨_,rfl,T.SJ,by decide⟩
 .exact ⟨_,rfl,T.SH,by decide⟩
theorem XE {first:Str} {ps:List Str} (h:(first,ps) ∈ h6):first ∈ [aa "crossing",aa "plan",aa "stages",aa "colours",aa "wait",aa "longest",aa "draw",aa "turn",aa "worst",aa "shortest"]:=by
 unfold h6 at h;simp only [cP,GW,fw,or_false] at h;simp only [cP,fw,or_false];rcases h with ⟨rfl,rfl⟩ | ⟨rfl,rfl⟩ | ⟨rfl,rfl⟩ | ⟨rfl,rfl⟩ | ⟨rfl,rfl⟩ | ⟨rfl,rfl⟩ <;> simp
theorem Vt:bT P base T 6 t.uz t.Aq ["told"] (XP t):=by
 have DJ:cg P w K ai base c7 5 t.qA t.sQ ["text"] C7:=(I2 T).mono (by decide);have F':cg P w K ai base c7 4 t.ad t.re rN (Fy t):=(dL T).mono (by decide);have l':cg P w K ai base c7 5 t.qI t.vn yo (Jm K t):=(uZ T).mono (by decide);have nr:cg P w K ai base c7 5 t.qy t.wq ["self"] (OV t):=(uH T).mono (by decide);have W_:cg P w K ai base c7 5 t.rG t.uR xn (Lp t):=Sa T;exists T.Dz.ok zQ,9
 obtain ⟨x,first,ps,ws,zs,rfl,ao,jW,hf,⟨Li,ahS,lu⟩,a5,q⟩:=h;obtain ⟨ic,QR,Jz,V6⟩:=abJ T hf;refine ⟨_,(aE (rA (i:=1) zQ.aA rfl (nU rfl) (qJ T.Pa F' aj rfl T.LZ T.PL .nil b0 (ab aJ (ab (cx dm (bq DJ aj T.L9 T.Be.bg T.KG (ab (U 0) au)) aJ) au))))
   (aE (bI (i:=2) zQ.aA (dd (U 1) T.dJ T.sY l' aj T.sb .nil b0 (ab (ie (adL rfl T.aeW (by ac_nf) (by decide)) rfl T.A3 Ko (ab (hJ (v:=.ref t.pS) rfl T.Kx rfl) au)) au)))
   (aE (rM (i:=3) zQ.aA rfl (l3 rfl) rfl (Oh (Og rfl T.Kx T.Z4 (U 2) (fun _ _=>rfl))) (fU (sc:=br zV) rfl (by ac_nf)) (N:=["part","reader"]) (sel:=[none,some 1]) (gf (M:=["told","reader","first","parts"]) (by ac_nf)) (eZ.of (fun _ _ _ _=>(b1 (i:=0) (eC (N:=["part","reader"]) (by ac_nf) rfl))) (fun _ _ _ _=>⟨_,gX,by walk_at "B"⟩) (fun _ _ _ _=>⟨_,(bq W_ aj T.RE T.GA.bg T.SB (ab (U 1) (ab (U 0) au))),by walk_at "B"⟩)) rfl)
   (aE (d_ (hG (U 1) T.dJ T.xk nr aj T.uh .nil b0))
   (aU (bL (ox (ab (U 2) (ab (U 3) au))))))))),?_⟩
 nofun;refine ⟨x,rfl,by omega,a5,fun p H1 s1 cq ⟨qs,aw,pg,f9,d1,qS⟩=>?_⟩;rw [jW] at d1 qS;obtain ⟨aZ,rfl⟩:∃ aZ,qs=[aZ]:=by
  match qs,d1 with
  | [aZ],_=>exact ⟨aZ,rfl⟩
 obtain ⟨XU,ah1⟩:=qS 0 aZ _ rfl rfl;refine ⟨p,rfl,_,aH.of aw,_,rfl,fun dy av yq pJ dW=>?_⟩;refine ⟨dy,av,aZ,0,rfl,aR,?_⟩;rw [q3];generalize oK:upd (upd H1 av (.own dy)) dy (.ins t.dR av (jG 0 aZ 0))=az;have s2:aF H1 az:=by rw [<- oK];exact (bN pJ).gB yq
 have cQ:aM az:=by rw [<- oK];exact (cq.upd).upd
 have uT:∀ y ∈ first :: ws,y.length <= x.length + 2:=by
  intro y bj;have hm:(first :: ws) ∈ ht x:=by rw [jW];exact aaZ _
  obtain ⟨r,lJ,xv⟩:=dN.mp hm;rw [<- xv] at bj;have a:=EB (by rw [jJ];exact bW _) lJ;have b:=EB (by rw [hA];exact bW _) bj;omega
 have fV:b9 t az dy 0 (first :: ws) 0:=⟨⟨by rw [fp];omega,fun y bj=>cp (uT y bj) (by omega)⟩,av,aZ,by rw [<- oK];exact aR,s2 _ _ XU⟩;nofun;have vz:az dy=some (.ins t.dR av (jG 0 aZ 0)):=by rw [<- oK];exact aR
 refine ⟨_,_,vz,b9.no _ _ _ (by ac_nf),fun l aB=>?_⟩;refine ⟨dy,0,first :: ws,0,first,l,_,rfl,fV.same (bN aB),rfl,aH.of aR,?_,?_⟩
 .exact XE hf
 intro cj s3 h4 qH;nofun;refine ⟨_,QR,_,rfl,⟨_,Jz _⟩,?_⟩;refine Nr (xs:=ba ps) (fun i ys I=>cD dy cj I/\aM I/\b9 t I dy 0 (first :: ws) (1 + i)/\ys=zs.take i) ?_ ⟨fun b u _ e=>e,h4 (cQ.upd),qH,rfl⟩ ?_ ?_ ?_
 .rw [iJ];exact cp V6 (by decide)
 .rintro i ys I ak bh;ac_rfl
  obtain ⟨_,_,_,rfl⟩:=bh;subst a7;exact ⟨Jz _,by rw [fq];omega⟩
 .rintro i v ys I aK ⟨s4,h2,il,rfl⟩ N bl;obtain ⟨a,aS,rfl⟩:=cz aK;have ak:i < ps.length:=(cW.mp aS).1;obtain ⟨y,bj⟩:∃ y,ws[i]? = some y:=⟨ws[i]'(by omega),cv _⟩;obtain ⟨z,ay⟩:∃ z,zs[i]? = some z:=⟨zs[i]'(by omega),cv _⟩;nofun;refine ⟨Sub.name,dy,a,0,first :: ws,1 + i,y,z,rfl,il,by rw [UO];exact bj,lu i a y z aS bj ay,h2,?_⟩;intro dV s5 mR kn;exact bl _ _ ⟨s4.trans s5,mR h2,kn,by rw [q5,ay];rfl⟩
 .rintro ys I ⟨s4,h2,il,rfl⟩ eu qF;rw [iJ] at il ⊢;rw [lz (by omega)];obtain ⟨ay,Pc,Jh,hj,i3⟩:=id il;have kn:=il.same (bN (o:=.lst zs) qF);refine ⟨_,_,bN qF _ _ hj,b9.no _ _ _ (by ac_nf),dy,0,_,_,rfl,kn,by rw [fp];omega,by decide,fun dQ d8=>?_⟩;have aeh:H dy=none:=s1.free yq;have Ca:aF H I:=fun b u e=>by
   have af:b ≠ dy:=fun z=>by rw [z,aeh] at e;cases e
   exact s4 _ _ af (s3 _ _ af (bN aB _ _ (s2 _ _ (s1 _ _ e))))
  have sB:aF H (upd I eu (.lst zs)):=Ca.gB (Ca.free qF);have aaD:eu ≠ dQ:=fun z=>by rw [<- z,aR] at d8;cases d8
  refine q dQ eu _ (sB.gB (sB.free d8)) ((h2.upd).upd) aR ?_ (Ca.free qF);rw [aW aaD];exact aR
theorem Si {x:Str} (h:(10:Nat) ∉ x.cps.toList):lb x nl 0 x.length 1=[]:=by
 have e:=acC x 10;rw [decide_eq_false h] at e;rw [jP];simpa using e
theorem A5 (a b:Str):(a ++ nl ++ b).cps.toList=a.cps.toList ++ 10 :: b.cps.toList:=by
 rw [gI,gZ,gI,gZ,jP];simp
theorem RK {a b:Str} (h:(10:Nat) ∉ a.cps.toList):∃ r,lb (a ++ nl ++ b) nl 0 (a ++ nl ++ b).length 1=a.length :: r:=by
 have aB:a.cps.toList.length=a.length:=by simp [lK]
 have oZ:(a ++ nl ++ b).cps.toList[a.length]? = some 10:=by rw [A5,se (by omega),aB];simp
 rcases StrLaws.occ_head (a ++ nl ++ b) nl 1 (by decide) with ⟨_,no⟩ | ⟨i,r,e,zd,lo⟩
 .rw [jP] at no;exact absurd ((Qb _ 10 a.length).mpr (by rw [<- jP];exact oZ)) (no a.length)
 .refine ⟨r,?_⟩;rw [e];have ag:(a ++ nl ++ b).cps.toList[i]? = some 10:=by
   rw [jP] at zd;have:=(Qb _ 10 i).mp zd;rwa [<- jP] at this
  have ar:¬ i < a.length:=fun ak=>by
   rw [A5,uP (by omega)] at ag;exact h (c6 ag)
  have bc:¬ a.length < i:=fun ak=>by
   have:=lo a.length ak;rw [jP] at this;exact this ((Qb _ 10 a.length).mpr (by rw [<- jP];exact oZ))
  rw [show i=a.length by omega]
theorem aaV (a b:Str):pv (a ++ nl ++ b) 0 a.length=a:=by
 have aB:a.cps.toList.length=a.length:=by simp [lK]
 refine js ?_;show ((a ++ nl ++ b).cps.extract 0 a.length).toList=_;rw [aen,A5];simp [af8,<- aB]
theorem Zw (a b:Str):pv (a ++ nl ++ b) (a.length + nl.length) (a ++ nl ++ b).length=b:=by
 have aB:a.cps.toList.length=a.length:=by simp [lK]
 have ay:(a ++ nl ++ b).length=(a ++ nl ++ b).cps.toList.length:=by simp [lK]
 refine js ?_;show ((a ++ nl ++ b).cps.extract (a.length + nl.length) (a ++ nl ++ b).length).toList=_;rw [aen,ay,A5,jJ];simp only [af8,eV,fp,aB,List.drop_append];rw [List.drop_eq_nil_of_le (by omega),show a.length + 1 - a.length=1 by omega,ma,show (10 :: b.cps.toList).drop 1=b.cps.toList from rfl,lz (by omega)]
noncomputable def DO (row told text:Str):Bool->Prop
 | false=>row=told/\text=aa ""
 | true=>row=told ++ nl ++ text
noncomputable def kP:List Str:=[aa "crossing",aa "plan",aa "stages"]
noncomputable def To (t:bt):bF:=fun vs H Q _=>∃ row told text first ps ws zs,vs=[.str row]/\DO row told text (decide (first ∈ kP))/\row.length <= 20000/\told.length <= 900/\(10:Nat) ∉ told.cps.toList/\ht told=[first :: ws]/\(first,ps) ∈ h6/\mC ps ws zs/\aM H/\∀ p l I,aF H I->aM I->I p=some (.tup [.str first,.ref l,.str text])->I l=some (.lst zs)->H l=none->Q (.ref p) I
theorem RY {row told text:Str} {b:Bool} (h:DO row told text b) (pL:(10:Nat) ∉ told.cps.toList):∃ le,vb row nl=[V.str told,V.str le,V.str text]/\decide (le=nl)=b:=by
 cases b with
 | false=>
  obtain ⟨rfl,rfl⟩:=h;exact ⟨aa "",by unfold vb;rw [Si pL];rfl,by ac_nf⟩
 | true=>
  have e:row=told ++ nl ++ text:=h;subst e;obtain ⟨r,aj⟩:=RK (b:=text) pL;exact ⟨nl,by unfold vb;rw [aj];dsimp only;rw [aaV,Zw],by decide⟩
theorem TC:bT P base T 7 t.wB t.Bh ["row"] (To t):=by
 refine bA (Vt T) fun adF=>?_;exists T.Hg.ok rp,9
 obtain ⟨row,told,text,first,ps,ws,zs,rfl,c_,ay,nV,pL,jW,hf,mT,a5,q⟩:=h;refine ⟨_,(aE (l6 (ff iw X9 PySem.F.type_str_partition T8 (U 0) (ab bG au)) (h8 (K:=K) (n:=3) rfl rfl (dp (b1 (i:=1) rp.aA) (dp (b1 (i:=2) rp.aA) (dp (b1 (i:=3) rp.aA) hV)))))
   (aE (acM rfl (aU (l6 (bq adF aj T.abf T.Dz.bg T.aeH (ab (U 1) au)) (h8 (K:=K) (n:=2) rfl rfl (dp (b1 (i:=4) rp.aA) (dp (b1 (i:=5) rp.aA) hV))))))
   (aE (cI (cy jj (hb dE (U 2) bG (cc _)) (hb rD (U 4) (hJ (v:=.ref t.vw) rfl T.XC rfl) (by with_unfolding_all rfl)) (cc _)) (aU iE) cM)
   (aU (bL (ox (ab (U 4) (ab (U 5) (ab (U 3) au))))))))),?_⟩
 obtain ⟨le,hle,UC⟩:=RY c_ pL;nofun;refine ⟨row,nl,rfl,rfl,by rw [jJ];rfl,cp ay (by decide),fun p aw=>?_⟩;rw [hle];refine ⟨p,rfl,_,cU.of aR,rfl,_,_,rfl,_,_,rfl,_,_,rfl,rfl,?_⟩;refine ⟨told,first,ps,ws,zs,rfl,nV,jW,hf,mT,a5.upd,fun dQ l az s2 cQ aD vr ln=>?_⟩;refine ⟨dQ,rfl,_,cU.of aD,rfl,_,_,rfl,_,_,rfl,rfl,?_⟩;refine cG false (fun Q aN=>?_) (fun aq=>nomatch aq) (fun _=>?_)
 .nofun;refine ⟨_,.inr (T.adX _),rfl,rfl,?_⟩;rw [show mM (V.str first) [V.str (aa "crossing"),V.str (aa "plan"),V.str (aa "stages")]=decide (first ∈ kP) from rW first kP,UC,decide_eq_true rfl];exact aN
 .nofun;have s3:aF H az:=(bN aw).trans s2;refine ⟨by decide,fun l_ nG=>q l_ l _ (s3.gB (s3.free nG)) cQ.upd aR ?_ ?_⟩
  .rw [aW (cV vr nG)];exact vr
  .exact (bN aw).free ln
noncomputable def g8 (D:List Addr) (H:ah):ah:=fun b=>if b ∈ D then none else H b
noncomputable def lC (D:List Addr) (H I:ah):ah:=fun b=>if b ∈ D then H b else I b
theorem v3 {D:List Addr} {H:ah} {b:Addr} (h:b ∈ D):g8 D H b=none:=by unfold g8;rw [if_pos h]
theorem ci {D:List Addr} {H:ah} {b:Addr} (h:b ∉ D):g8 D H b=H b:=by unfold g8;rw [if_neg h]
theorem ve {D:List Addr} {H I:ah} {b:Addr} (h:b ∈ D):lC D H I b=H b:=by unfold lC;rw [if_pos h]
theorem nQ {D:List Addr} {H I:ah} {b:Addr} (h:b ∉ D):lC D H I b=I b:=by unfold lC;rw [if_neg h]
theorem uW {D:List Addr} {H:ah} {b:Addr} (h:H b=none):g8 D H b=none:=by unfold g8;split;rfl;exact h
theorem v8 {D:List Addr} {H:ah}:aF (g8 D H) H:=fun b u e=>by
 unfold g8 at e;split at e
 .cases e
 .exact e
theorem cg.frame {P:Program} {w:World} {K:a'} {ai:Str->Option Value} {base:Heap} {k:Nat} {f:Addr} {fd:FuncData} {ps:List Str} {sp nR:bF} (F:cg P w K ai base c7 k f fd ps sp)
  (h:∀ vs H Q E,nR vs H Q E->∃ D:List Addr,(∀ a ∈ D,∃ kvs,H a=some (.bV kvs))/\sp vs (g8 D H) (fun v I=>(∀ a ∈ D,I a=none)->Q v (lC D H I)) E):cg P w K ai base c7 k f fd ps nR:=by
 refine ⟨fun vs H Q E q=>?_,fun A outer s H args us vs Q E aj he af aK aC=>?_⟩
 .obtain ⟨D,_,ef⟩:=h vs H Q E q;exact F.len vs _ _ E ef
 obtain ⟨D,bu,q⟩:=h vs H Q E aC;have out:∀ b o,H b=some o->(∀ kvs,o ≠ .bV kvs)->b ∉ D:=fun b o e n hm=>by
  obtain ⟨kvs,aD⟩:=bu b hm;rw [e] at aD;exact n kvs (dZ aD)
 have afz:eN P w (g8 D H) s.heap:=fun a o e=>by
  refine (he.bz a o (v8 _ _ e)).ml (fun _ _ _ z=>z) (fun b z=>?_) fun b xs z=>?_
  .rw [ci (out b _ z (fun _ y=>nomatch y))];exact z
  .rw [ci (out b _ z (fun _ y=>nomatch y))];exact z
 have xj:mU P w K ai base A outer s (g8 D H):=⟨he.frames,he.mod,fun b o e=>⟨(he.bs b o e).1,uW (he.bs b o e).2⟩,he.kq,he.jD,fun b af=>uW (he.mH b af),afz,he.bare⟩;refine codeAny_mono (F.run A outer s (g8 D H) args us vs _ E aj xj af aK q) fun r aO a4=>?_
 cases r with
 | error e=>exact a4
 | ok iH=>
  cases iH with
  | next=>exact a4
  | brk=>exact a4
  | cont=>exact a4
  | ret u=>
   obtain ⟨v,H1,os,bare,un,bz,b8,ef⟩:=a4;have PK:∀ a ∈ D,H1 a=none:=fun a aS=>by
    obtain ⟨kvs,e⟩:=bu a aS;obtain ⟨z,y,vs,r,b6,aL,cC,aD,c⟩:=he.bz a _ e;exact un.free a b6 aD (v3 aS) (by simp)
   refine ⟨v,lC D H H1,os,bare,⟨fun b o e n=>un.keep b o e (uW n),fun b o e n=>un.slot b o e (uW n),fun b o e n x=>?_,un.there,fun b xs e=>?_,fun b o u e=>?_,fun b ps e=>?_⟩,fun a o e=>?_,b8,ef PK⟩
   .by_cases af:b ∈ D
    .rw [ve af];exact n
    .rw [nQ af];exact un.free b o e (uW n) x
   .have af:=out b _ e (fun _ y=>nomatch y);rw [nQ af];exact un.l2 b xs (by rw [ci af];exact e)
   .have af:=out b _ e (fun _ y=>nomatch y);rw [nQ af];exact un.kN b o u (by rw [ci af];exact e)
   .have af:=out b _ e (fun _ y=>nomatch y);rw [nQ af];exact un.l1 b ps (by rw [ci af];exact e)
   .by_cases af:a ∈ D
    .rw [ve af] at e;obtain ⟨kvs,da⟩:=bu a af;rw [da] at e;cases dZ e;obtain ⟨z,y,vs,r,b6,aL,cC,aD,c⟩:=he.bz a _ da;exact ⟨z,y,vs,r,b6,aL,cC,un.keep a b6 aD (v3 af) (fun hf=>by rw [he.mH a hf] at da;cases da) (by simp),c⟩
    .rw [nQ af] at e;have up:∀ b u,H1 b=some u->lC D H H1 b=some u:=fun b u z=>by
      rw [nQ (fun af=>by rw [PK b af] at z;cases z)];exact z
     exact (bz a o e).ml (fun _ _ _ z=>z) (fun b z=>up _ _ z) fun b xs z=>up _ _ z
seal L2.ck L2.bD L2.gS L2.ij L2.hN L2.gy
structure Off (D:List Addr) (H off:ah):Prop where
 bf:aF off H
 no:∀ a ∈ D,off a=none
 aP:∀ a ∈ D,∃ kvs,H a=some (.bV kvs)
theorem Off.same {D:List Addr} {H I off:ah} (h:Off D H off) (s:aF H I):Off D I off:=⟨h.bf.trans s,h.no,fun a aS=>let ⟨k,e⟩:=h.aP a aS;⟨k,s _ _ e⟩⟩
theorem Off.put {D:List Addr} {H off:ah} {a:Addr} {kvs:List (Key × V)} (h:Off D H off) (aS:a ∈ D):Off D (upd H a (.bV kvs)) off:=by
 refine ⟨fun b u e=>?_,h.no,fun b af=>?_⟩
 .rw [aW (cV e (h.no a aS))];exact h.bf b u e
 .by_cases e:b=a
  .rw [e,aR];exact ⟨_,rfl⟩
  .rw [aW e];exact h.aP b af
theorem Off.hS {D:List Addr} {H off:ah} (h:Off D H off):aF off (g8 D H):=fun b u e=>by
 rw [ci (fun af=>by rw [h.no b af] at e;cases e)];exact h.bf b u e
theorem Lw {D:List Addr} {H:ah} (n:aM H):aM (g8 D H):=fun b o e=>n b o (v8 b o e)
theorem Off.un {D:List Addr} {H H1 off:ah} (h:Off D H off) (s:aF (g8 D H) H1) (no:∀ a ∈ D,H1 a=none):aF H (lC D H H1)/\Off D (lC D H H1) H1/\aF off H1:=by
 have s1:aF H (lC D H H1):=fun b u e=>by
  by_cases af:b ∈ D
  .rw [ve af];exact e
  .rw [nQ af];exact s b u (by rw [ci af];exact e)
 refine ⟨s1,⟨fun b u e=>?_,no,fun a aS=>?_⟩,h.hS.trans s⟩
 .rw [nQ (fun af=>by rw [no b af] at e;cases e)];exact e
 .rw [ve aS];exact h.aP a aS
theorem J8 {D:List Addr} {H H1:ah} (n:aM H) (cq:aM H1):aM (lC D H H1):=fun b o e=>by
 by_cases af:b ∈ D
 .rw [ve af] at e;exact n b o e
 .rw [nQ af] at e;exact cq b o e
noncomputable def PO (t:bt):bF:=fun vs H Q _=>∃ n ds D off,vs=[.str (e4 n ds)]/\ke n ds/\aM H/\Off D H off/\∀ c I b',aF H I->aM I->Off D I b'->aF off b'->d7 t b' c n ds->Q (.ref c) I
noncomputable def OY (t:bt):bF:=fun vs H Q _=>∃ (c:Addr) (n:Int) (ds:List aG) (z:Nat) (sp:List bK) (D:List Addr) (off:ah),vs=[.ref c,.str (fz z sp)]/\Off D H off/\d7 t off c n ds/\0 < n/\rU ds/\(1 <= z/\z <= 240)/\mx z ds sp/\aM H/\n0 ds sp=none/\n4 ds z sp=none/\oL n z sp ds=none /\
 ∀ a I b',aF H I->aM I->Off D I b'->aF off b'->fH t b' a c n ds z sp->Q (.ref a) I
theorem N5:bT P base T 7 t.oT t.sF ["text"] (PO t):=by
 refine cg.frame (Vm T) fun vs H Q E h=>?_
 obtain ⟨n,ds,D,off,rfl,aq,a5,aX,q⟩:=h;refine ⟨D,aX.aP,n,ds,rfl,aq,(Lw a5),fun c H1 s1 cq C no=>?_⟩;obtain ⟨a,b,d⟩:=aX.un s1 no;exact q c _ H1 a (J8 a5 cq) b d C
theorem M1:bT P base T 7 t.pU t.qW u5 (OY t):=by
 refine cg.frame (Rj T) fun vs H Q E h=>?_
 obtain ⟨c,n,ds,z,sp,D,off,rfl,aX,C,a0,hd,ay,a9,a5,ag,ar,bc,q⟩:=h;refine ⟨D,aX.aP,c,n,ds,z,sp,rfl,C.same aX.hS,a0,hd,ay,a9,(Lw a5),ag,ar,bc,fun a H1 s1 cq ck no=>?_⟩;obtain ⟨x,y,d⟩:=aX.un s1 no;exact q a _ H1 x (J8 a5 cq) y d ck
noncomputable abbrev ul:List Str:=[aa "crossings",aa "plans",aa "keepers"]
noncomputable def qq (a3 db dB:Addr):List (Str × V):=[(aa "crossings",.ref a3),(aa "plans",.ref db),(aa "keepers",.ref dB)]
theorem kC (a3 db dB:Addr):(qq a3 db dB).map (·.1)=ul:=rfl
noncomputable def QK (t:bt):bF:=fun vs H Q _=>∃ (p av:Addr),vs=[.ref p]/\H p=some (.ins t.e0 av [])/\H av=some (.own p)/\∀ a3 db dB I,(∀ b u,b ≠ p->H b=some u->I b=some u)->(aM H->aM I)->I p=some (.ins t.e0 av (qq a3 db dB))->I a3=some (.bV [])->I db=some (.bV [])->a3 ≠ db->H a3=none->H db=none->Q .b4 I
noncomputable def WQ:bF:=fun vs H Q _=>∃ d x v,vs=[.ref d,.str x]/\Ev H d (.str x) (some v)/\Q v H
theorem acv:bT P base T 1 t.pH t.t7 ["self"] (QK t):=by
 exists T.Oe.ok Yh,9
 obtain ⟨p,av,rfl,ax,aD,q⟩:=h;refine ⟨_,(aE (gR (U 0) nY rfl)
   (aE (gR (U 0) nY rfl)
   (aU (gR (U 0) nY rfl)))),?_⟩
 nofun;intro a3 vf;have cq:p ≠ a3:=cV ax vf;refine ⟨_,_,_,by rw [aW cq];exact ax,T.h9,T.Ow,by decide,fun db f5=>?_⟩;have cQ:p ≠ db:=fun z=>by rw [<- z,aR] at f5;cases f5
 have h4:a3 ≠ db:=fun z=>by rw [<- z,aW cq.symm,aR] at f5;cases f5
 refine ⟨_,_,_,by rw [aW cQ];exact aR,T.h9,T.NW,eO (n:=999) (by decide),fun dB oi=>?_⟩;have h2:p ≠ dB:=fun z=>by rw [<- z,aR] at oi;cases oi
 refine ⟨_,_,_,by rw [aW h2];exact aR,T.h9,T.Wy,eO (n:=999) (eO (n:=998) (by decide)),?_⟩;have mR:a3 ≠ dB:=fun z=>by rw [<- z,aW cq.symm,aW h4,aW cq.symm,aR] at oi;cases oi
 have i5:db ≠ dB:=fun z=>by rw [<- z,aW cQ.symm,aR] at oi;cases oi
 rw [show dk (aa "crossings") (V.ref a3) ([]:List (Str × V))=[(aa "crossings",V.ref a3)] from ha [] rfl (by ac_nf),
  show dk (aa "plans") (V.ref db) ([(aa "crossings",V.ref a3)]:List (Str × V))=[(aa "crossings",V.ref a3),(aa "plans",V.ref db)] from ha [aa "crossings"] rfl (by ac_nf),
  show dk (aa "keepers") (V.ref dB) ([(aa "crossings",V.ref a3),(aa "plans",V.ref db)]:List (Str × V))=[(aa "crossings",V.ref a3),(aa "plans",V.ref db),(aa "keepers",V.ref dB)] from ha [aa "crossings",aa "plans"] rfl (by ac_nf)]
 have ar:H db=none:=by rw [aW cQ.symm,aW h4.symm] at f5;exact f5
 have bc:H dB=none:=by rw [aW h2.symm,aW i5.symm,aW h2.symm,aW mR.symm] at oi;exact oi
 refine q a3 db dB _ (fun b u n e=>?_) (fun n=>(((((n.upd).upd).upd).upd).upd).upd) aR ?_ ?_ h4 vf ar
 .rw [aW n,aW (cV e bc),aW n,aW (cV e ar),aW n,aW (cV e vf)];exact e
 .rw [aW cq.symm,aW mR,aW cq.symm,aW h4,aW cq.symm];exact aR
 .rw [aW cQ.symm,aW i5,aW cQ.symm];exact aR
theorem OI:bT P base T 1 t.wm t.zf x1 WQ:=by
 exists T.im.ok abo,9
 obtain ⟨d,x,v,rfl,a9,q⟩:=h;have bE:=No aj;refine ⟨_,(aE (cI (JR (OH bE (U 1) (U 0))) (aU iE) cM)
   (aU (bL (lX bE (U 0) (U 1) (fun _ _=>rfl))))),?_⟩
 nofun;refine cG false (fun Q aN=>?_) (fun aq=>nomatch aq) (fun _=>?_)
 .nofun;exact ⟨_,a9,aN⟩
 .nofun;exact ⟨_,a9,q⟩
structure fG (t:bt) (H:ah) (aP a3 db:Addr) (bR bo:List (Key × V)):Prop where
 b6:∃ av dB,H aP=some (.ins t.e0 av (qq a3 db dB))
 aS:H a3=some (.bV bR)
 af:H db=some (.bV bo)
 ne:a3 ≠ db
theorem fG.same {t:bt} {H I:ah} {aP a3 db:Addr} {bR bo:List (Key × V)} (h:fG t H aP a3 db bR bo) (s:aF H I):fG t I aP a3 db bR bo:=by
 obtain ⟨⟨av,dB,e⟩,a,b,n⟩:=h;exact ⟨⟨av,dB,s _ _ e⟩,s _ _ a,s _ _ b,n⟩
theorem fG.Q6 {t:bt} {H:ah} {aP a3 db:Addr} {bR bo k:List (Key × V)} (h:fG t H aP a3 db bR bo):fG t (upd H a3 (.bV k)) aP a3 db k bo:=by
 obtain ⟨⟨av,dB,e⟩,a,b,n⟩:=h;exact ⟨⟨av,dB,by rw [aW (dH e a (fun z=>nomatch z))];exact e⟩,aR,by rw [aW n.symm];exact b,n⟩
theorem fG.put2 {t:bt} {H:ah} {aP a3 db:Addr} {bR bo k:List (Key × V)} (h:fG t H aP a3 db bR bo):fG t (upd H db (.bV k)) aP a3 db bR k:=by
 obtain ⟨⟨av,dB,e⟩,a,b,n⟩:=h;exact ⟨⟨av,dB,by rw [aW (dH e b (fun z=>nomatch z))];exact e⟩,by rw [aW n];exact a,aR,n⟩
structure lO (n:Int) (ds:List aG) (z:Nat) (sp:List bK):Prop where
 u6:0 < n
 d:rU ds
 eJ:1 <= z/\z <= 240
 g:mx z ds sp
 GK:n0 ds sp=none
 Fh:n4 ds z sp=none
 cl:oL n z sp ds=none
noncomputable def LU (t:bt) (aP a3 db l:Addr) (bR bo:List (Key × V)) (off:ah) (vs:List V) (Q:ah->Prop):Prop:=∃ name n ds,vs=[.ref aP,.str (aa "crossing"),.ref l,.str (e4 n ds)]/\off l=some (.lst [.str name])/\ke n ds/\bR.length <= 1000 /\
 ∀ c I b',Off [a3,db] I b'->aF off b'->aM I->fG t I aP a3 db (eA bR (.inr name) (.ref c)) bo->d7 t b' c n ds->Q I
noncomputable def NG (t:bt) (aP a3 db l:Addr) (bR bo:List (Key × V)) (off:ah) (vs:List V) (Q:ah->Prop):Prop:=∃ (name rT:Str) (c:Addr) (n:Int) (ds:List aG) (z:Nat) (sp:List bK),vs=[.ref aP,.str (aa "plan"),.ref l,.str (fz z sp)]/\off l=some (.lst [.str name,.str rT])/\c8 bR (.inr rT)=some (.ref c)/\d7 t off c n ds/\lO n ds z sp/\bo.length <= 1000 /\
 ∀ a I b',Off [a3,db] I b'->aF off b'->aM I->fG t I aP a3 db bR (eA bo (.inr name) (.ref a))->fH t b' a c n ds z sp->Q I
noncomputable def Sx (t:bt):bF:=fun vs H Q _=>∃ aP a3 db l bR bo off,fG t H aP a3 db bR bo/\Off [a3,db] H off/\aM H/\(LU t aP a3 db l bR bo off vs (Q .b4)\/NG t aP a3 db l bR bo off vs (Q .b4))
section
variable {P:Program} {w:World} {K:a'} {ai:Str->Option Value} {base:Heap} {t:bt} {H:ah} {aP a3 db dB av:Addr}
theorem Jy (T:Txt w K ai t) (e:H aP=some (.ins t.e0 av (qq a3 db dB))):hB K H aP (aa "crossings") (.ref a3):=⟨_,av,_,e,T.h9,T.Ow,jQ ul 0 (kC ..) (by ac_nf) rfl⟩
theorem xg (T:Txt w K ai t) (e:H aP=some (.ins t.e0 av (qq a3 db dB))):hB K H aP (aa "plans") (.ref db):=⟨_,av,_,e,T.h9,T.NW,jQ ul 1 (kC ..) (by ac_nf) rfl⟩
end
theorem Vb:bT P base T 8 t.qV t.z8 EC (Sx t):=by
 refine bA (N5 T) fun zc=>bA (M1 T) fun xH=>bA (OI T) fun B2=>?_;refine T.PY.ok O8 (fun vs H Q E h=>?_) (fun _ _ _ s H vs Q E aj h=>?_)
 .obtain ⟨aP,a3,db,l,bR,bo,off,_,_,_,⟨_,_,_,rfl,_⟩ | ⟨_,_,_,_,_,_,_,rfl,_⟩⟩:=h <;> rfl
 have bE:=No aj;obtain ⟨aP,a3,db,l,bR,bo,off,ka,aX,a5,h⟩:=h;refine ⟨_,(aE (cI (cy dE (U 1) bG (cc _)) (aE (o_ bE (c0 (U 0) rfl) (cx dm (U 2) aJ) (bq zc aj T.Dq T.tg.bg T.Gv (ab (U 3) au)) rfl)
   (aU TL)) cM)
   (aE (bI (i:=4) O8.aA (bq B2 aj T.Lu T.im.bg T.O_ (ab (c0 (U 0) rfl) (ab (cx dm (U 2) aJ) au))))
   (aU (cI (cy dE (U 1) bG (cc _)) (aU (o_ bE (c0 (U 0) rfl) (cx dm (U 2) aJ) (bq xH aj T.Cf T.u9.bg T.DV (ab (U 4) (ab (U 3) au))) rfl)) (aE iE
   (aU iE)))))),?_⟩
 obtain ⟨⟨av,dB,eo⟩,hH,e8,ne⟩:=id ka;rcases h with ⟨name,n,ds,rfl,aB,aq,aI,q⟩ | ⟨name,rT,c,n,ds,z,sp,rfl,aB,aK,C,ok,aI,q⟩
 .refine cG true (fun Q aN=>?_) (fun _=>?_) (fun aq=>nomatch aq)
  .nofun;exact aN
  .nofun;refine ⟨n,ds,[a3,db],off,rfl,aq,a5,aX,fun c H1 gN s1 cq vx s2 C=>?_⟩;have ud:=ka.same s1;exact ⟨_,Jy T (s1 _ _ eo),_,aH.of (vx.bf _ _ (s2 _ _ aB)),_,rfl,_,rfl,_,k2.k (k:=.inr name) ud.aS (iD aI (by decide)),q c _ gN (vx.put (by simp)) s2 cq.upd ud.Q6 C⟩
 .refine cG false (fun Q aN=>?_) (fun aq=>nomatch aq) (fun _=>?_)
  .nofun;exact aN
  .nofun;have a9:Ev H a3 (.str rT) (some (.ref c)):=by rw [<- aK];exact Ev.k (k:=.inr rT) hH
   refine ⟨_,Jy T eo,_,aH.of (aX.bf _ _ aB),_,rfl,a3,rT,_,rfl,a9,?_⟩;refine cG true (fun Q aN=>?_) (fun _=>?_) (fun aq=>nomatch aq)
   .nofun;exact aN
   .nofun;refine ⟨c,n,ds,z,sp,[a3,db],off,rfl,aX,C,ok.u6,ok.d,ok.eJ,ok.g,a5,ok.GK,ok.Fh,ok.cl,fun a H1 gN s1 cq vx s2 ck=>?_⟩;have ud:=ka.same s1;exact ⟨_,xg T (s1 _ _ eo),_,aH.of (vx.bf _ _ (s2 _ _ aB)),_,rfl,_,rfl,_,k2.k (k:=.inr name) ud.af (iD aI (by decide)),q a _ gN (vx.put (by simp)) s2 cq.upd ud.put2 ck⟩
theorem Iu (a b:List Str):ba a ++ ba b=ba (a ++ b):=by unfold ba;rw [eQ]
noncomputable def m7 (c:Nat):Str:=[aa "stop",aa "ready",aa "free",aa "fade"].getD c (aa "stop")
noncomputable def td (c:Nat):Nat:=[46,58,124,126].getD c 46
noncomputable def kF (l:List Nat):Str:=⟨l.toArray⟩
theorem NI (l:List Nat):(kF l).length=l.length:=eR ..
theorem PF {x:Str} {l:List Nat} (h:x.cps.toList=l):x=kF l:=js h
noncomputable def fZ (xs:List Str) (cs:List Nat):List (Key × V):=List.zipWith (fun x c=>(du x,V.str (m7 c))) xs cs
structure j1 (xs:List Str):Prop where
 ln:1 <= xs.length/\xs.length <= 6
 aA:xs.Nodup
 al:∀ x ∈ xs,(1 <= x.length/\x.length <= 8)/\∀ c ∈ x.cps.toList,97 <= c/\c <= 122
structure zH (xs:List Str) (cw:List (List Nat)):Prop where
 ln:cw.length <= 300
 al:∀ cs ∈ cw,cs.length=xs.length/\∀ c ∈ cs,c < 4
theorem Ut {xs:List Str} {cs:List Nat} (h:cs.length=xs.length):(fZ xs cs).map (·.1)=xs.map du:=by
 unfold fZ;rw [List.map_zipWith];refine r3 (by simp [h]) fun i ag ar=>?_
 rw [List.getElem_zipWith,vQ]
theorem aal {xs:List Str} (h:xs.Nodup):(xs.map (du:Str->Key)).Nodup:=by
 refine List.pairwise_map.mpr (h.imp fun z e=>z (rC e))
theorem MP {xs:List Str} {cs:List Nat} (h:cs.length=xs.length):(fZ xs cs).length=xs.length:=by unfold fZ;rw [List.length_zipWith,h,Nat.min_self]
theorem OZ {xs:List Str} {cs:List Nat} {j c:Nat} {x:Str} (ao:xs[j]? = some x) (aq:cs[j]? = some c):(fZ xs cs)[j]? = some (du x,V.str (m7 c)):=by
 unfold fZ;rw [List.getElem?_zipWith,ao,aq]
theorem Yn {xs:List Str} {cs:List Nat} (N:j1 xs) (aB:cs.length=xs.length) {j c:Nat} {x:Str} (ao:xs[j]? = some x) (aq:cs[j]? = some c):c8 (fZ xs cs) (du x)=some (V.str (m7 c)):=
 Tt (by rw [Ut aB];exact aal N.aA) (c6 (OZ ao aq))
noncomputable def Ac (cw:List (List Nat)) (j:Nat):List Nat:=cw.map fun cs=>td (cs.getD j 0)
noncomputable def mi (x:Str) (j:Nat) (cw:List (List Nat)):List Nat:=x.cps.toList ++ ni (9 - x.length) 32 ++ Ac cw j
noncomputable def AM (b:Int) (n:Nat):List Nat:=(dG n).map fun k:Nat=>48 + ((b + (k:Int)) % 10).toNat
noncomputable def uX (b:Int) (n:Nat):List Nat:=ni 9 32 ++ AM b n
noncomputable def jz (b:Int) (xs:List Str) (cw:List (List Nat)):List Str:=kF (uX b cw.length) :: (if cw=[] then [] else xs.mapIdx fun j x=>kF (mi x j cw))
theorem PU {α:Type} (f:α->Nat) (l:List α):(iA (aa "") (l.map fun a=>ea (f a))).cps.toList=l.map f:=by
 rw [show iA (aa "") (l.map fun a=>ea (f a))=b3 ⟨#[]⟩ (l.map fun a=>ea (f a)) from ta _ _,FM,lG]
 induction l with
 | nil=>rfl
 | cons a l b2=>rw [dP,U3,b2];rfl
theorem MK {α:Type} (f:α->Nat) (l:List α):(gb (fun x:Str=>x.length) (l.map fun a=>ea (f a))).sum=l.length:=by
 rw [lG]
 induction l with
 | nil=>rfl
 | cons a l b2=>rw [dP,vd,b2,fp,UO];rfl
theorem aeI (x:Str) {n:Nat}:(nd x (n:Int)).cps.toList=x.cps.toList ++ ni (n - x.length) 32:=by
 have:=aiL x (n:Int) 32;rw [qg] at this;exact this
theorem aas:∀ {c:Nat},c < 4->mS (m7 c) CH=some (V.str (ea (td c)))
 | 0,_=>by ac_nf
 | 1,_=>by ac_nf
 | 2,_=>by ac_nf
 | 3,_=>by ac_nf
structure DI (H:ah) (p:Addr) (ps:List Addr) (bC:List (List (Key × V))):Prop where
 at_:H p=some (.lst (ps.map V.ref))
 len:ps.length=bC.length
 al:∀ (j:Nat) (a:Addr) (kvs:List (Key × V)),ps[j]? = some a->bC[j]? = some kvs->j5 H a (.bV kvs)
theorem Q_ {H I:ah} {p:Addr} {ps:List Addr} {bC:List (List (Key × V))} (h:zT H p ps bC) (s:aF H I):zT I p ps bC:=⟨s _ _ h.at_,h.len,fun j a kvs ag ar=>s _ _ (h.al j a kvs ag ar)⟩
noncomputable def acP:bF:=fun vs H Q _=>∃ xs cw j x p ps,vs=[.str x,.ref p]/\j1 xs/\zH xs cw/\xs[j]? = some x/\DI H p ps (cw.map (fZ xs))/\aM H/\Q (.str (kF (mi x j cw))) H
noncomputable def Sk:bF:=fun vs H Q _=>∃ xs cw j x p ps,vs=[.str x,.ref p]/\j1 xs/\zH xs cw/\xs[j]? = some x/\DI H p ps (cw.map (fZ xs))/\aM H/\∀ I,aF H I->Q (.str (kF (mi x j cw))) I
theorem ads:bT P base T 1 t.tf t.yf uJ acP:=by
 refine cg.forget (sp:=Sk) ?_ fun vs H Q E h=>?_
 .exists T.E'.ok NC,9
  obtain ⟨xs,cw,j,x,p,ps,rfl,N,C,ao,D,a5,q⟩:=h;have bE:=No aj;have WC:=Mg aj;have f9:(ps.map V.ref).length=cw.length:=by rw [a8,D.len,a8]
  have It:=C.ln;have bb:j < xs.length:=(cW.mp ao).1;have bl:=N.al x (c6 ao);have qv:∀ k:Nat,k <= 10000->k <= sizeLine:=fun k h=>cp h (by decide)
  refine ⟨_,(aE (bI (i:=2) NC.aA (ff iw kO kM j' bG (ab (ig rfl (gv (U 1)) (fU (sc:=br Bz) rfl (by ac_nf)) (N:=["row","name"]) (sel:=[none,some 0]) (gf (M:=["name","rows","signs"]) (by ac_nf)) (eZ.of (fun _ _ _ _=>(b1 (i:=0) (eC (N:=["row","name"]) (by ac_nf) rfl))) (fun _ _ _ _=>⟨_,gX,by walk_at "B"⟩) (fun _ _ _ _=>⟨_,(Og rfl T.Zh T.KM (lX bE (U 0) (U 1) (fun _ _=>rfl)) (fun _ _=>rfl)),by walk_at "B"⟩))) au)))
   (aU (bL (Db cS (Db cS (ff iw XI aej OB (U 0) (ab (hJ rfl T.ZT T.afh) au)) bG) (U 2))))),?_⟩
  refine fW (fun aQ I=>aF H I/\∃ eG:Str,eG.cps.toList=Ac cw j/\aQ=[some (.str x),~~~p,some (.str eG)]) (fun dq bu=>?_) fun fD a7=>?_
  .nofun;refine ⟨⟨_,aH.of D.at_⟩,?_⟩;refine cZ.r' (xs:=ps.map V.ref) (zs:=ba (cw.map fun cs=>ea (td (cs.getD j 0)))) (aH.of D.at_) (by rw [f9];exact qv _ (by omega)) (by unfold ba;rw [a8,a8,f9]) (fun i v z NQ aK ay j3=>?_) (fun d3 hM=>?_)
   .obtain ⟨a,aS,rfl⟩:=cz aK;obtain ⟨y,bj,rfl⟩:=cz ay;obtain ⟨cs,uF,rfl⟩:=cz bj;obtain ⟨bR,bo⟩:=C.al cs (c6 uF);have aq:cs[j]? = some (cs[j]'(by omega)):=cv _;have CW:=bo _ (c6 aq);rw [iF,aq] at j3;generalize cs[j]'(by omega)=c at aq CW j3;have dy:=D.al i a (fZ xs cs) aS (by rw [dS,uF];rfl);have a9:Ev H a (.str x) (some (V.str (m7 c))):=.inl ⟨_,du x,dy,rfl,(Yn N bR ao aq).symm⟩;nofun;exact ⟨Sub.name,_,a9,_,rfl,_,aas CW,j3⟩
   .refine ⟨d3,rfl,cw.map fun cs=>ea (td (cs.getD j 0)),aH.of aR,?_,bu _ _ ⟨bN hM,_,PU (fun cs:List Nat=>td (cs.getD j 0)) cw,rfl⟩⟩;rw [MK (fun cs:List Nat=>td (cs.getD j 0)),show (aa "").length=0 by ac_nf];omega
  rintro nD H1 ⟨s1,eG,Kb,rfl⟩;have Oz:=aeI x (n:=8);have Mp:(nd x 8).length=8:=by
   show (nd x ((8:Nat):Int)).cps.size=8;rw [<- oI,Oz,eV,rZ,oI];have:=bl.1;show x.length + (8 - x.length)=8;omega
  have ahF:eG.length=cw.length:=by
   show eG.cps.size=cw.length;rw [<- oI,Kb];unfold Ac;rw [a8]
  have aer:(aa " ").length=1:=by ac_nf
  subst a7;nofun;refine ⟨by decide,qv _ (by omega),qv _ (by rw [Ix];omega),?_⟩;rw [PF (x:=nd x 8 ++ aa " " ++ eG) (l:=mi x j cw) ?_]
  .exact q _ s1
  .rw [gI,gZ,gI,gZ,Kb,show nd x 8=nd x ((8:Nat):Int) from rfl,Oz,show (aa " ").cps.toList=ni 1 32 by ac_nf];unfold mi;rw [nt x.cps.toList,List.replicate_append_replicate];have:=bl.1;rw [show 8 - x.length + 1=9 - x.length by omega]
 .obtain ⟨xs,cw,j,x,p,ps,rfl,N,C,ao,D,a5,q⟩:=h;exact ⟨a5,xs,cw,j,x,p,ps,rfl,N,C,ao,D,a5,fun I bf=>⟨bf,q⟩⟩
theorem YL {n:Nat} (h:n < 10):n.log2 < 1920:=(show ∀ n,n < 10->Nat.log2 n < 1920 by decide) n h
theorem Vi:∀ k:Nat,k < 10->aa (toString ((k:Nat):Int))=ea (48 + k):=by ac_nf
noncomputable def aaL:bF:=fun vs H Q _=>∃ b xs cw p ps,vs=[.int b,.ref p]/\j1 xs/\zH xs cw/\zT H p ps (cw.map (fZ xs))/\aM H/\∀ q I,aF H I->aM I->H q=none->I q=some (.lst (ba (jz b xs cw)))->Q (.ref q) I
theorem Ou:bT P base T 2 t.wC t.Ah Ct aaL:=by
 refine bA (ads T) fun U0=>?_;exists T.yu.ok C0,9
 obtain ⟨b,xs,cw,p,ps,rfl,N,C,D,a5,q⟩:=h;have bE:=No aj;have WC:=Mg aj;have f9:(ps.map V.ref).length=cw.length:=by rw [a8,D.len,a8]
 have It:=C.ln;have qv:∀ k:Nat,k <= 10000->k <= sizeLine:=fun k h=>cp h (by decide)
 refine ⟨_,(aE (bI (i:=2) C0.aA (ff iw kO kM j' bG (ab (ig rfl (ja rfl T.iU (ab (hZ jx rfl T.jg i_ (ab (U 1) au)) au)) (fU (sc:=br vC) rfl (by ac_nf)) (N:=["step","begin"]) (sel:=[none,some 0]) (gf (M:=Gl) (by ac_nf)) (eZ.of (fun _ _ _ _=>(b1 (i:=0) (eC (N:=["step","begin"]) (by ac_nf) rfl))) (fun _ _ _ _=>⟨_,gX,by walk_at "B"⟩) (fun _ _ _ _=>⟨_,(ie i9 rfl T.jn i6 (ab (Db gz (Db cO (U 1) (U 0)) aJ) au)),by walk_at "B"⟩))) au)))
   (aE (bI (i:=3) C0.aA (gD (ab (Db cS (ff iw XI aej OB bG (ab (hJ rfl T.Ss T.afo) au)) (U 2)) au)))
   (aE (cI (EO (U 1) (fun _=>rfl)) (aU (d_ (ff l5 Rv PySem.F.type_list_extend WM (U 3) (ab (abN (ig rfl (Xj (cx dm (U 1) aJ)) (fU (sc:=br vC) rfl (by ac_nf)) (N:=uJ) (sel:=[none,some 1]) (gf (M:=Gl) (by ac_nf)) (eZ.of (fun _ _ _ _=>(b1 (i:=0) (eC (N:=uJ) (by ac_nf) rfl))) (fun _ _ _ _=>⟨_,gX,by walk_at "B"⟩) (fun _ _ _ _=>⟨_,(bq U0 aj T.aeK T.E'.bg T.Vu (ab (U 0) (ab (U 1) au))),by walk_at "B"⟩)))) au)))) cM)
   (aU (bL (U 3)))))),?_⟩
 refine fW (fun aQ I=>aF H I/\aM I/\∃ ow:Str,ow.cps.toList=AM b cw.length/\aQ=[some (.int b),~~~p,some (.str ow),none]) (fun dq bu=>?_) fun fD a7=>?_
 .nofun;refine ⟨_,.inl (aH.of D.at_),by omega,by rw [f9];omega,?_⟩;rw [f9,qg];refine cZ.uQ (n:=cw.length) (fun i=>V.str (ea (48 + ((b + (i:Int)) % 10).toNat))) (qv _ (by omega)) (fun i NQ ak j3=>?_) (fun d3 hM=>?_)
  .have fc:0 <= (b + (i:Int)) % 10:=gQ _ (by decide);have ft:(b + (i:Int)) % 10 < 10:=h1 _ (by decide);have e:=Vi ((b + (i:Int)) % 10).toNat (by omega);rw [l4 fc] at e;nofun;refine ⟨Sub.name,by decide,YL (by omega),?_⟩;rw [e];exact j3
  .have e:(dG cw.length).map (fun i:Nat=>V.str (ea (48 + ((b + (i:Int)) % 10).toNat)))=ba ((dG cw.length).map fun i:Nat=>ea (48 + ((b + (i:Int)) % 10).toNat)):=by unfold ba;rw [lG];rfl
   refine ⟨d3,rfl,(dG cw.length).map fun i:Nat=>ea (48 + ((b + (i:Int)) % 10).toNat),by rw [<- e];exact aH.of aR,?_,bu _ _ ⟨bN hM,a5.upd,_,PU (fun i:Nat=>48 + ((b + (i:Int)) % 10).toNat) (dG cw.length),rfl⟩⟩;rw [MK (fun i:Nat=>48 + ((b + (i:Int)) % 10).toNat),jN,show (aa "").length=0 by ac_nf];omega
 rintro nD H1 ⟨s1,cq,ow,J4,rfl⟩;have ahE:ow.length=cw.length:=by
  show ow.cps.size=cw.length;rw [<- oI,J4];unfold AM;rw [a8,jN]
 have oc:(nd (aa " ") 9).cps.toList=ni 9 32:=by ac_nf
 have aiM:(nd (aa " ") 9).length=9:=by ac_nf
 subst a7;refine fW (fun aQ I=>aF H I/\aM I/\∃ mr,H mr=none/\I mr=some (.lst (ba [kF (uX b cw.length)]))/\aQ=[some (.int b),~~~p,some (.str ow),~~~mr]) (fun dq bu=>?_) fun fD a7=>?_
 .nofun;refine ⟨by decide,qv _ (by omega),by decide,fun mr xh=>bu _ _ ⟨s1.trans (bN xh),cq.upd,mr,s1.free xh,?_,rfl⟩⟩;rw [aR,PF (x:=nd (aa " ") 9 ++ ow) (l:=uX b cw.length) (by rw [gI,gZ,oc,J4];rfl)];rfl
 rintro c5 az ⟨s2,cQ,mr,xh,dI,rfl⟩;subst a7;refine fW (fun aQ I=>aF H I/\aM I/\I mr=some (.lst (ba (jz b xs cw)))/\aQ=[some (.int b),~~~p,some (.str ow),~~~mr]) (fun dq bu=>?_) fun fD a7=>?_
 .refine cG (decide (cw ≠ [])) (fun Q aN=>?_) (fun BX=>?_) (fun BX=>?_)
  .nofun;refine ⟨_,.inl ⟨_,aH.of (s2 _ _ D.at_),rfl⟩,?_⟩;rw [show (!(ps.map V.ref).isEmpty)=decide (cw ≠ []) by
    rw [nP,VI,decide_eq_true_eq,<- Bool.not_eq_true,List.isEmpty_iff,<- Qm,f9,ne_eq,Qm]]
   exact aN
  .have aq:cw ≠ []:=of_decide_eq_true BX;have Gi:cw[0]? = some (cw[0]'(K3.mpr aq)):=cv _;generalize cw[0]'(K3.mpr aq)=dT at Gi;obtain ⟨kj,Gd⟩:∃ a,ps[0]? = some a:=⟨_,cv (show 0 < ps.length by rw [D.len,a8];exact K3.mpr aq)⟩;have j4:=Q_ D s2;have da:=j4.al 0 kj (fZ xs dT) Gd (by rw [dS,Gi];rfl);have Eb:=(C.al dT (c6 Gi)).1;have qS:p ≠ kj:=dH j4.at_ da (by intro z;cases z);have Gh:mr ≠ kj:=dH dI da (by intro z;cases z);nofun;refine ⟨.inl ⟨_,aH.of dI⟩,kj,fZ xs dT,da,_,aH.of j4.at_,_,dh (j:=0) (by rw [dS,Gd];rfl),kj,rfl,fZ xs dT,da,fun o=>?_⟩;generalize DY:upd az kj (.eb o (.bV (fZ xs dT)))=rk;have w1:rk kj=some (.eb o (.bV (fZ xs dT))):=by rw [<- DY];exact aR
   have oS:∀ {b:Addr} {u:dY},b ≠ kj->az b=some u->rk b=some u:=fun af e=>by rw [<- DY,aW af];exact e
   have aeD:DI rk p ps (cw.map (fZ xs)):=⟨oS qS j4.at_,j4.len,fun j a kvs ag ar=>by
    have e:=j4.al j a kvs ag ar;by_cases ca:a=kj
    .rw [ca] at e ⊢;rw [da] at e;cases e;exact .inr ⟨o,w1⟩
    .exact .inl (oS ca e)⟩
   have iS:aM rk:=by rw [<- DY];exact cQ.upd
   refine cZ.of (n:=xs.length) (fun i ys I=>I=rk/\ys=(ba (xs.mapIdx fun j x=>kF (mi x j cw))).take i) (qv _ (by have:=N.ln;omega)) ⟨rfl,rfl⟩ (fun i ys I ak e=>⟨by rw [e.1];exact w1,by rw [MP Eb];exact ak⟩) (fun ys I e=>⟨by rw [e.1];exact w1,by rw [MP Eb];exact bW _⟩) (fun i ys I ak e=>by rw [e.2,fq];omega) ?_ ?_
   .rintro i ys I v cf ak ⟨rfl,rfl⟩ ⟨rfl,k,iI,q4,rfl⟩ NQ j3;have ao:xs[i]? = some xs[i]:=cv ak;generalize xs[i]=x at ao;have ab_:dT[i]? = some (dT[i]'(by omega)):=cv _;rw [OZ ao ab_] at q4;cases q4;nofun;refine ⟨Sub.name,xs,cw,i,x,p,ps,rfl,N,C,ao,aeD,iS,j3 _ _ ⟨rfl,?_⟩⟩;rw [q5,Ao (show (xs.mapIdx fun j x=>kF (mi x j cw))[i]? = some (kF (mi x i cw)) by rw [NH,ao];rfl)];rfl
   .rintro ys I ⟨rfl,rfl⟩ d3 hM;have MM:d3 ≠ kj:=fun z=>by rw [z,w1] at hM;cases hM
    rw [lz (by rw [iJ,xF];exact bW _)];refine ⟨o,by rw [aW (eY MM)];exact w1,d3,rfl,ba [kF (uX b cw.length)],?_,_,by rw [aW MM];exact aR,?_,?_⟩
    .rw [aW Gh,aW (fun z=>by rw [<- z,oS Gh dI] at hM;cases hM)];exact oS Gh dI
    .exact cp (show _ <= 7 by rw [iJ,iJ,xF];have:=N.ln;show 1 + xs.length <= 7;omega) (by decide)
    .have abk:aF az (upd (upd I d3 (.lst (ba (xs.mapIdx fun j x=>kF (mi x j cw))))) kj (.bV (fZ xs dT))):=fun sa u e=>by
      by_cases ca:sa=kj
      .rw [ca,aR];rw [ca,da] at e;exact e
      .have:=oS ca e;rw [aW ca,aW (fun z=>by rw [z,hM] at this;cases this)];exact this
     refine bu _ _ ⟨(s2.trans abk).gB xh,(iS.upd.upd).upd,?_,rfl⟩;rw [aR,Iu];unfold jz;rw [if_neg aq];rfl
  .simp only [eH];have aq:cw=[]:=by simpa using of_decide_eq_false BX
   refine bu _ _ ⟨s2,cQ,?_,rfl⟩;rw [dI];unfold jz;rw [if_pos aq]
 rintro lD cj ⟨s3,h4,iP,rfl⟩;subst a7;nofun;exact q mr cj s3 h4 xh iP
noncomputable def fR (ds:List aG) (f:aG->Str):List (Key × V):=ds.map fun d=>(du d.name,V.str (f d))
theorem af5 {ds:List aG} {f:aG->Str} (h:(ds.map (·.name)).Nodup) {i:Nat} {d:aG} (hd:ds[i]? = some d):eA (fR (ds.take i) f) (du d.name) (.str (f d))=fR (ds.take (i + 1)) f:=by
 unfold eA;have no:((fR (ds.take i) f).any fun c1=>decide (c1.1=du d.name))=false:=by
  rw [Hv];intro p aw;unfold fR at aw;obtain ⟨e,he,rfl⟩:=dN.mp aw;obtain ⟨j,bb⟩:=iX he;have RI:=(cW.mp bb).1;rw [fq] at RI;rw [vM (by omega)] at bb;simp only [decide_eq_true_eq];intro z;have:=uy h bb hd (rC z);omega
 rw [if_neg (by rw [no];exact gp),k1 hd];unfold fR;rw [eQ];rfl
theorem ZM {ds:List aG} {f:aG->Str} (h:(ds.map (·.name)).Nodup) {i:Nat} {d:aG} (hd:ds[i]? = some d):c8 (fR ds f) (du d.name)=some (.str (f d)):=by
 have:∀ (l:List aG),(l.map (·.name)).Nodup->d ∈ l->c8 (fR l f) (du d.name)=some (.str (f d)):=fun l=>by
  induction l with
  | nil=>intro _ h;cases h
  | cons x l b2=>
   intro a0 hm;by_cases c:x.name=d.name
   .have:x=d:=by
     rcases cP.mp hm with e | e
     .exact e.symm
     .exact absurd (dN.mpr ⟨d,e,c.symm⟩) (s9.mp a0).1
    subst this;simp [c8,fR]
   .have Aa:d ∈ l:=by
     rcases cP.mp hm with e | e
     .exact absurd (by rw [e]) c
     .exact e
    have:=b2 (s9.mp a0).2 Aa;simp only [c8,fR,dP,pY] at this ⊢;simp [c] at this ⊢;exact this
 exact this ds h (c6 hd)
theorem HK {α:Type} {P:α->Prop} {z:Int} {v:α} (aK:P v) (b:Int):∀ (k:Nat) (l:List α),(∀ x ∈ l,P x)->∀ x ∈ i2 z v b k l,P x
 | 0,_,h=>h
 | k + 1,l,h=>fun x ao=>by
  unfold i2 m2 at ao;rcases Z6 ao with e | e
  .exact HK aK b k l h x e
  .rw [e];exact aK
theorem Lz {α:Type} {P:α->Prop} {z:Int} {v:α} (aK:P v) (b:Int):∀ (k:Nat) (l:List α),(∀ x ∈ l,P x)->∀ x ∈ mW z v b k l,P x
 | 0,_,h=>h
 | k + 1,l,h=>fun x ao=>by
  unfold mW m2 at ao;rcases Z6 ao with e | e
  .exact Lz aK b k l h x e
  .rw [e];exact aK
noncomputable def ph (s:Str):Nat:=if s=aa "stop" then 0 else if s=aa "ready" then 1 else if s=aa "free" then 2 else 3
theorem LJ (s:Str):ph s < 4:=by unfold ph;repeat (first | decide | split)
noncomputable def ir (s:Str):Prop:=m7 (ph s)=s
theorem aeE (z dy fd:Nat) (ps:List (Int × Int)):∀ x ∈ hL z dy fd ps,ir x:=by
 have ag:ir (aa "stop"):=by unfold ir;ac_nf
 have ar:ir (aa "ready"):=by unfold ir;ac_nf
 have bc:ir (aa "free"):=by unfold ir;ac_nf
 have cb:ir (aa "fade"):=by unfold ir;ac_nf
 unfold hL
 suffices h:∀ l:List Str,(∀ x ∈ l,ir x)->∀ x ∈ ps.foldl (sM z dy fd) l,ir x from h _ fun x ao=>by rw [List.eq_of_mem_replicate ao];exact ag
 induction ps with
 | nil=>exact fun l h=>h
 | cons p ps b2=>exact fun l h=>b2 _ (by unfold sM;exact HK cb _ _ _ (HK bc _ _ _ (Lz ar _ _ _ h)))
theorem z2 {z:Nat} (ay:0 < z) {sp:List bK} {d:aG} {turn:Int}:ir (gP z sp d turn):=by
 have aB:(ob z sp d).length=z:=sV _ _ _ _;have h0:=gQ turn (show (z:Int) ≠ 0 by omega);have ag:=h1 turn (show (0:Int) < z by omega);have bb:(turn % (z:Int)).toNat < (ob z sp d).length:=by rw [aB];omega
 unfold gP;rw [cv bb];exact aeE _ _ _ _ _ (tB bb)
noncomputable def p8 (z:Nat) (sp:List bK) (ds:List aG) (turn:Int):List Nat:=ds.map fun d=>ph (gP z sp d turn)
theorem Qf {z:Nat} (ay:0 < z) (sp:List bK) (ds:List aG) (turn:Int):fR ds (fun d=>gP z sp d turn)=fZ (ds.map (·.name)) (p8 z sp ds turn):=by
 unfold fR fZ p8;rw [List.zipWith_map,List.zipWith_self];refine aeN fun d _=>?_
 rw [show m7 (ph (gP z sp d turn))=gP z sp d turn from z2 ay]
noncomputable def VY (t:bt):bF:=fun vs H Q _=>∃ (pl c:Addr) (n:Int) (ds:List aG) (z:Nat) (sp:List bK) (turn:Int),vs=[.ref pl,.int turn]/\fH t H pl c n ds z sp/\0 < z/\aM H /\
 ∀ p I,aF H I->aM I->H p=none->I p=some (.bV (fR ds fun d=>gP z sp d turn))->Q (.ref p) I
theorem ZB:bT P base T 4 t.u7 t.AO IB (VY t):=by
 refine bA (TJ T) fun Y'=>bA (vJ T) fun lr=>?_;exists T.s6.ok DR,9
 obtain ⟨pl,c,n,ds,z,sp,turn,rfl,ck,ay,a5,q⟩:=h;generalize hf:(fun d=>gP z sp d turn)=f at q;obtain ⟨av,p,lm,un,d1,C,_,_,_⟩:=ck.at_;obtain ⟨⟨gW,fO⟩,sm,wl,aA,ax,_,_⟩:=id C;have bE:=No aj;refine ⟨_,(aE (bI (i:=2) DR.aA nY)
   (aE (fN fT rfl (gv (hG (c0 (U 0) rfl) T.gg T.o6 lr aj T.qh .nil b0)) (b1 (i:=3) DR.aA) (aU (o_ bE (U 2) (U 3) (bq Y' aj T.V5 T.BW.bg T.Yz (ab (U 0) (ab (U 3) (ab (U 1) au)))) rfl)))
   (aU (bL (U 2))))),?_⟩
 refine fW (fun aQ I=>aF H I/\aM I/\∃ jc,H jc=none/\I jc=some (.bV [])/\aQ=[~~~pl,some (.int turn),~~~jc,none]) (fun D bu=>?_) fun fD a7=>?_
 .nofun;exact fun jc vH=>bu _ _ ⟨bN vH,a5.upd,jc,vH,aR,rfl⟩
 rintro nD H1 ⟨s1,cq,jc,vH,dc,rfl⟩;subst a7;nofun;refine ⟨_,BI T (s1 _ _ d1),_,rfl,_,_,s1 _ _ ax,hY _ _ _ (by ac_nf),c,n,ds,rfl,C.same s1,fun d3 f9=>⟨d3,rfl,⟨_,aH.of aR⟩,?_⟩⟩;refine ec.list (xs:=ba (ds.map (·.name))) (fun i σ I=>aF H I/\aM I/\I d3=some (.lst (ba (ds.map (·.name))))/\I jc=some (.bV (fR (ds.take i) f))/\∃ y,σ=[~~~pl,some (.int turn),~~~jc,y]) ?_ ?_ ?_ ?_
 .exact ⟨s1.trans (bN f9),cq.upd,aR,(bN f9) _ _ dc,_,rfl⟩
 .rintro i σ I ak bh;ac_rfl
  obtain ⟨_,_,h,_⟩:=bh;subst a7;exact aH.of h
 .rintro i v σ I aK bh;ac_rfl
  obtain ⟨s2,cQ,hM,t4,y,rfl⟩:=bh;obtain ⟨x,ao,rfl⟩:=cz aK;obtain ⟨d,hd,rfl⟩:=cz ao;have hlen:(fR (ds.take i) f).length <= 12:=by unfold fR;rw [a8,fq];omega
  subst a7;nofun;refine ⟨pl,c,n,ds,z,sp,i,d,turn,rfl,ck.same s2,ay,hd,_,k2.k (k:=du d.name) t4 (iD hlen (by decide)),s2.gB vH,cQ.upd,?_,?_,_,rfl⟩
  .rw [aW (dH hM t4 (by intro z;cases z))];exact hM
  .rw [aR,show gP z sp d turn=f d by rw [<- hf],af5 gW hd]
 .rintro σ I bh;ac_rfl
  obtain ⟨s2,cQ,hM,t4,y,rfl⟩:=bh;have o5:(ba (ds.map (·.name))).length=ds.length:=by unfold ba;simp
  subst a7;rw [o5,o3] at t4;nofun;exact q jc I s2 cQ vH t4
noncomputable def A1 (ds:List aG) (f:aG->Str):Str:=iA bw (ds.map fun d=>d.name ++ bw ++ f d)
noncomputable def U8:bF:=fun vs H Q _=>∃ d ds f,vs=[.ref d]/\H d=some (.bV (fR ds f))/\ds.length <= 12/\(∀ x ∈ ds,x.name.length <= 8/\(f x).length <= 8)/\aM H/\∀ I,cD d H I->aM I->Q (.str (A1 ds f)) I
noncomputable def aaH (t:bt):bF:=fun vs H Q _=>∃ (pl c:Addr) (n:Int) (ds:List aG) (z:Nat) (sp:List bK) (d:aG) (turn v:Int),vs=[.ref pl,.str d.name,.int turn]/\fH t H pl c n ds z sp/\(0 < z/\z <= 240)/\d ∈ ds/\(ee z sp d.name)[(turn % (z:Int)).toNat]? = some v/\Q (.str (num v)) H
noncomputable def adV (t:bt):bF:=fun vs H Q _=>∃ (pl c:Addr) (n:Int) (ds:List aG) (z:Nat) (sp:List bK) (i:Nat) (d:aG) (m:Int),vs=[.ref pl,.str d.name]/\fH t H pl c n ds z sp/\z <= 240/\ds[i]? = some d/\(m ∈ ee z sp d.name/\∀ k ∈ ee z sp d.name,k <= m)/\∀ I,aF H I->(aM H->aM I)->Q (.str (num m ++ bw ++ num ((ee z sp d.name).idxOf m:Nat))) I
noncomputable def iL (z:Nat) (sp:List bK) (ds:List aG) (turn:Int) (n:Nat):List (List Nat):=(dG n).map fun k=>p8 z sp ds (turn + (k:Nat))
noncomputable def aaN (t:bt):bF:=fun vs H Q _=>∃ (pl c:Addr) (n:Int) (ds:List aG) (z:Nat) (sp:List bK) (turn:Int) (m:Nat),vs=[.ref pl,.int turn,.int m]/\fH t H pl c n ds z sp/\0 < z/\m <= 200/\j1 (ds.map (·.name))/\aM H/\∀ I,aF H I->aM I->Q (.str (iA nl (jz turn (ds.map (·.name)) (iL z sp ds turn m)))) I
theorem bZ (a b:Str):(a ++ b).length=a.length + b.length:=by simp [lK,gI]
theorem zn (a:Str):lp ++ a=a:=js (by rw [gI,gZ];rfl)
theorem FB {B:Nat}:∀ {l:List Str},(∀ y ∈ l,y.length <= B)->(l.map fun x=>x.length).sum <= l.length * B
 | [],_=>by simp
 | a :: r,h=>by
  have ag:=h a oY;have ar:=FB (l:=r) fun y bj=>h y (hP _ bj)
  rw [dP,vd,fp,Nat.add_one_mul];omega
theorem lT {n:Nat} (h:n <= 10000):n.log2 < 1920:=by
 by_cases h0:n=0
 .subst h0;decide
 .rw [Lj h0];exact iD h (ih (show 10000 < 2 ^ 14 by decide) (Uh (by decide) (by decide)))
theorem LH (m:List Bool):∀ k,0 <= gn m k/\gn m k <= k
 | 0=>by unfold gn;omega
 | k + 1=>by
  have:=LH m k;unfold gn;split <;> omega
theorem xK {z:Nat} {sp:List bK} {x:Str} {v:Int} (h:v ∈ ee z sp x):0 <= v/\v <= 2 * z:=by
 unfold ee lV at h;obtain ⟨t,c_,rfl⟩:=dN.mp h;have:=LH (fL z (cR x sp)) (2 * (fL z (cR x sp)).length - t);have e:=oF z (cR x sp);omega
theorem kp {v:Int} (h0:0 <= v) (ag:v < 10 ^ 59):(num v).length <= 59:=by
 have:=(C4 (by decide) h0 ag).1.1.2;rwa [ls] at this
theorem Md {z:Nat} {sp:List bK} {ds:List aG} {v:Int} {m:Nat} (hm:m <= 200):zH (ds.map (·.name)) (iL z sp ds v m):=by
 refine ⟨by unfold iL;rw [a8,jN];omega,fun cs aq=>?_⟩;obtain ⟨k,_,rfl⟩:=dN.mp aq;refine ⟨by unfold p8;rw [a8,a8],fun c aq=>?_⟩;obtain ⟨d,_,rfl⟩:=dN.mp aq;exact LJ _
theorem Nk {H:ah} {p:Addr} {qs:List Addr} {z:Nat} {sp:List bK} {ds:List aG} {v:Int} {m:Nat} (aw:H p=none) (e:qs.length=m) (al:∀ (j:Nat) (a:Addr),qs[j]? = some a->H a=some (.bV (fZ (ds.map (·.name)) (p8 z sp ds (v + (j:Nat)))))):zT (upd H p (.lst (qs.map V.ref))) p qs ((iL z sp ds v m).map (fZ (ds.map (·.name)))):=by
 refine ⟨aR,by rw [a8];unfold iL;rw [a8,jN];exact e,fun j a kvs ag ar=>?_⟩;obtain ⟨cs,bc,rfl⟩:=cz ar;obtain ⟨k,cb,rfl⟩:=cz bc;have aI:k=j:=by
  rw [JX (by have:=(cW.mp ag).1;omega)] at cb;exact (dZ cb).symm
 subst aI;have:=al k a ag;rw [aW (cV this aw)];exact this
theorem ND {z:Nat} {sp:List bK} {ds:List aG} {v:Int} {m:Nat} (bl:j1 (ds.map (·.name))) (hm:m <= 200):((jz v (ds.map (·.name)) (iL z sp ds v m)).map fun x=>x.length).sum + (jz v (ds.map (·.name)) (iL z sp ds v m)).length * (aa "\n").length <= 16777216:=by
 have aB:(jz v (ds.map (·.name)) (iL z sp ds v m)).length <= 7:=by
  unfold jz;rw [fp];split
  .simp
  .rw [xF];have:=bl.ln;omega
 have aq:(iL z sp ds v m).length=m:=by unfold iL;rw [a8,jN]
 have ar:∀ y ∈ jz v (ds.map (·.name)) (iL z sp ds v m),y.length <= 300:=fun y bj=>by
  unfold jz at bj;rcases cP.mp bj with rfl | bj
  .rw [NI];unfold uX AM;rw [eV,rZ,a8,jN];omega
  .split at bj
   .cases bj
   .obtain ⟨j,bb,rfl⟩:=List.mem_mapIdx.mp bj;have ao:=(bl.al _ (tB bb)).1;rw [NI];unfold mi Ac;rw [eV,eV,rZ,a8,aq,show ∀ x:Str,x.cps.toList.length=x.length from fun x=>by simp [lK]];omega
 have:=FB ar;have bc:(aa "\n").length=1:=jJ;rw [bc];have:=Nat.mul_le_mul_right 300 aB;omega
theorem afa:bT P base T 1 t.tr t.xx ["shown"] U8:=by
 exists T.Hf.ok ZW,9
 obtain ⟨d,ds,f,rfl,hd,a0,KD,a5,q⟩:=h;have bE:=No aj;refine ⟨_,(aU (bL (ff iw kO kM j' bG (ab (ig rfl (aem (OJ PySem.F.plainAttrs_dict Yc PySem.F.type_dict_items Wc (U 0))) (fU (sc:=br y') rfl (by ac_nf)) (N:=["name","colour"]) (sel:=[none,none]) (gf (M:=["shown"]) (by ac_nf)) (eZ.of (fun _ _ _ _=>(h8 (K:=K) (n:=2) rfl rfl (dp (b1 (i:=0) (eC (N:=["name","colour"]) (by ac_nf) rfl)) (dp (b1 (i:=1) (eC (N:=["name","colour"]) (by ac_nf) rfl)) hV)))) (fun _ _ _ _=>⟨_,gX,by walk_at "B"⟩) (fun _ _ _ _=>⟨_,(O' (Px (U 0) (TD (Px (U 1) OF)))),by walk_at "B"⟩))) au)))),?_⟩;nofun;simp only [IV];nofun;refine ⟨.inr (.inr (.inl (.inl ⟨_,hd⟩))),_,hd,fun p aw=>⟨_,aR,_,(bN aw) _ _ hd,fun b6=>?_⟩⟩;have oS:cD d H (upd (upd H p (.ext (lx p d))) d (.eb b6 (.bV (fR ds f)))):=fun b u af e=>by rw [aW af];exact (bN aw) _ _ e
 have Xt:upd (upd H p (.ext (lx p d))) d (.eb b6 (.bV (fR ds f))) d=some (.eb b6 (.bV (fR ds f))):=aR;have iS:aM (upd (upd H p (.ext (lx p d))) d (.eb b6 (.bV (fR ds f)))):=a5.upd.upd;generalize upd (upd H p (.ext (lx p d))) d (.eb b6 (.bV (fR ds f)))=rk at *;have CC:(fR ds f).length=ds.length:=by unfold fR;rw [a8]
 refine cZ.of (n:=ds.length) (fun i ys I=>cD d H I/\aM I/\I d=some (.eb b6 (.bV (fR ds f)))/\ys=ba ((ds.take i).map fun d=>d.name ++ bw ++ f d)) (cp a0 (by decide)) ⟨oS,iS,Xt,rfl⟩ ?_ ?_ ?_ ?_ ?_
 .rintro i ys I ak bh;ac_rfl
  obtain ⟨_,_,e,_⟩:=bh;subst a7;exact ⟨e,by omega⟩
 .rintro ys I bh;ac_rfl
  obtain ⟨_,_,e,_⟩:=bh;subst a7;exact ⟨e,by omega⟩
 .rintro i ys I ak bh;ac_rfl
  obtain ⟨_,_,_,rfl⟩:=bh;subst a7;rw [iJ,a8,fq];omega
 .rintro i ys I x az ak ⟨s1,cq,ax,rfl⟩ ⟨dQ,k,v,d8,rfl,q4,rfl⟩ N bl;obtain ⟨x,ao,ex⟩:=cz q4;cases ex;have hm:=KD x (c6 ao);refine gl ?_;nofun;have aC:100 <= sizeLine:=by decide
  have r9:(aa " ").length=1:=hA;have he:lp.length=0:=rfl;refine ⟨Sub.xD,x.name,rfl,by omega,by omega,by rw [zn];omega,by omega,by rw [zn,bZ];omega,by rw [zn,bZ,bZ];omega,?_⟩;rw [zn];refine bl _ _ ⟨fun b u af e=>bN d8 _ _ (s1 b u af e),cq.upd,bN d8 _ _ ax,?_⟩;rw [k1 ao,eQ,<- Iu];rfl
 .rintro ys I ⟨s1,cq,ax,rfl⟩ dQ d8;rw [o3];have ar:∀ y ∈ ds.map (fun d=>d.name ++ bw ++ f d),y.length <= 17:=fun y bj=>by
   obtain ⟨x,ao,rfl⟩:=dN.mp bj;have:=KD x ao;rw [bZ,bZ,hA];omega
  refine ⟨dQ,rfl,_,aH.of aR,?_,q _ (fun b u af e=>?_) cq.upd⟩
  .have bc:=FB ar;rw [a8] at bc ⊢;have cb:(aa " ").length=1:=hA;rw [cb];omega
  .have:=s1 b u af e;rw [aW (cV this d8)];exact this
theorem Zj:bT P base T 4 t.wZ t.dl kS (aaH t):=by
 refine bA (OL T) fun Ed=>?_;exists T.B1.ok Zz,9
 obtain ⟨pl,c,n,ds,z,sp,d,turn,v,rfl,ck,ay,hd,aK,q⟩:=h;refine ⟨_,(aU (bL (ie i9 rfl T.jn i6 (ab (Db ol (bq Ed aj T.Lm T.yx.bg T.OD (ab (U 0) (ab (U 1) (ab (U 2) au)))) (U 2)) au)))),?_⟩;nofun;have af:=xK (c6 aK);refine ⟨pl,c,n,ds,z,sp,d,turn,v,rfl,ck,ay.1,hd,aK,_,rfl,?_⟩;rw [show turn + v - turn=v by omega];exact ⟨lT (by omega),q⟩
theorem abe:bT P base T 4 t.wo t.Ay sv (adV t):=by
 refine bA (KP T) fun H5=>?_;exists T.Ge.ok Hc,9
 obtain ⟨pl,c,n,ds,z,sp,i,d,m,rfl,ck,ay,hd,hm,q⟩:=h;refine ⟨_,(aE (l6 (bq H5 aj T.Jq T.yi.bg T.Qz (ab (U 0) (ab (U 1) au))) (h8 (K:=K) (n:=2) rfl rfl (dp (b1 (i:=2) Hc.aA) (dp (b1 (i:=3) Hc.aA) hV))))
   (aU (bL (O' (Nu (U 2) (TD (Nu (U 3) OF))))))),?_⟩
 nofun;have af:=xK hm.1;have ak:(ee z sp d.name).idxOf m < z:=by
  have:=P5.mpr hm.1;rwa [wR] at this
 refine ⟨pl,c,n,ds,z,sp,i,d,m,rfl,ck,by omega,hd,hm,fun p aw=>?_⟩;have cT:(aa (toString m)).length <= 59:=kp (v:=m) (by omega) (by omega);have eu:(aa (toString (((ee z sp d.name).idxOf m:Nat):Int))).length <= 59:=kp (v:=((ee z sp d.name).idxOf m:Nat)) (by omega) (by omega);have e:=bZ;have da:lp.length=0:=rfl;refine ⟨p,rfl,_,cU.of aR,rfl,_,_,rfl,_,_,rfl,rfl,m,rfl,lT (by omega),?_,?_,_,rfl,lT (by omega),?_,?_,?_⟩
 .rw [da];exact cp (show _ <= 59 by omega) (by decide)
 .rw [zn,hA];exact cp (show _ <= 60 by omega) (by decide)
 .rw [zn,e,hA];exact cp (show _ <= 119 by omega) (by decide)
 .rw [zn,e,e,hA];exact cp (show _ <= 119 by omega) (by decide)
 .rw [zn];exact q _ (bN aw) (fun n=>n.upd)
theorem aaz:bT P base T 5 t.vR t.Ax vc (aaN t):=by
 refine bA (ZB T) fun rY=>bA (Ou T) fun IJ=>?_;exists T.Ew.ok Zu,9
 obtain ⟨pl,c,n,ds,z,sp,turn,m,rfl,ck,ay,hm,bl,a5,q⟩:=h;refine ⟨_,(aU (bL (ff iw kO kM j' bG (ab (bq IJ aj T.Pj T.yu.bg T.Qc (ab (U 1) (ab (ig rfl (ja rfl T.iU (ab (U 2) au)) (fU (sc:=br As) rfl (by ac_nf)) (N:=["step","plan","turn"]) (sel:=[none,some 0,some 1]) (gf (M:=vc) (by ac_nf)) (eZ.of (fun _ _ _ _=>(b1 (i:=0) (eC (N:=["step","plan","turn"]) (by ac_nf) rfl))) (fun _ _ _ _=>⟨_,gX,by walk_at "B"⟩) (fun _ _ _ _=>⟨_,(bq rY aj T.zg T.s6.bg T.xI (ab (U 1) (ab (Db cO (U 2) (U 0)) au))),by walk_at "B"⟩))) au))) au)))),?_⟩;nofun;refine ⟨by omega,by omega,?_⟩;rw [qg];refine cZ.range (fun i ys I=>aF H I/\aM I/\∃ qs:List Addr,ys=qs.map V.ref/\qs.length=i/\∀ (j:Nat) (a:Addr),qs[j]? = some a->I a=some (.bV (fZ (ds.map (·.name)) (p8 z sp ds (turn + (j:Nat)))))) (cp hm (by decide)) ⟨aF.refl H,a5,[],rfl,rfl,fun j a e=>by simp at e⟩ ?_ ?_ ?_
 .rintro i ys I _ bh;ac_rfl
  obtain ⟨_,_,qs,rfl,e,_⟩:=bh;subst a7;rw [a8];omega
 .rintro i ys I ak ⟨s1,cq,qs,rfl,e,al⟩ N bl;nofun;refine ⟨Sub.name,pl,c,n,ds,z,sp,turn + (i:Int),rfl,ck.same s1,ay,cq,fun p az s2 cQ aw aD=>?_⟩;refine bl _ _ ⟨s1.trans s2,cQ,qs ++ [p],by rw [eQ];rfl,by rw [eV,e];rfl,fun j a aS=>?_⟩;rcases jV aS with ⟨_,h⟩ | ⟨h,rfl⟩
  .exact s2 _ _ (al j a h)
  .rw [aD,Qf ay,show turn + (i:Int)=turn + (j:Nat) by omega]
 .rintro ys I ⟨s1,cq,qs,rfl,e,al⟩ p aw;refine ⟨turn,ds.map (·.name),iL z sp ds turn m,p,qs,rfl,bl,Md hm,Nk aw e al,cq.upd,fun r az s2 cQ aj aD=>?_⟩;refine ⟨r,rfl,_,aH.of aD,?_,?_⟩
  .exact ND bl hm
  .exact q _ (s1.trans ((bN aw).trans s2)) cQ
noncomputable def wc (t:bt) (aP l:Addr) (bo:List (Key × V)) (off:ah) (vs:List V) (Q:Str->Prop):Prop:=∃ (name:Str) (turn:Int) (a c:Addr) (n:Int) (ds:List aG) (z:Nat) (sp:List bK),vs=[.ref aP,.str (aa "colours"),.ref l]/\off l=some (.lst [.str name,.int turn])/\c8 bo (.inr name)=some (.ref a)/\fH t off a c n ds z sp/\(0 < z/\z <= 240)/\j1 (ds.map (·.name))/\Q (A1 ds fun d=>gP z sp d turn)
noncomputable def tV (t:bt) (aP l:Addr) (bo:List (Key × V)) (off:ah) (vs:List V) (Q:Str->Prop):Prop:=∃ (name:Str) (turn:Int) (a c:Addr) (n:Int) (ds:List aG) (z:Nat) (sp:List bK) (d:aG) (v:Int),vs=[.ref aP,.str (aa "wait"),.ref l]/\off l=some (.lst [.str name,.str d.name,.int turn])/\c8 bo (.inr name)=some (.ref a)/\fH t off a c n ds z sp/\(0 < z/\z <= 240)/\d ∈ ds/\(ee z sp d.name)[(turn % (z:Int)).toNat]? = some v/\Q (num v)
noncomputable def wI (t:bt) (aP l:Addr) (bo:List (Key × V)) (off:ah) (vs:List V) (Q:Str->Prop):Prop:=∃ (name:Str) (a c:Addr) (n:Int) (ds:List aG) (z:Nat) (sp:List bK) (i:Nat) (d:aG) (m:Int),vs=[.ref aP,.str (aa "longest"),.ref l]/\off l=some (.lst [.str name,.str d.name])/\c8 bo (.inr name)=some (.ref a)/\fH t off a c n ds z sp/\z <= 240/\ds[i]? = some d/\(m ∈ ee z sp d.name/\∀ k ∈ ee z sp d.name,k <= m)/\Q (num m ++ bw ++ num ((ee z sp d.name).idxOf m:Nat))
noncomputable def wu (t:bt) (aP l:Addr) (bo:List (Key × V)) (off:ah) (vs:List V) (Q:Str->Prop):Prop:=∃ (name:Str) (turn:Int) (m:Nat) (a c:Addr) (n:Int) (ds:List aG) (z:Nat) (sp:List bK),vs=[.ref aP,.str (aa "draw"),.ref l]/\off l=some (.lst [.str name,.int turn,.int m])/\c8 bo (.inr name)=some (.ref a)/\fH t off a c n ds z sp/\(0 < z/\z <= 240)/\m <= 200/\j1 (ds.map (·.name))/\Q (iA nl (jz turn (ds.map (·.name)) (iL z sp ds turn m)))
noncomputable def QW (t:bt):bF:=fun vs H Q _=>∃ aP a3 db l bR bo off,fG t H aP a3 db bR bo/\Off [a3,db] H off/\aM H/\(wc t aP l bo off vs (fun x=>∀ I,aF H I->aM I->Q (.str x) I)\/tV t aP l bo off vs (fun x=>∀ I,aF H I->aM I->Q (.str x) I)\/wI t aP l bo off vs (fun x=>∀ I,aF H I->aM I->Q (.str x) I)\/wu t aP l bo off vs (fun x=>∀ I,aF H I->aM I->Q (.str x) I))
theorem D9 {s:Str} (h:ir s):s.length <= 8:=by
 have e:∀ c,c < 4->(m7 c).length <= 8:=by ac_nf
 have:=e (ph s) (LJ s);rwa [show m7 (ph s)=s from h] at this
theorem Zk:bT P base T 6 t.ri t.ye Hd (QW t):=by
 refine bA (OI T) fun B2=>bA (ZB T) fun rY=>bA (afa T) fun afO=>bA (Zj T) fun aae=>bA (abe T) fun ab4=>bA (aaz T) fun acr=>?_;refine T.O2.ok JL (fun vs H Q E h=>?_) (fun _ _ _ s H vs Q E aj h=>?_)
 .obtain ⟨aP,a3,db,l,bR,bo,off,_,_,_,⟨_,_,_,_,_,_,_,_,rfl,_⟩ | ⟨_,_,_,_,_,_,_,_,_,_,rfl,_⟩ | ⟨_,_,_,_,_,_,_,_,_,_,rfl,_⟩ | ⟨_,_,_,_,_,_,_,_,_,rfl,_⟩⟩:=h <;> rfl
 obtain ⟨aP,a3,db,l,bR,bo,off,ka,aX,a5,h⟩:=h;refine ⟨_,(aE (bI (i:=3) JL.aA (bq B2 aj T.Lu T.im.bg T.O_ (ab (c0 (U 0) rfl) (ab (cx dm (U 2) aJ) au))))
   (aE (cI (cy dE (U 1) bG (cc _)) (aU (bL (bq afO aj T.R3 T.Hf.bg T.VZ (ab (bq rY aj T.zg T.s6.bg T.xI (ab (U 3) (ab (cx dm (U 2) aJ) au))) au)))) cM)
   (aE (cI (cy dE (U 1) bG (cc _)) (aU (bL (bq aae aj T.Sr T.B1.bg T.ab3 (ab (U 3) (ab (cx dm (U 2) aJ) (ab (cx dm (U 2) aJ) au)))))) cM)
   (aE (cI (cy dE (U 1) bG (cc _)) (aU (bL (bq ab4 aj T.afb T.Ge.bg T.RS (ab (U 3) (ab (cx dm (U 2) aJ) au))))) cM)
   (aU (bL (bq acr aj T.SN T.Ew.bg T.ZZ (ab (U 3) (ab (cx dm (U 2) aJ) (ab (cx dm (U 2) aJ) au)))))))))),?_⟩
 obtain ⟨⟨av,dB,eo⟩,hH,e8,ne⟩:=id ka;have a9:∀ {name:Str} {a:Addr},c8 bo (.inr name)=some (.ref a)->Ev H db (.str name) (some (.ref a)):=fun {name a} aK=>by rw [<- aK];exact Ev.k (k:=.inr name) e8
 rcases h with ⟨name,turn,a,c,n,ds,z,sp,rfl,aB,aK,ck,ay,bl,q⟩ | ⟨name,turn,a,c,n,ds,z,sp,d,v,rfl,aB,aK,ck,ay,hd,bE,q⟩ | ⟨name,a,c,n,ds,z,sp,i,d,m,rfl,aB,aK,ck,ay,hd,hm,q⟩ | ⟨name,turn,m,a,c,n,ds,z,sp,rfl,aB,aK,ck,ay,hm,bl,q⟩
 .nofun;refine ⟨_,xg T eo,_,aH.of (aX.bf _ _ aB),_,rfl,db,name,_,rfl,a9 aK,?_⟩;refine cG true (fun Q aN=>?_) (fun _=>?_) (fun aq=>nomatch aq)
  .nofun;exact aN
  .nofun;refine ⟨_,aH.of (aX.bf _ _ aB),_,rfl,a,c,n,ds,z,sp,turn,rfl,ck.same aX.bf,ay.1,a5,fun p H1 s1 cq aw ax=>?_⟩;refine ⟨p,ds,_,rfl,ax,by have:=bl.ln;rw [a8] at this;omega,fun x ao=>⟨(bl.al _ (zS ao)).1.2,D9 (z2 ay.1)⟩,cq,fun az s2 cQ=>q az (fun b u e=>s2 b u (cV e aw) (s1 b u e)) cQ⟩
 .nofun;refine ⟨_,xg T eo,_,aH.of (aX.bf _ _ aB),_,rfl,db,name,_,rfl,a9 aK,?_⟩;refine cG false (fun Q aN=>?_) (fun aq=>nomatch aq) (fun _=>?_)
  .nofun;exact aN
  rw [eH];dsimp only;refine cG true (fun Q aN=>?_) (fun _=>?_) (fun aq=>nomatch aq)
  .nofun;exact aN
  .nofun;exact ⟨_,aH.of (aX.bf _ _ aB),_,rfl,_,aH.of (aX.bf _ _ aB),_,rfl,a,c,n,ds,z,sp,d,turn,v,rfl,ck.same aX.bf,ay,hd,bE,q _ (aF.refl _) a5⟩
 .nofun;refine ⟨_,xg T eo,_,aH.of (aX.bf _ _ aB),_,rfl,db,name,_,rfl,a9 aK,?_⟩;refine cG false (fun Q aN=>?_) (fun aq=>nomatch aq) (fun _=>?_)
  .nofun;exact aN
  rw [eH];dsimp only;refine cG false (fun Q aN=>?_) (fun aq=>nomatch aq) (fun _=>?_)
  .nofun;exact aN
  rw [eH];dsimp only;refine cG true (fun Q aN=>?_) (fun _=>?_) (fun aq=>nomatch aq)
  .nofun;exact aN
  .nofun;exact ⟨_,aH.of (aX.bf _ _ aB),_,rfl,a,c,n,ds,z,sp,i,d,m,rfl,ck.same aX.bf,ay,hd,hm,fun I s1 cq=>q I s1 (cq a5)⟩
 .nofun;refine ⟨_,xg T eo,_,aH.of (aX.bf _ _ aB),_,rfl,db,name,_,rfl,a9 aK,?_⟩;refine cG false (fun Q aN=>?_) (fun aq=>nomatch aq) (fun _=>?_)
  .nofun;exact aN
  rw [eH];dsimp only;refine cG false (fun Q aN=>?_) (fun aq=>nomatch aq) (fun _=>?_)
  .nofun;exact aN
  rw [eH];dsimp only;refine cG false (fun Q aN=>?_) (fun aq=>nomatch aq) (fun _=>?_)
  .nofun;exact aN
  .nofun;exact ⟨_,aH.of (aX.bf _ _ aB),_,rfl,_,aH.of (aX.bf _ _ aB),_,rfl,a,c,n,ds,z,sp,turn,m,rfl,ck.same aX.bf,ay.1,hm,bl,a5,q⟩
structure nA (row told text first:Str) (ps ws:List Str) (zs:List V):Prop where
 c9:DO row told text (decide (first ∈ kP))
 eJ:row.length <= 20000
 e3:told.length <= 900
 no:(10:Nat) ∉ told.cps.toList
 rows:ht told=[first :: ws]
 ad':(first,ps) ∈ h6
 fits:mC ps ws zs
noncomputable def Bd:List Str:=[aa "colours",aa "wait",aa "longest",aa "draw"]
noncomputable def ado (t:bt) (aP a3 db:Addr) (bR bo:List (Key × V)) (off:ah) (first text:Str) (zs:List V) (Q:ah->Prop):Prop:=∀ l gN,aF off gN->gN l=some (.lst zs)->LU t aP a3 db l bR bo gN [.ref aP,.str first,.ref l,.str text] Q\/NG t aP a3 db l bR bo gN [.ref aP,.str first,.ref l,.str text] Q
noncomputable def tH (t:bt) (aP:Addr) (bo:List (Key × V)) (off:ah) (first:Str) (zs:List V) (Q:Str->Prop):Prop:=∀ l gN,aF off gN->gN l=some (.lst zs)->wc t aP l bo gN [.ref aP,.str first,.ref l] Q\/tV t aP l bo gN [.ref aP,.str first,.ref l] Q\/wI t aP l bo gN [.ref aP,.str first,.ref l] Q\/wu t aP l bo gN [.ref aP,.str first,.ref l] Q
noncomputable def zN (t:bt):bF:=fun vs H Q _=>∃ aP a3 db bR bo off row told text first ps ws zs,vs=[.ref aP,.str row]/\fG t H aP a3 db bR bo/\Off [a3,db] H off/\aM H/\nA row told text first ps ws zs /\
 ((first ∈ kP/\ado t aP a3 db bR bo off first text zs (Q (.str (aa "ok"))))\/(first ∈ Bd/\tH t aP bo off first zs (fun x=>∀ I,aF H I->aM I->Q (.str x) I)))
theorem Bs {x:Str} (h:x ∈ Bd):x ∉ kP/\x ∉ [aa "turn",aa "worst"]/\x ≠ aa "shortest" := by
 have e:∀ y ∈ Bd,y ∉ kP/\y ∉ [aa "turn",aa "worst"]/\y ≠ aa "shortest" := by ac_nf
 exact e x h
theorem wc.mono {t:bt} {aP l:Addr} {bo:List (Key × V)} {off:ah} {vs:List V} {Q fY:Str->Prop} (h:wc t aP l bo off vs Q) (i:∀ x,Q x->fY x):wc t aP l bo off vs fY:=by
 obtain ⟨name,turn,a,c,n,ds,z,sp,ag,ar,bc,cb,ej,qp,q⟩:=h;exact ⟨name,turn,a,c,n,ds,z,sp,ag,ar,bc,cb,ej,qp,i _ q⟩
theorem tV.mono {t:bt} {aP l:Addr} {bo:List (Key × V)} {off:ah} {vs:List V} {Q fY:Str->Prop} (h:tV t aP l bo off vs Q) (i:∀ x,Q x->fY x):tV t aP l bo off vs fY:=by
 obtain ⟨name,turn,a,c,n,ds,z,sp,d,v,ag,ar,bc,cb,ej,qp,u0,q⟩:=h;exact ⟨name,turn,a,c,n,ds,z,sp,d,v,ag,ar,bc,cb,ej,qp,u0,i _ q⟩
theorem wI.mono {t:bt} {aP l:Addr} {bo:List (Key × V)} {off:ah} {vs:List V} {Q fY:Str->Prop} (h:wI t aP l bo off vs Q) (i:∀ x,Q x->fY x):wI t aP l bo off vs fY:=by
 obtain ⟨name,a,c,n,ds,z,sp,j,d,m,ag,ar,bc,cb,ej,qp,u0,q⟩:=h;exact ⟨name,a,c,n,ds,z,sp,j,d,m,ag,ar,bc,cb,ej,qp,u0,i _ q⟩
theorem wu.mono {t:bt} {aP l:Addr} {bo:List (Key × V)} {off:ah} {vs:List V} {Q fY:Str->Prop} (h:wu t aP l bo off vs Q) (i:∀ x,Q x->fY x):wu t aP l bo off vs fY:=by
 obtain ⟨name,turn,m,a,c,n,ds,z,sp,ag,ar,bc,cb,ej,qp,u0,q⟩:=h;exact ⟨name,turn,m,a,c,n,ds,z,sp,ag,ar,bc,cb,ej,qp,u0,i _ q⟩
theorem Kg:bT P base T 9 t.pM t.vA zi (zN t):=by
 refine bA (TC T) fun YI=>bA (Vb T) fun acJ=>bA (Zk T) fun Wn=>?_;exists T.Ni.ok Tl,9
 obtain ⟨aP,a3,db,bR,bo,off,row,told,text,first,ps,ws,zs,rfl,ka,aX,a5,R,h⟩:=h;refine ⟨_,(aE (l6 (bq YI aj T.abi T.Hg.bg T.afd (ab (U 1) au)) (h8 (K:=K) (n:=3) rfl rfl (dp (b1 (i:=2) Tl.aA) (dp (b1 (i:=3) Tl.aA) (dp (b1 (i:=4) Tl.aA) hV)))))
   (aE (cI (cy rD (U 2) (gD (ab bG (ab bG (ab bG au)))) (by with_unfolding_all rfl)) (aE (d_ (dd (U 0) T.h9 T.Xl acJ aj T.ut .nil b0 (ab (U 2) (ab (U 3) (ab (U 4) au)))))
   (aU (bL bG))) cM)
   (aE (cI (cy rD (U 2) (gD (ab bG (ab bG au))) (by with_unfolding_all rfl)) (aU iE) cM)
   (aE (cI (cy dE (U 2) bG (cc _)) (aU iE) cM)
   (aU (bL (dd (U 0) T.h9 T.Uq Wn aj T.Tm .nil b0 (ab (U 2) (ab (U 3) au))))))))),?_⟩
 nofun;refine ⟨row,told,text,first,ps,ws,zs,rfl,R.c9,R.eJ,R.e3,R.no,R.rows,R.ad',R.fits,a5,fun p l H1 s1 cq cC vr ln=>?_⟩;nofun;refine ⟨_,cU.of cC,rfl,_,_,rfl,_,_,rfl,_,_,rfl,rfl,?_⟩;have keep:∀ {az:ah},aF H1 az->fG t az aP a3 db bR bo/\Off [a3,db] az (g8 [a3,db] az)/\g8 [a3,db] az l=some (.lst zs)/\aF off (g8 [a3,db] az)/\∃ av dB,az aP=some (.ins t.e0 av (qq a3 db dB)):=fun {az} s2=>by
  have j4:=(ka.same s1).same s2;have oj:=(aX.same s1).same s2;refine ⟨j4,⟨v8,fun a aS=>v3 aS,oj.aP⟩,?_,oj.hS,j4.b6⟩;rw [ci (fun hm=>?_)]
  .exact s2 _ _ vr
  .obtain ⟨kvs,e⟩:=oj.aP l hm;rw [s2 _ _ vr] at e;cases e
 rcases h with ⟨hf,h⟩ | ⟨hf,h⟩
 .refine jA (fun b az=>b=true/\aF H1 az/\aM az) (fun fY aN=>?_) (fun az r=>?_) (fun az r=>nomatch r.1)
  .nofun;refine ⟨by decide,fun p aw=>⟨_,.inl (aH.of aR),rfl,rfl,?_⟩⟩;rw [show mM (V.str first) [V.str (aa "crossing"),V.str (aa "plan"),V.str (aa "stages")]=decide (first ∈ kP) from rW first kP,decide_eq_true hf];exact aN _ _ ⟨rfl,bN aw,cq.upd⟩
  .obtain ⟨_,s2,cQ⟩:=r;obtain ⟨j4,oj,eu,Gp,av,dB,eo⟩:=keep s2;nofun;exact ⟨_,_,eo,jK ul (kC ..) (by ac_nf),aP,a3,db,l,bR,bo,_,j4,oj,cQ,h l _ Gp eu⟩
 .refine jA (fun b az=>b=false/\aF H1 az/\aM az) (fun fY aN=>?_) (fun az r=>nomatch r.1) (fun az r=>?_)
  .nofun;refine ⟨by decide,fun p aw=>⟨_,.inl (aH.of aR),rfl,rfl,?_⟩⟩;rw [show mM (V.str first) [V.str (aa "crossing"),V.str (aa "plan"),V.str (aa "stages")]=decide (first ∈ kP) from rW first kP,decide_eq_false (Bs hf).1];exact aN _ _ ⟨rfl,bN aw,cq.upd⟩
  obtain ⟨_,s2,cQ⟩:=r;rw [eH];dsimp only;refine jA (fun b cj=>b=false/\aF H1 cj/\aM cj) (fun fY aN=>?_) (fun cj r=>nomatch r.1) (fun cj r=>?_)
  .nofun;refine ⟨by decide,fun p aw=>⟨_,.inl (aH.of aR),rfl,rfl,?_⟩⟩;rw [show mM (V.str first) [V.str (aa "turn"),V.str (aa "worst")]=decide (first ∈ [aa "turn",aa "worst"]) from rW first [aa "turn",aa "worst"],decide_eq_false (Bs hf).2.1];exact aN _ _ ⟨rfl,s2.trans (bN aw),cQ.upd⟩
  obtain ⟨_,s3,h4⟩:=r;rw [eH];dsimp only;refine cG false (fun Q aN=>?_) (fun aq=>nomatch aq) (fun _=>?_)
  .nofun;rw [decide_eq_false (Bs hf).2.2];exact aN
  .obtain ⟨j4,oj,eu,Gp,av,dB,eo⟩:=keep s3;nofun;have mo:∀ x,(∀ I,aF H I->aM I->Q (.str x) I)->∀ I,aF cj I->aM I->Q (.str x) I:=fun x a4 I s n=>a4 I ((s1.trans s3).trans s) n
   refine ⟨_,_,eo,jK ul (kC ..) (by ac_nf),aP,a3,db,l,bR,bo,_,j4,oj,h4,?_⟩;rcases h l _ Gp eu with z | z | z | z
   .exact .inl (z.mono mo)
   .exact .inr (.inl (z.mono mo))
   .exact .inr (.inr (.inl (z.mono mo)))
   .exact .inr (.inr (.inr (z.mono mo)))
noncomputable def c4 (rs:List (aG × Int)) (j:Nat):Int:=((rs.take j).map fun p=>p.2 + p.1.off + 3).sum
noncomputable def f6 (rs:List (aG × Int)) (z:Nat) (b:Int):List bK:=rs.mapIdx fun j p=>⟨p.1.name,(c4 rs j + b) % (z:Int),p.2⟩
structure gF (n:Int) (ds:List aG) (rs:List (aG × Int)):Prop where
 ok:∀ d ∈ ds,m9 n d/\d.least <= 4
 aA:(ds.map (·.name)).Nodup
 ln:ds.length <= 4
 len:rs.length=ds.length
 mem:∀ p ∈ rs,p.1 ∈ ds/\p.1.least <= p.2/\p.2 <= p.1.least + 3
 all:∀ d ∈ ds,∃ p ∈ rs,p.1=d
 un:∀ (i j:Nat) (p q:aG × Int),rs[i]? = some p->rs[j]? = some q->p.1.name=q.1.name->i=j
theorem At {rs:List (aG × Int)} {j:Nat} {p:aG × Int} (h:rs[j]? = some p):c4 rs (j + 1)=c4 rs j + (p.2 + p.1.off + 3):=by
 unfold c4;rw [k1 h,eQ,List.sum_append];simp
theorem gF.mX {n:Int} {ds:List aG} {rs:List (aG × Int)} (h:gF n ds rs) {j:Nat} {p:aG × Int} (aw:rs[j]? = some p):m9 n p.1/\1 <= p.2/\p.2 <= 7/\p.1.least <= p.2:=by
 have hm:=h.mem p (c6 aw);have aX:=h.ok _ hm.1;have:=aX.1.le;exact ⟨aX.1,by omega,by omega,hm.2.1⟩
theorem gF.pG {n:Int} {ds:List aG} {rs:List (aG × Int)} (h:gF n ds rs):∀ {j:Nat},j <= rs.length->0 <= c4 rs j/\c4 rs j <= 40 * j
 | 0,_=>by unfold c4;simp
 | j + 1,bb=>by
  have aw:rs[j]? = some rs[j]:=cv (by omega);have b2:=h.pG (j:=j) (by omega);have ak:=h.mX aw;have:=ak.1.of;rw [At aw];omega
theorem gF.oH {n:Int} {ds:List aG} {rs:List (aG × Int)} (h:gF n ds rs) {i:Nat} {p:aG × Int} (aw:rs[i]? = some p):∀ {j:Nat},i < j->j <= rs.length->c4 rs i + (p.2 + p.1.off + 3) <= c4 rs j
 | 0,Eo,_=>absurd Eo (by omega)
 | j + 1,Eo,bb=>by
  by_cases c:i=j
  .subst c;rw [At aw];exact OW _
  .have a4:rs[j]? = some rs[j]:=cv (by omega);have b2:=h.oH aw (j:=j) (by omega) (by omega);have ak:=h.mX a4;have:=ak.1.of;rw [At a4];omega
theorem sz {rs:List (aG × Int)} {z:Nat} {b:Int} {i:Nat} {s:bK} (h:(f6 rs z b)[i]? = some s):∃ p,rs[i]? = some p/\s=⟨p.1.name,(c4 rs i + b) % (z:Int),p.2⟩:=by
 unfold f6 at h;rw [NH] at h;cases e:rs[i]? with
 | none=>rw [e] at h;cases h
 | some p=>rw [e] at h;exact ⟨p,rfl,(dZ h).symm⟩
theorem Am {rs:List (aG × Int)} {z:Nat} {b:Int} {i:Nat} {p:aG × Int} (h:rs[i]? = some p):(f6 rs z b)[i]? = some ⟨p.1.name,(c4 rs i + b) % (z:Int),p.2⟩:=by
 unfold f6;rw [NH,h];rfl
section
variable {n:Int} {ds:List aG} {rs:List (aG × Int)} {z:Nat} {b:Int}
theorem gF.zw (h:gF n ds rs):∀ (i j:Nat) (s e:bK),(f6 rs z b)[i]? = some s->(f6 rs z b)[j]? = some e->s.name=e.name->i=j:=fun i j s e ag ar he=>by
 obtain ⟨p,aw,rfl⟩:=sz ag;obtain ⟨q,a4,rfl⟩:=sz ar;exact h.un i j p q aw a4 he
theorem abj (d:aG) (h:0 <= d.off):fj d + eW d <= d.off + 3:=by
 unfold fj eW;split <;> omega
theorem acX {ds:List aG} (aA:(ds.map (·.name)).Nodup) {d:aG} (hd:d ∈ ds):j_ ds d.name=some d:=by
 unfold j_;cases e:ds.find? fun x=>decide (x.name=d.name) with
 | none=>
  have:=n'.mp e d hd;simp at this
 | some x=>
  have ag:x.name=d.name:=by simpa using VQ e
  obtain ⟨i,ak⟩:=iX (abv e);obtain ⟨j,bb⟩:=iX hd;have:=uy aA ak bb ag;subst this;rw [ak] at bb;exact bb
theorem gF.SD (h:gF n ds rs) {p:aG × Int} (aw:p ∈ rs):j_ ds p.1.name=some p.1:=acX h.aA (h.mem p aw).1
theorem gF.short (h:gF n ds rs) (ay:c4 rs rs.length <= z):n4 ds z (f6 rs z b)=none:=by
 refine YP h.zw fun s aC=>?_
 obtain ⟨i,ak⟩:=iX aC;obtain ⟨p,aw,rfl⟩:=sz ak;have j9:=h.mX aw;have aB:=(cW.mp aw).1;have hm:=h.oH aw (j:=rs.length) aB (bW _);have h0:=(h.pG (j:=i) (by omega)).1;have:=abj p.1 j9.1.of.1;exact ⟨p.1,h.SD (c6 aw),j9.2.2.2,by dsimp only;omega⟩
theorem gF.never (h:gF n ds rs):n0 ds (f6 rs z b)=none:=by
 refine YU fun d hd=>?_
 obtain ⟨p,aw,rfl⟩:=h.all d hd;obtain ⟨i,ak⟩:=iX aw;exact ⟨_,c6 (Am ak),rfl⟩
theorem K_ {t b a m:Int} {z:Int} (ay:0 < z) (aS:0 <= a) (ahC:a + m <= z) (h:(t - (a + b) % z) % z < m):a <= (t - b) % z/\(t - b) % z < a + m:=by
 have e:(t - (a + b) % z) % z=((t - b) % z - a) % z:=by
  rw [uc,KH,<- uc,uc ((t - b) % z),KH,<- uc];congr 1;omega
 rw [e] at h;have hm:=gQ ((t - b) % z - a) (show z ≠ 0 by omega);have Aa:0 < m:=by omega
 have ag:=gQ (t - b) (show z ≠ 0 by omega);have ar:=h1 (t - b) ay;by_cases c:a <= (t - b) % z
 .rw [oh (by omega) (by omega)] at h;omega
 .rw [show (t - b) % z - a=((t - b) % z - a + z) + z * (-1) by omega,DG,oh (by omega) (by omega)] at h;omega
theorem gF.afC (h:gF n ds rs) (mO:0 < z) (ay:c4 rs rs.length <= z):oL n z (f6 rs z b) ds=none:=by
 refine Z' mO fun d hd=>?_
 obtain ⟨p,aw,rfl⟩:=h.all d hd;obtain ⟨i,ak⟩:=iX aw;have j9:=h.mX ak;have aB:=(cW.mp ak).1;have hm:=h.oH ak (j:=rs.length) aB (bW _);have h0:=(h.pG (j:=i) (by omega)).1;have ag5:=j9.1.of;refine ⟨⟨p.1.name,(c4 rs i + b) % (z:Int),p.2⟩,OA h.zw (Am ak),j9.2.1,by dsimp only;omega,fun e he dW _ aO DH t j c_ bb ag ar=>?_⟩;obtain ⟨q,a4,rfl⟩:=h.all e he;obtain ⟨k,aI⟩:=iX a4;have aD:=OA (h.zw (z:=z) (b:=b)) (Am aI);rw [DH] at aD;obtain ⟨cu,gr⟩:=EE (r0 aD).1;have nF:=h.mX aI;have nh:=(cW.mp aI).1;have aiX:=h.oH aI (j:=rs.length) nh (bW _);have ZU:=(h.pG (j:=k) (by omega)).1;have aiP:=nF.1.of;have a9:ju p.1 q.1 <= p.1.off:=by unfold ju;have:=nF.1.Bo;split <;> omega
 dsimp only at cu gr ar bb;rw [cu,gr] at ag;have a1:=K_ (b:=b) (by omega) ZU (by omega) ag;have a2:=K_ (b:=b) (by omega) h0 (by omega) ar;have afF:i ≠ k:=fun z=>dW (by subst z;rw [ak] at aI;cases aI;rfl)
 have mono:c4 rs i + (p.2 + p.1.off + 3) <= c4 rs k\/c4 rs k + (q.2 + q.1.off + 3) <= c4 rs i:=by
  rcases Nat.lt_or_gt_of_ne afF with c | c
  .exact .inl (h.oH ak c (by omega))
  .exact .inr (h.oH aI c (by omega))
 have bO:=gQ ((t:Int) - b) (show (z:Int) ≠ 0 by omega);have dn:=h1 ((t:Int) - b) (show (0:Int) < z by omega);have hj:((t:Int) - j - b) % z=(((t:Int) - b) % z - j) % z:=by
  rw [uc (((t:Int) - b) % z),KH,<- uc];congr 1;omega
 rw [hj] at a2;by_cases c:(j:Int) <= ((t:Int) - b) % z
 .rw [oh (by omega) (by omega)] at a2;omega
 .rw [show ((t:Int) - b) % z - j=(((t:Int) - b) % z - j + z) + z * (-1) by omega,DG,oh (by omega) (by omega)] at a2;omega
end
noncomputable def LC (K:a') (a:Addr) (ns:List Int):bF:=fun vs H Q _=>∃ k:Int,vs=[.ref a,.int k]/\Sc K a ns H/\(0 <= k/\k <= 2)/\∀ x,made x dO 8=true->Q (.str x) H
noncomputable def adu (K:a') (a:Addr) (ns:List Int):bF:=fun vs H Q _=>∃ k:Int,vs=[.ref a,.int k]/\Sc K a ns H/\(0 <= k/\k <= 2)/\∀ x I,aF H I->made x dO 8=true->Q (.str x) I
noncomputable def Vy (K:a') (a:Addr) (ns:List Int):bF:=fun vs H Q _=>∃ k:Int,vs=[.ref a,.int k]/\Sc K a ns H/\(0 <= k/\k <= 1000)/\∀ v:Int,0 <= v->v < 10 ^ 59->Q (.int v) H
theorem adx (a:Addr) (ns:List Int) (fQ:ns.length <= 63):bT P base T 2 t.tb t.wQ o7 (LC K a ns):=by
 refine bA (ot T a ns fQ) fun dA=>?_;refine cg.forget (sp:=adu K a ns) ?_ fun vs H Q E h=>?_
 .exists T.ur.ok HE,9
  obtain ⟨k,rfl,S,aI,q⟩:=h;have hI:(aa "abcdefghijklmnopqrstuvwxyz").length=26:=by ac_nf
  refine ⟨_,(aE (rA (i:=2) HE.aA rfl (nU rfl) bG)
   (aE (bI (i:=3) HE.aA (Db cO aJ (bq dA aj T.el T.d5.bg T.ei (ab (U 0) (ab (Db cO aJ (Db hW aJ (U 1))) (ab aJ au))))))
   (aU (bL (ff iw kO kM j' bG (ab (ig rfl (ja rfl T.iU (ab (U 3) au)) (fU (sc:=br xU) rfl (by ac_nf)) (N:=["_law_n","_law_letters","_law_script","_law_k"]) (sel:=[none,some 2,some 0,some 1]) (gf (M:=["_law_script","_law_k","_law_letters","_law_size"]) (by ac_nf)) (eZ.of (fun _ _ _ _=>(b1 (i:=0) (eC (N:=["_law_n","_law_letters","_law_script","_law_k"]) (by ac_nf) rfl))) (fun _ _ _ _=>⟨_,gX,by walk_at "B"⟩) (fun _ _ _ _=>⟨_,(cx vK (U 1) (bq dA aj T.el T.d5.bg T.ei (ab (U 2) (ab (Db cO (Db cO aJ (Db hW aJ (U 3))) (U 0)) (ab aJ au))))),by walk_at "B"⟩))) au)))))),?_⟩
  obtain ⟨z,fM,iK⟩:∃ z:Nat,1 + cn ns (509 + 10 * k) 8=(z:Nat)/\(1 <= z/\z <= 8):=by
   have bY:=fe ns (509 + 10 * k) (m:=8) (by decide);have b_:=fl ns (509 + 10 * k) (m:=8) (by decide);exact ⟨(1 + cn ns (509 + 10 * k) 8).toNat,by omega,by omega⟩
  (nofun; repeat (dsimp only [ep];nofun));rw [fM];refine ⟨.inl (by decide),S,by omega,by omega,by decide,by omega,by omega,?_⟩;rw [qg];refine cZ.uQ (n:=z) (fun i=>V.str (ea (97 + (cn ns (500 + 10 * k + (i:Int)) 26).toNat))) (cp iK.2 (by decide)) (fun i N ak bl=>?_) (fun p aw=>?_)
  .have bY:=fe ns (500 + 10 * k + (i:Int)) (m:=26) (by decide);have b_:=fl ns (500 + 10 * k + (i:Int)) (m:=26) (by decide);obtain ⟨c,aq,rfl⟩:=D7 bY b_;(nofun; repeat (dsimp only [ep];nofun));exact ⟨Sub.name,.inl (by decide),S,by omega,by omega,by decide,by rw [hI];decide,_,aq,bl⟩
  .have e:(dG z).map (fun i:Nat=>V.str (ea (97 + (cn ns (500 + 10 * k + (i:Int)) 26).toNat)))=ba ((dG z).map fun i:Nat=>ea (97 + (cn ns (500 + 10 * k + (i:Int)) 26).toNat)):=by unfold ba;rw [lG];rfl
   have bb:=Cn (fun i:Nat=>97 + (cn ns (500 + 10 * k + (i:Int)) 26).toNat) z;refine ⟨p,rfl,(dG z).map fun i:Nat=>ea (97 + (cn ns (500 + 10 * k + (i:Int)) 26).toNat),by rw [<- e];exact aH.of aR,?_,?_⟩
   .have ag:((dG z).map fun i:Nat=>ea (97 + (cn ns (500 + 10 * k + (i:Int)) 26).toNat)).length=z:=by rw [a8,jN]
    have ar:=FB (B:=1) (l:=(dG z).map fun i:Nat=>ea (97 + (cn ns (500 + 10 * k + (i:Int)) 26).toNat)) fun y bj=>by
     obtain ⟨i,_,rfl⟩:=dN.mp bj;exact bW _
    rw [ag] at ar ⊢;have bc:(aa "").length=0:=by ac_nf
    rw [bc];omega
   .refine q _ _ (bN aw) (Ig ?_ ?_ fun c aq=>?_)
    .rw [<- ls];show 1 <= (iA _ _).cps.toList.length;rw [bb,a8,jN];omega
    .rw [<- ls];show (iA _ _).cps.toList.length <= 8;rw [bb,a8,jN];omega
    .rw [bb] at aq;obtain ⟨i,_,rfl⟩:=dN.mp aq;have bY:=fe ns (500 + 10 * k + (i:Int)) (m:=26) (by decide);have b_:=fl ns (500 + 10 * k + (i:Int)) (m:=26) (by decide);omega
 .obtain ⟨k,e,S,aI,q⟩:=h;exact ⟨S.a5,k,e,S,aI,fun x I bf ao=>⟨bf,q x ao⟩⟩
theorem Rd (a:Addr) (ns:List Int) (fQ:ns.length <= 63):bT P base T 2 t.tw t.yV o7 (Vy K a ns):=by
 refine bA (ot T a ns fQ) fun dA=>?_;exists T.E4.ok Mz,9
 obtain ⟨k,rfl,S,aI,q⟩:=h;refine ⟨_,(aE (bI (i:=2) Mz.aA (wH (cy zL (hZ jx rfl T.jg i_ (ab (U 0) au)) aJ (cc _)) (cx dm (U 0) (Db gz (U 1) (hZ jx rfl T.jg i_ (ab (U 0) au)))) aJ))
   (aU (bL (wH (cy dE (bq dA aj T.el T.d5.bg T.ei (ab (U 0) (ab (U 1) (ab aJ au)))) aJ (cc _)) (Db gz (U 2) (Db UH aJ aJ)) (bq dA aj T.el T.d5.bg T.ei (ab (U 0) (ab (Db cO (U 1) aJ) (ab aJ au)))))))),?_⟩
 (nofun; repeat (dsimp only [ep];nofun));have aw:(0:Int) < 10 ^ PB 59:=by decide
 have fin:∀ i:Int,0 <= i % 10 ^ PB 59/\i % 10 ^ PB 59 < 10 ^ 59:=fun i=>⟨gQ _ (by decide),h1 _ aw⟩
 have bY:=fe ns (k + 1) (m:=300) (by decide);have b_:=fl ns (k + 1) (m:=300) (by decide);have a4:=q (cn ns (k + 1) 300) bY (Int.lt_trans b_ (by decide));have k9:Qa 10 59:=⟨by decide,by decide,by decide⟩;refine ⟨_,.inl S.seq,?_⟩;rw [a8];by_cases c:(0:Int) < (ns.length:Int)
 .rw [if_pos (decide_eq_true c)];have jw:0 <= k % (ns.length:Int)/\k % (ns.length:Int) < (ns.length:Int):=⟨gQ _ (by omega),h1 _ c⟩;refine ⟨_,.inl S.seq,by rw [a8];exact c,_,S.seq,?_⟩;rw [a8];have bb:(k % (ns.length:Int)).toNat < ns.length:=by omega
  refine ⟨.int ns[(k % (ns.length:Int)).toNat],?_,S,by omega,by omega,by decide,?_⟩
  .have e:=dh (xs:=ns.map V.int) (j:=(k % (ns.length:Int)).toNat) (v:=.int ns[(k % (ns.length:Int)).toNat]) (by rw [dS,cv bb] <;> rfl);rwa [l4 jw.1] at e
  .split
   .exact ⟨k9,_,rfl,aw,q _ (fin _).1 (fin _).2⟩
   .exact ⟨S,by omega,by omega,by decide,a4⟩
 .rw [if_neg (by simpa using c)];refine ⟨S,by omega,by omega,by decide,?_⟩;split
  .exact ⟨k9,aw,q _ (fin _).1 (fin _).2⟩
  .exact ⟨S,by omega,by omega,by decide,a4⟩
structure Ar (ds:List aG) (f m:Nat) (rs:List (aG × Int)):Prop where
 at_:∀ (j:Nat) (p:aG × Int),rs[j]? = some p->ds[(f + j) % m]? = some p.1/\p.1.least <= p.2/\p.2 <= p.1.least + 3
theorem ae5 {m f i j:Nat} (ak:i < m) (bb:j < m) (hf:f < m) (h:(f + i) % m=(f + j) % m):i=j:=by
 have e:∀ k,k < m->(f + k) % m=if f + k < m then f + k else f + k - m:=fun k aI=>by
  split
  .rw [xO (by assumption)]
  .rw [Nat.mod_eq_sub_mod (by omega),xO (by omega)]
 rw [e i ak,e j bb] at h;split at h <;> split at h <;> omega
theorem SA {m f i:Nat} (ak:i < m) (hf:f < m):∃ j,j < m/\(f + j) % m=i:=by
 by_cases c:f <= i
 .exact ⟨i - f,by omega,by rw [show f + (i - f)=i by omega,xO ak]⟩
 .exact ⟨i + m - f,by omega,by rw [show f + (i + m - f)=i + m by omega,ada,xO ak]⟩
theorem Ar.ok {n:Int} {ds:List aG} {f m:Nat} {rs:List (aG × Int)} (h:Ar ds f m rs) (D:md n ds) (hm:ds.length=m) (cb:m <= 4) (hf:f < m) (aB:rs.length=m):gF n ds rs:=by
 refine ⟨D.al,D.aA,by omega,by omega,fun p aw=>?_,fun d hd=>?_,fun i j p q ag ar e=>?_⟩
 .obtain ⟨j,bb⟩:=iX aw;have:=h.at_ j p bb;exact ⟨c6 this.1,this.2⟩
 .obtain ⟨i,ak⟩:=iX hd;obtain ⟨j,bb,e⟩:=SA (i:=i) (m:=m) (f:=f) (by have:=(cW.mp ak).1;omega) hf;have aw:rs[j]? = some rs[j]:=cv (by omega);have:=(h.at_ j _ aw).1;rw [e,ak] at this;exact ⟨_,c6 aw,(dZ this).symm⟩
 .have a1:=(h.at_ i p ag).1;have a2:=(h.at_ j q ar).1;have:=uy D.aA a1 a2 e;exact ae5 (by have:=(cW.mp ag).1;omega) (by have:=(cW.mp ar).1;omega) hf this
theorem gF.good {n:Int} {ds:List aG} {rs:List (aG × Int)} {z:Nat} {b:Int} (h:gF n ds rs) (ay:0 < z) (nV:c4 rs rs.length <= z):mx z ds (f6 rs z b):=by
 have aB:(f6 rs z b).length=rs.length:=by unfold f6;rw [xF]
 refine ⟨by rw [aB,h.len];have:=h.ln;omega,fun s aC=>?_,fun i s aC=>?_,fun s aC=>?_⟩
 .obtain ⟨i,ak⟩:=iX aC;obtain ⟨p,aw,rfl⟩:=sz ak;exact (h.mX aw).1.nm
 .obtain ⟨p,aw,rfl⟩:=sz aC;unfold mJ;refine vF.mpr ⟨zS (h.mem p (c6 aw)).1,?_⟩;have ag:=IE p.1.name ((f6 rs z b).take i);have ar:cR p.1.name ((f6 rs z b).take i)=[]:=by
   unfold cR;rw [Sw.mpr,hE];intro e he;obtain ⟨j,bb⟩:=iX he;have WH:j < i:=by have:=(cW.mp bb).1;rw [fq] at this;omega
   rw [vM WH] at bb;intro z;have:=h.zw j i e _ bb aC (by simpa using z);omega
  rw [ar];rfl
 .obtain ⟨i,ak⟩:=iX aC;obtain ⟨p,aw,rfl⟩:=sz ak;have j9:=h.mX aw;have aB:=(cW.mp aw).1;have hm:=h.oH aw (j:=rs.length) aB (bW _);have h0:=(h.pG (j:=i) (by omega)).1;have:=j9.1.of;exact ⟨gQ _ (by omega),h1 _ (by omega),j9.2.1,by dsimp only;omega⟩
theorem gF.pl {n:Int} {ds:List aG} {rs:List (aG × Int)} {z:Nat} {b:Int} (h:gF n ds rs) (a0:2 <= n) (ay:0 < z) (nV:c4 rs rs.length <= z) (Fq:z <= 240):lO n ds z (f6 rs z b):=
 ⟨by omega,fun d hd=>by have:=(h.ok d hd).1.of;omega,⟨ay,Fq⟩,h.good ay nV,h.never,h.short nV,h.afC ay nV⟩
noncomputable def tE (H:ah) (cJ:Addr) (rs:List (aG × Int)):Prop:=∃ qs:List Addr,H cJ=some (.lst (qs.map V.ref))/\qs.length=rs.length/\∀ (i:Nat) (q:Addr) (p:aG × Int),qs[i]? = some q->rs[i]? = some p->H q=some (.tup [.str p.1.name,.int (c4 rs i),.int p.2])
theorem EV {rs l:List (aG × Int)} {i:Nat} (h:i <= rs.length):c4 (rs ++ l) i=c4 rs i:=by
 unfold c4;rw [List.take_append_of_le_length h]
theorem Vp (n:Int):aa "round " ++ num n=b3 bw [S "round",num n]:=by
 apply js;have ax:(aa "round ").cps.toList=[114,111,117,110,100,32]:=by ac_nf
 have aD:(S "round").cps.toList=[114,111,117,110,100]:=by ac_nf
 rw [km,kf];simp only [gI,gZ,dP,hE,f7,ax,aD,mP,ma]
theorem tE.snoc {H:ah} {cJ p:Addr} {rs:List (aG × Int)} {d:aG × Int} {qs:List Addr} (cT:H cJ=some (.lst (qs.map V.ref))) (eu:qs.length=rs.length)
  (al:∀ (i:Nat) (q:Addr) (p:aG × Int),qs[i]? = some q->rs[i]? = some p->H q=some (.tup [.str p.1.name,.int (c4 rs i),.int p.2])) (aw:H p=none) :
  tE (upd (upd H p (.tup [.str d.1.name,.int (c4 rs rs.length),.int d.2])) cJ (.lst (qs.map V.ref ++ [.ref p]))) cJ (rs ++ [d]):=by
 have pT:p ≠ cJ:=(cV cT aw).symm;refine ⟨qs ++ [p],by rw [aR,eQ];rfl,by rw [eV,eV,eu];rfl,fun i q e ag ar=>?_⟩;rcases jV ag with ⟨eJ,e3⟩ | ⟨eJ,rfl⟩
 .rcases jV ar with ⟨mV,uD⟩ | ⟨mV,_⟩
  .have:=al i q e e3 uD;rw [aW (dH this cT (by intro z;cases z)),aW (cV this aw),EV (by omega)];exact this
  .omega
 .rcases jV ar with ⟨mV,uD⟩ | ⟨mV,rfl⟩
  .omega
  .rw [aW pT,aR,eJ,eu,EV (bW _)]
theorem Ie {z:Nat} {ds:List aG} {sp:List bK} (h:mx z ds sp) (ay:z <= 240) {s:bK} (aC:s ∈ sp):∀ y ∈ iN s,y.length <= 59:=fun y bj=>by
 have ag:=bd (h.nm s aC);have ar:=h.c' s aC;unfold uV at ar;unfold iN at bj;simp only [cP,fw,or_false] at bj;rcases bj with rfl | rfl | rfl | rfl
 .ac_nf
 .omega
 .exact kp (by omega) (by omega)
 .exact kp (by omega) (by omega)
noncomputable def Ys (K:a') (a:Addr) (ns:List Int):bF:=fun vs H Q _=>∃ wl n ds more,vs=[.ref a,.ref wl,.int more]/\Sc K a ns H/\jv H wl ds/\(1 <= ds.length/\ds.length <= 4)/\(2 <= n/\n <= 99)/\md n ds/\(0 <= more/\more <= 1000)/\∀ z sp I,aF H I->lO n ds z sp->Q (.str (fz z sp)) I
noncomputable def P9 (K:a') (a:Addr) (ns:List Int):bF:=fun vs H Q _=>∃ wl n ds more,vs=[.ref a,.ref wl,.int more]/\Sc K a ns H/\jv H wl ds/\(1 <= ds.length/\ds.length <= 4)/\(2 <= n/\n <= 99)/\md n ds/\(0 <= more/\more <= 1000)/\∀ (z:Nat) sp,lO n ds z sp->Q (.str (fz z sp)) H
theorem Ti (a:Addr) (ns:List Int) (fQ:ns.length <= 63):bT P base T 2 t.sZ t.v' BF (P9 K a ns):=by
 refine bA (ot T a ns fQ) fun dA=>?_;refine cg.forget (sp:=Ys K a ns) ?_ fun vs H Q E h=>?_
 .exists T.A8.ok kz,9
  obtain ⟨wl,n,ds,more,rfl,jr,gT,fO,a0,D,ahT,q⟩:=h;refine ⟨_,(aE (bI (i:=3) kz.aA (gD au))
   (aE (bI (i:=4) kz.aA aJ)
   (aE (bI (i:=5) kz.aA (bq dA aj T.el T.d5.bg T.ei (ab (U 0) (ab aJ (ab (hZ jx rfl T.jg i_ (ab (U 1) au)) au)))))
   (aE (fN fT rfl (ja rfl T.iU (ab (hZ jx rfl T.jg i_ (ab (U 1) au)) au)) (b1 (i:=6) kz.aA) (aE (bI (i:=7) kz.aA (cx dm (U 1) (Db gz (Db cO (U 5) (U 6)) (hZ jx rfl T.jg i_ (ab (U 1) au)))))
   (aE (bI (i:=8) kz.aA (Db cO (cx wn (U 7) aJ) (bq dA aj T.el T.d5.bg T.ei (ab (U 0) (ab (Db cO aJ (U 6)) (ab aJ au))))))
   (aE (d_ (ff l5 n1 o' oP (U 3) (ab (ox (ab (cx wn (U 7) aJ) (ab (U 4) (ab (U 8) au)))) au)))
   (aU (bI (i:=4) kz.aA (Db cO (Db cO (Db cO (U 4) (U 8)) (cx wn (U 7) aJ)) aJ)))))))
   (aE (bI (i:=9) kz.aA (Db cO (U 4) (bq dA aj T.el T.d5.bg T.ei (ab (U 0) (ab aJ (ab aJ au))))))
   (aE (bI (i:=10) kz.aA (Db cO (bq dA aj T.el T.d5.bg T.ei (ab (U 0) (ab aJ (ab (U 9) au)))) (U 2)))
   (aE (bI (i:=11) kz.aA (gD (ab (Db cS bG (ie i9 rfl T.jn i6 (ab (U 9) au))) au)))
   (aE (fN fT rfl (gv (U 3)) (b1 (i:=12) kz.aA) (aU (d_ (ff l5 n1 o' oP (U 11) (ab (ff iw kO kM j' bG (ab (gD (ab bG (ab (cx wn (U 12) aJ) (ab (ie i9 rfl T.jn i6 (ab (Db gz (Db cO (cx wn (U 12) aJ) (U 10)) (U 9)) au)) (ab (ie i9 rfl T.jn i6 (ab (cx wn (U 12) aJ) au)) au))))) au)) au)))))
   (aU (bL (ff iw kO kM j' bG (ab (U 11) au)))))))))))),?_⟩
  simp only [c3];obtain ⟨ws,dc,dI,iP⟩:=id gT;obtain ⟨m,hm⟩:∃ m,ds.length=m:=⟨_,rfl⟩;obtain ⟨f,hf,ad0⟩:∃ f:Nat,cn ns 80 (m:Int)=(f:Nat)/\f < m:=by
   have bY:=fe ns 80 (m:=(m:Int)) (by omega);have b_:=fl ns 80 (m:=(m:Int)) (by omega);exact ⟨(cn ns 80 (m:Int)).toNat,by omega,by omega⟩
  have od:((ws.map V.ref).length:Int)=(m:Int):=by rw [a8,dI,hm]
  exists (fun aQ I=>Sc K a ns I/\aF H I/\∃ cJ,H cJ=none/\I cJ=some (.lst [])/\aQ=[~~~a,~~~wl,some (.int more),~~~cJ,none,none,none,none,none,none,none,none,none]),0
  .nofun;exact ⟨gi _,fun cJ hg=>bu _ _ ⟨jr.new hg,bN hg,cJ,hg,aR,rfl⟩⟩
  rintro nD H1 ⟨pq,s1,cJ,hg,ax,rfl⟩;subst a7;simp only [c3];exists (fun aQ I=>I=H1/\aQ=[~~~a,~~~wl,some (.int more),~~~cJ,some (.int 0),none,none,none,none,none,none,none,none]),0
  .nofun;exact bu _ _ ⟨rfl,rfl⟩
  rintro c5 az ⟨rfl,rfl⟩;subst a7;simp only [c3];exists (fun aQ I=>I=az/\aQ=[~~~a,~~~wl,some (.int more),~~~cJ,some (.int 0),some (.int (f:Nat)),none,none,none,none,none,none,none]),0
  ·(nofun; repeat (dsimp only [ep];nofun));refine ⟨_,.inl (aH.of (s1 _ _ dc)),?_⟩;rw [od,hf];exact ⟨pq,by omega,by omega,by omega,bu _ _ ⟨rfl,rfl⟩⟩
  rintro lD cj ⟨rfl,rfl⟩;subst a7;simp only [c3];exists (fun aQ I=>Sc K a ns I/\aF H I/\∃ rs,tE I cJ rs/\rs.length=m/\Ar ds f m rs/\∃ hk hi fy,aQ=[~~~a,~~~wl,some (.int more),~~~cJ,some (.int (c4 rs m)),some (.int (f:Nat)),hk,hi,fy,none,none,none,none]),0
  .nofun;refine ⟨_,.inl (aH.of (s1 _ _ dc)),?_⟩;rw [od];refine ⟨by omega,by omega,?_⟩;rw [qg];refine ec.range (fun i σ I=>Sc K a ns I/\aF H I/\∃ rs,tE I cJ rs/\rs.length=i/\Ar ds f m rs/\∃ hk hi fy,σ=[~~~a,~~~wl,some (.int more),~~~cJ,some (.int (c4 rs i)),some (.int (f:Nat)),hk,hi,fy,none,none,none,none]) ⟨pq,s1,[],⟨[],ax,rfl,fun i q p h=>by simp at h⟩,rfl,⟨fun j p h=>by simp at h⟩,_,_,_,rfl⟩ ?_ ?_
   .rintro i σ I ak bh;ac_rfl
    obtain ⟨gJ,s4,rs,il,iO,gO,hk,hi,fy,rfl⟩:=bh;have AF:(f + i) % m < ws.length:=by rw [dI,hm];exact t2 _ (by omega)
    have p0:(f + i) % m < ds.length:=by rw [hm];exact t2 _ (by omega)
    have Ff:ws[(f + i) % m]? = some ws[(f + i) % m]:=cv AF;have ES:ds[(f + i) % m]? = some ds[(f + i) % m]:=cv p0;subst a7;generalize ws[(f + i) % m]=n8 at Ff;generalize ds[(f + i) % m]=d at ES;have uu:=s4 _ _ (iP _ _ _ Ff ES);have ZC:iZ (ws.map V.ref) ((((f:Nat):Int) + (i:Int)) % (m:Int))=some (.ref n8):=by
     rw [show (((f:Nat):Int) + (i:Int)) % (m:Int)=(((f + i) % m:Nat):Int) by push_cast;rfl];exact dh (by rw [dS,Ff];rfl)
    have bY:=fe ns (81 + (i:Int)) (m:=4) (by decide);have b_:=fl ns (81 + (i:Int)) (m:=4) (by decide);obtain ⟨qs,bO,dn,j6⟩:=id il;(nofun; repeat (dsimp only [ep];nofun));refine ⟨_,.inl (aH.of (s4 _ _ dc)),by rw [od];omega,_,aH.of (s4 _ _ dc),.ref n8,by rw [od];exact ZC,n8,rfl,_,cU.of uu,_,dh (j:=6) rfl,gJ,by omega,by omega,by decide,_,rfl,.inl ⟨_,aH.of bO⟩,n8,rfl,_,cU.of uu,_,dh (j:=1) rfl,by decide,fun p aw=>?_⟩;have v5:cJ ≠ p:=cV bO aw;have kn:=tE.snoc (d:=(d,d.least + cn ns (81 + (i:Int)) 4)) bO dn j6 aw;rw [iO] at kn;have Te:∀ o u,upd (upd I p (.tup u)) cJ (.lst o) n8=some (.tup (oM d)):=fun o u=>by rw [aW (dH uu bO (by intro z;cases z)),aW (cV uu aw)];exact uu
    refine ⟨_,by rw [aW v5];exact bO,iD (show (qs.map V.ref).length <= 8 by rw [a8];omega) (by decide),n8,rfl,_,cU.of (Te _ _),_,dh (j:=4) rfl,_,rfl,?_⟩;refine ⟨(gJ.new aw).set (by rw [aW v5];exact bO) (fun _ _ z=>by cases z),(s4.trans (bN aw)).gB hg,rs ++ [(d,d.least + cn ns (81 + (i:Int)) 4)],kn,by rw [eV,iO];rfl,⟨fun j e he=>?_⟩,?_⟩
    .rcases jV he with ⟨_,z⟩ | ⟨z,rfl⟩
     .exact gO.at_ j e z
     .rw [z,iO];exact ⟨ES,by dsimp only;omega,by dsimp only;omega⟩
    .have kg:c4 (rs ++ [(d,d.least + cn ns (81 + (i:Int)) 4)]) (i + 1)=c4 rs i + (d.least + cn ns (81 + (i:Int)) 4) + d.off + 3:=by
      rw [At (j:=i) (p:=(d,d.least + cn ns (81 + (i:Int)) 4)) (by rw [<- iO];simp),EV (by omega)];dsimp only;omega
     rw [kg];exact ⟨rfl,_,rfl⟩
   .rintro σ I bh;ac_rfl
    obtain ⟨gJ,s4,rs,il,iO,gO,hk,hi,fy,rfl⟩:=bh;subst a7;exact bu _ _ ⟨gJ,s4,rs,il,iO,gO,_,_,_,rfl⟩
  rintro yj dC ⟨gJ,s4,rs,il,iO,gO,hk,hi,fy,rfl⟩;have sf:=gO.ok D hm (by omega) ad0 iO;have oZ:=sf.pG (j:=m) (by omega);have ahN:0 < c4 rs m:=by
   have h0:rs[0]? = some rs[0]:=cv (by omega);have ag:=sf.oH h0 (j:=m) (by omega) (by omega);have ar:=(sf.pG (j:=0) (by omega)).1;have bc:=sf.mX h0;have:=bc.1.of;omega
  obtain ⟨z,ay,mO⟩:∃ z:Nat,c4 rs m + cn ns 88 4=(z:Nat)/\(c4 rs m <= z/\z < c4 rs m + 4):=by
   have bY:=fe ns 88 (m:=4) (by decide);have b_:=fl ns 88 (m:=4) (by decide);exact ⟨(c4 rs m + cn ns 88 4).toNat,by omega,by omega⟩
  have iK:0 < z/\z <= 240:=by omega
  subst a7;simp only [c3];exists (fun aQ I=>I=dC/\aQ=[~~~a,~~~wl,some (.int more),~~~cJ,some (.int (c4 rs m)),some (.int (f:Nat)),hk,hi,fy,some (.int (z:Nat)),none,none,none]),0
  ·(nofun; repeat (dsimp only [ep];nofun));rw [ay];exact ⟨gJ,by decide,by decide,by decide,bu _ _ ⟨rfl,rfl⟩⟩
  rintro yY dV ⟨rfl,rfl⟩;subst a7;simp only [c3];exists (fun aQ I=>I=dV/\∃ b:Int,(0 <= b/\b <= 2000)/\aQ=[~~~a,~~~wl,some (.int more),~~~cJ,some (.int (c4 rs m)),some (.int (f:Nat)),hk,hi,fy,some (.int (z:Nat)),some (.int b),none,none]),0
  .have bY:=fe ns 89 (m:=(z:Int)) (by omega);have b_:=fl ns 89 (m:=(z:Int)) (by omega);(nofun; repeat (dsimp only [ep];nofun));exact ⟨gJ,by decide,by decide,by omega,bu _ _ ⟨rfl,_,by omega,rfl⟩⟩
  rintro nq ib ⟨rfl,b,af,rfl⟩;have rf:=sf.pl (b:=b) (z:=z) (by omega) iK.1 (by rw [iO];omega) iK.2;subst a7;simp only [c3];exists (fun aQ I=>Sc K a ns I/\aF ib I/\∃ c9,ib c9=none/\I c9=some (.lst (ba [b3 bw [S "round",num z]]))/\aQ=[~~~a,~~~wl,some (.int more),~~~cJ,some (.int (c4 rs m)),some (.int (f:Nat)),hk,hi,fy,some (.int (z:Nat)),some (.int b),~~~c9,none]),0
  .nofun;have cT:(aa (toString (z:Int))).length <= 59:=kp (v:=(z:Int)) (by omega) (by omega);have eu:(aa "round ").length=6:=by ac_nf
   refine ⟨lT (by omega),by rw [eu];exact cp (show _ <= 65 by omega) (by decide),by decide,fun c9 nu=>?_⟩;refine bu _ _ ⟨gJ.new nu,bN nu,c9,nu,?_,rfl⟩;rw [aR];exact congrArg (fun x=>some (dY.lst [V.str x])) (Vp z)
  rintro jb gC ⟨jZ,eT,c9,nu,kg,rfl⟩;subst a7;simp only [c3];obtain ⟨qs,bO,dn,j6⟩:=id il;have Nn:cJ ≠ c9:=cV bO nu;exists (fun aQ I=>aF H I/\I c9=some (.lst (ba ((fJ z (f6 rs z b)).map (b3 bw))))/\∃ hR,aQ=[~~~a,~~~wl,some (.int more),~~~cJ,some (.int (c4 rs m)),some (.int (f:Nat)),hk,hi,fy,some (.int (z:Nat)),some (.int b),~~~c9,hR]),0
  .nofun;refine ⟨⟨_,aH.of (eT _ _ bO)⟩,?_⟩;refine ec.list (xs:=qs.map V.ref) (fun i σ I=>aF ib I/\I c9=some (.lst (ba (((fJ z (f6 rs z b)).take (i + 1)).map (b3 bw))))/\∃ hR,σ=[~~~a,~~~wl,some (.int more),~~~cJ,some (.int (c4 rs m)),some (.int (f:Nat)),hk,hi,fy,some (.int (z:Nat)),some (.int b),~~~c9,hR]) ⟨eT,kg,_,rfl⟩ ?_ ?_ ?_
   .rintro i σ I ak ⟨fs,_,_⟩;exact aH.of (fs _ _ bO)
   .rintro i v σ I aK bh;ac_rfl
    obtain ⟨fs,j0,hR,rfl⟩:=bh;obtain ⟨iy,a4,rfl⟩:=cz aK;have ak:i < rs.length:=by rw [<- dn];exact (cW.mp a4).1
    have aw:rs[i]? = some rs[i]:=cv ak;subst a7;generalize rs[i]=p at aw;have aX:=fs _ _ (j6 i iy p a4 aw);have j9:=sf.mX aw;have Qv:=gQ (c4 rs i + b) (show (z:Int) ≠ 0 by omega);have r9:=h1 (c4 rs i + b) (show (0:Int) < z by omega);have jX:=Am (z:=z) (b:=b) aw;have fX:=Ie (z:=z) rf.g (rf.eJ.2) (c6 jX);nofun;refine ⟨.inl ⟨_,aH.of j0⟩,_,cU.of aX,_,dh (j:=0) rfl,_,cU.of aX,_,dh (j:=1) rfl,_,rfl,by omega,lT (by omega),_,cU.of aX,_,dh (j:=2) rfl,_,rfl,lT (by omega),by decide,fun r aj=>?_⟩;have Tf:c9 ≠ r:=cV j0 aj;have cL:(ba (((fJ z (f6 rs z b)).take (i + 1)).map (b3 bw))).length <= 41:=by
     rw [iJ,a8,fq];omega
    refine ⟨iN ⟨p.1.name,(c4 rs i + b) % (z:Int),p.2⟩,aH.of aR,?_,_,by rw [aW Tf];exact j0,iD cL (by decide),(fs.trans (bN aj)).gB nu,?_⟩
    .have ar:=FB fX;have bc:(aa " ").length=1:=hA;rw [bc];have cb:(iN ⟨p.1.name,(c4 rs i + b) % (z:Int),p.2⟩).length=4:=rfl;rw [cb] at ar ⊢;omega
    .rw [aR,show iA (aa " ") (iN ⟨p.1.name,(c4 rs i + b) % (z:Int),p.2⟩)=b3 bw (iN ⟨p.1.name,(c4 rs i + b) % (z:Int),p.2⟩) from ta _ _];have CE:(fJ z (f6 rs z b))[i + 1]? = some (iN ⟨p.1.name,(c4 rs i + b) % (z:Int),p.2⟩):=by
      unfold fJ;rw [lY,dS,jX];rfl
     rw [k1 (i:=i + 1) CE,eQ,<- Iu];exact ⟨rfl,_,rfl⟩
   .rintro σ I bh;ac_rfl
    obtain ⟨fs,j0,hR,rfl⟩:=bh;subst a7;refine bu _ _ ⟨s4.trans fs,?_,_,rfl⟩;rw [j0,lz];unfold fJ f6;rw [fp,a8,xF,a8,dn];exact bW _
  rintro uC gK ⟨fs,j0,hR,rfl⟩;subst a7;nofun;refine ⟨_,aH.of j0,?_,?_⟩
  .have ar:=FB (B:=240) (l:=(fJ z (f6 rs z b)).map (b3 bw)) fun y bj=>by
    obtain ⟨r,aj,rfl⟩:=dN.mp bj;have hw:(∀ x ∈ r,x.length <= 59)/\r.length <= 4:=by
     unfold fJ at aj;rcases cP.mp aj with rfl | aj
     .refine ⟨fun x ao=>?_,by simp⟩;simp only [cP,fw,or_false] at ao;rcases ao with rfl | rfl
      .ac_nf
      .exact kp (by omega) (by omega)
     .obtain ⟨c',aC,rfl⟩:=dN.mp aj;exact ⟨Ie rf.g rf.eJ.2 aC,by simp [iN]⟩
    have:=lE bw 59 r hw.1;rw [hA] at this;omega
   have bc:(aa "\n").length=1:=jJ;rw [bc];have cb:((fJ z (f6 rs z b)).map (b3 bw)).length <= 41:=by
    rw [a8];unfold fJ;rw [fp,a8];have:=rf.g.ln;omega
   omega
  .rw [show iA (aa "\n") ((fJ z (f6 rs z b)).map (b3 bw))=fz z (f6 rs z b) from ta _ _];exact q z _ gK fs rf
 .obtain ⟨wl,n,ds,more,e,S,ag,ar,bc,cb,ej,q⟩:=h;exact ⟨S.a5,wl,n,ds,more,e,S,ag,ar,bc,cb,ej,fun z sp I bf aw=>⟨bf,q z sp aw⟩⟩
noncomputable def s8 (y:Str):Prop:=y.length <= 59/\∀ c ∈ y.cps.toList,c ≠ 32/\c ≠ 10
theorem m1 {x:Str} (h:made x dO 8=true):s8 x:=by
 have:=bd h;exact ⟨by omega,fun c aq=>by have:=this.2 c aq;omega⟩
theorem xW {v:Int} (h0:0 <= v) (ag:v < 10 ^ 59):s8 (num v):=
 ⟨kp h0 ag,fun c aq=>by have:=U_ h0 ag c aq;omega⟩
theorem Jk {c x:Nat}:∀ {l:List (List Nat)},x ≠ c->(∀ p ∈ l,x ∉ p)->x ∉ f7 c l
 | [],_,_=>by simp [f7]
 | [a],_,h=>by simpa [f7] using h a (by simp)
 | a :: b :: r,aq,h=>by
  have ag:=h a (by simp);have ar:=Jk (l:=b :: r) aq fun p aw=>h p (hP _ aw)
  simp only [f7,r7,cP,not_or];exact ⟨ag,aq,ar⟩
theorem LR {ys:List Str} (a0:ys ≠ []) (h:∀ y ∈ ys,s8 y):ht (b3 bw ys)=[ys]/\(10:Nat) ∉ (b3 bw ys).cps.toList:=by
 have pL:(10:Nat) ∉ (b3 bw ys).cps.toList:=by
  rw [km,kf];refine Jk (by decide) fun p aw=>?_
  obtain ⟨y,bj,rfl⟩:=dN.mp aw;exact fun z=>((h y bj).2 10 z).2 rfl
 refine ⟨?_,pL⟩;have ax:gw (b3 bw ys) nl=[b3 bw ys]:=by
  have:=Bq (c:=10) (ys:=[b3 bw ys]) (by simp) (fun y bj=>by rw [nI.mp bj];exact pL);rw [jP];exact this
 have aD:gw (b3 bw ys) bw=ys:=by
  rw [km];exact Bq (c:=32) a0 (fun y bj z=>((h y bj).2 32 z).1 rfl)
 unfold ht;rw [ax,dP,hE,aD]
theorem JC {first:Str} {ps ws:List Str} {zs:List V} (hf:(first,ps) ∈ h6) (h:∀ y ∈ first :: ws,s8 y) (mT:mC ps ws zs):(b3 bw (first :: ws)).length <= 900:=by
 have ag:=lE bw 59 (first :: ws) fun y bj=>(h y bj).1
 have ar:ws.length <= 3:=by
  rw [mT.1];exact (show ∀ p ∈ h6,p.2.length <= 3 by decide) _ hf
 rw [hA,fp] at ag;omega
theorem Bx {first:Str} {ps ws:List Str} {zs:List V} (aS:first ∈ Bd) (hf:(first,ps) ∈ h6) (h:∀ y ∈ first :: ws,s8 y) (mT:mC ps ws zs):nA (b3 bw (first :: ws)) (b3 bw (first :: ws)) (aa "") first ps ws zs:=by
 obtain ⟨a,b⟩:=LR (by simp) h;have c:=JC hf h mT;refine ⟨?_,by omega,c,b,a,hf,mT⟩;rw [decide_eq_false (Bs aS).1];exact ⟨rfl,rfl⟩
theorem Lc {first text:Str} {ps ws:List Str} {zs:List V} (aS:first ∈ kP) (ay:text.length <= 19000) (hf:(first,ps) ∈ h6) (h:∀ y ∈ first :: ws,s8 y) (mT:mC ps ws zs):nA (b3 bw (first :: ws) ++ nl ++ text) (b3 bw (first :: ws)) text first ps ws zs:=by
 obtain ⟨a,b⟩:=LR (by simp) h;have c:=JC hf h mT;refine ⟨?_,by rw [bZ,bZ,jJ];omega,c,b,a,hf,mT⟩;rw [decide_eq_true aS];exact rfl
theorem rS {a y:Str} {v:V} (h:o8 a y v):mC [a] [y] [v]:=⟨rfl,rfl,fun i hq xu iI ag ar bc=>by
 match i,ag,ar,bc with
 | 0,ag,ar,bc=>cases ag;cases ar;cases bc;exact h
 | i + 1,ag,_,_=>simp at ag⟩
theorem mC.cons {a y:Str} {v:V} {ps ws:List Str} {zs:List V} (h:o8 a y v) (f:mC ps ws zs):mC (a :: ps) (y :: ws) (v :: zs):=⟨by simp [f.1],by simp [f.2.1],fun i hq xu iI ag ar bc=>by
 match i,ag,ar,bc with
 | 0,ag,ar,bc=>cases ag;cases ar;cases bc;exact h
 | i + 1,ag,ar,bc=>exact f.2.2 i hq xu iI ag ar bc⟩
theorem mY {x:Str} (h:made x dO 8=true):o8 (aa "name") x (.str x):=.inl ⟨rfl,h,rfl⟩
theorem Gk {v:Int} (h0:0 <= v) (ag:v < 10 ^ 59):o8 (aa "turn") (num v) (.int v):=by
 obtain ⟨a,b⟩:=C4 (by decide) h0 ag;exact .inr (.inl ⟨rfl,a,by rw [b]⟩)
theorem aaf {v:Int} (h0:1 <= v) (ag:v <= 200):o8 (aa "many") (num v) (.int v):=.inr (.inr ⟨rfl,v,l8 (by omega) (by omega) (by omega) (by omega),rfl⟩)
theorem qL:∀ p ∈ h6,p.1.length <= 59/\∀ c ∈ p.1.cps.toList,c ≠ 32/\c ≠ 10:=by ac_nf
theorem R0 (x y:Str):aa "colours " ++ x ++ aa " " ++ y=b3 bw [aa "colours",x,y]:=by
 apply js;have ax:(aa "colours ").cps.toList=(aa "colours").cps.toList ++ [32]:=by ac_nf
 have aD:(aa " ").cps.toList=[32]:=by ac_nf
 rw [km,kf];simp only [gI,gZ,dP,hE,f7,ax,aD,nt,mP,ma]
theorem RO (x y z:Str):aa "wait " ++ x ++ aa " " ++ y ++ aa " " ++ z=b3 bw [aa "wait",x,y,z]:=by
 apply js;have ax:(aa "wait ").cps.toList=(aa "wait").cps.toList ++ [32]:=by ac_nf
 have aD:(aa " ").cps.toList=[32]:=by ac_nf
 rw [km,kf];simp only [gI,gZ,dP,hE,f7,ax,aD,nt,mP,ma]
theorem aea (x y:Str):aa "longest " ++ x ++ aa " " ++ y=b3 bw [aa "longest",x,y]:=by
 apply js;have ax:(aa "longest ").cps.toList=(aa "longest").cps.toList ++ [32]:=by ac_nf
 have aD:(aa " ").cps.toList=[32]:=by ac_nf
 rw [km,kf];simp only [gI,gZ,dP,hE,f7,ax,aD,nt,mP,ma]
theorem X5 (x:Str):aa "crossing " ++ x=b3 bw [aa "crossing",x]:=by
 apply js;have ax:(aa "crossing ").cps.toList=(aa "crossing").cps.toList ++ [32]:=by ac_nf
 rw [km,kf];simp only [gI,gZ,dP,hE,f7,ax,nt,mP,ma]
theorem abw (x y:Str):aa "plan " ++ x ++ aa " " ++ y=b3 bw [aa "plan",x,y]:=by
 apply js;have ax:(aa "plan ").cps.toList=(aa "plan").cps.toList ++ [32]:=by ac_nf
 have aD:(aa " ").cps.toList=[32]:=by ac_nf
 rw [km,kf];simp only [gI,gZ,dP,hE,f7,ax,aD,nt,mP,ma]
theorem ac' {x:Str} {v:Int} (ao:made x dO 8=true) (h0:0 <= v) (ag:v < 10 ^ 59):nA (aa "colours " ++ x ++ aa " " ++ num v) (b3 bw [aa "colours",x,num v]) (aa "") (aa "colours") [aa "name",aa "turn"] [x,num v] [.str x,.int v]:=by
 rw [R0];refine Bx (by ac_nf) (by ac_nf) (fun y bj=>?_) (.cons (mY ao) (rS (Gk h0 ag)));simp only [cP,fw,or_false] at bj;rcases bj with rfl | rfl | rfl
 .exact qL _ (c6 (show h6[2]? = some _ from rfl))
 .exact m1 ao
 .exact xW h0 ag
theorem KI {x y:Str} {v:Int} (ao:made x dO 8=true) (bj:made y dO 8=true) (h0:0 <= v) (ag:v < 10 ^ 59):nA (aa "wait " ++ x ++ aa " " ++ y ++ aa " " ++ num v) (b3 bw [aa "wait",x,y,num v]) (aa "") (aa "wait") [aa "name",aa "name",aa "turn"] [x,y,num v] [.str x,.str y,.int v]:=by
 rw [RO];refine Bx (by ac_nf) (by ac_nf) (fun u bE=>?_) (.cons (mY ao) (.cons (mY bj) (rS (Gk h0 ag))));simp only [cP,fw,or_false] at bE;rcases bE with rfl | rfl | rfl | rfl
 .exact qL _ (c6 (show h6[3]? = some _ from rfl))
 .exact m1 ao
 .exact m1 bj
 .exact xW h0 ag
theorem SI {x y:Str} (ao:made x dO 8=true) (bj:made y dO 8=true):nA (aa "longest " ++ x ++ aa " " ++ y) (b3 bw [aa "longest",x,y]) (aa "") (aa "longest") [aa "name",aa "name"] [x,y] [.str x,.str y]:=by
 rw [aea];refine Bx (by ac_nf) (by ac_nf) (fun u bE=>?_) (.cons (mY ao) (rS (mY bj)));simp only [cP,fw,or_false] at bE;rcases bE with rfl | rfl | rfl
 .exact qL _ (c6 (show h6[4]? = some _ from rfl))
 .exact m1 ao
 .exact m1 bj
theorem Uj {x:Str} {v m:Int} (ao:made x dO 8=true) (h0:0 <= v) (ag:v < 10 ^ 59) (hm:1 <= m/\m <= 200):nA (iA bw [aa "draw",x,num v,num m]) (b3 bw [aa "draw",x,num v,num m]) (aa "") (aa "draw") [aa "name",aa "turn",aa "many"] [x,num v,num m] [.str x,.int v,.int m]:=by
 rw [show iA bw [aa "draw",x,num v,num m]=b3 bw [aa "draw",x,num v,num m] from ta _ _];refine Bx (by ac_nf) (by ac_nf) (fun u bE=>?_) (.cons (mY ao) (.cons (Gk h0 ag) (rS (aaf hm.1 hm.2))));simp only [cP,fw,or_false] at bE;rcases bE with rfl | rfl | rfl | rfl
 .exact qL _ (c6 (show h6[5]? = some _ from rfl))
 .exact m1 ao
 .exact xW h0 ag
 .exact xW (by omega) (Int.lt_of_le_of_lt hm.2 (by decide))
theorem XQ {x text:Str} (ao:made x dO 8=true) (ay:text.length <= 19000):nA (aa "crossing " ++ x ++ nl ++ text) (b3 bw [aa "crossing",x]) text (aa "crossing") [aa "name"] [x] [.str x]:=by
 rw [X5];refine Lc (by ac_nf) ay (by ac_nf) (fun u bE=>?_) (rS (mY ao));simp only [cP,fw,or_false] at bE;rcases bE with rfl | rfl
 .exact qL _ (c6 (show h6[0]? = some _ from rfl))
 .exact m1 ao
theorem Y0 {x y text:Str} (ao:made x dO 8=true) (bj:made y dO 8=true) (ay:text.length <= 19000):nA (aa "plan " ++ x ++ aa " " ++ y ++ nl ++ text) (b3 bw [aa "plan",x,y]) text (aa "plan") [aa "name",aa "name"] [x,y] [.str x,.str y]:=by
 rw [abw];refine Lc (by ac_nf) ay (by ac_nf) (fun u bE=>?_) (.cons (mY ao) (rS (mY bj)));simp only [cP,fw,or_false] at bE;rcases bE with rfl | rfl | rfl
 .exact qL _ (c6 (show h6[1]? = some _ from rfl))
 .exact m1 ao
 .exact m1 bj
structure jo (t:bt) (H off:ah) (aP a3 db pl:Addr) (bR bo:List (Key × V)) (bn:Str) (n:Int) (ds:List aG) (z:Nat) (sp:List bK):Prop where
 d:fG t H aP a3 db bR bo
 o:Off [a3,db] H off
 ek:∃ c,fH t off pl c n ds z sp
 dQ:∃ a c,c8 bo (.inr bn)=some (.ref a)/\fH t off a c n ds z sp
theorem XM {v:Int} (h0:0 <= v) (ag:v < 10 ^ 59):v.natAbs.log2 < 1920:=by
 by_cases c:v.natAbs=0
 .rw [c];decide
 .rw [Lj c];refine Xf (m:=10 ^ 59) (by omega) (by ac_nf)
theorem Xs {t:bt} {H off:ah} {aP a3 db pl:Addr} {bR bo:List (Key × V)} {bn:Str} {n:Int} {ds:List aG} {z:Nat} {sp:List bK} (D:jo t H off aP a3 db pl bR bo bn n ds z sp) (ay:1 <= z/\z <= 240) (bl:j1 (ds.map (·.name))) {v:Int} {Q:Str->Prop} (q:Q (A1 ds fun d=>gP z sp d v)):tH t aP bo off (aa "colours") [.str bn,.int v] Q:=fun l gN s e=>by
 obtain ⟨a,c,aK,ck⟩:=D.dQ;exact .inl ⟨bn,v,a,c,n,ds,z,sp,rfl,e,aK,ck.same s,by omega,bl,q⟩
theorem QO {t:bt} {H off:ah} {aP a3 db pl:Addr} {bR bo:List (Key × V)} {bn:Str} {n:Int} {ds:List aG} {z:Nat} {sp:List bK} (D:jo t H off aP a3 db pl bR bo bn n ds z sp) (ay:1 <= z/\z <= 240) {v u:Int} {d:aG} (hd:d ∈ ds) (bE:(ee z sp d.name)[(v % (z:Int)).toNat]? = some u) {Q:Str->Prop} (q:Q (num u)):tH t aP bo off (aa "wait") [.str bn,.str d.name,.int v] Q:=fun l gN s e=>by
 obtain ⟨a,c,aK,ck⟩:=D.dQ;exact .inr (.inl ⟨bn,v,a,c,n,ds,z,sp,d,u,rfl,e,aK,ck.same s,by omega,hd,bE,q⟩)
theorem SK {t:bt} {H off:ah} {aP a3 db pl:Addr} {bR bo:List (Key × V)} {bn:Str} {n:Int} {ds:List aG} {z:Nat} {sp:List bK} (D:jo t H off aP a3 db pl bR bo bn n ds z sp) (ay:1 <= z/\z <= 240) {i:Nat} {d:aG} (hd:ds[i]? = some d) {m:Int} (hm:m ∈ ee z sp d.name/\∀ k ∈ ee z sp d.name,k <= m) {Q:Str->Prop} (q:Q (num m ++ bw ++ num ((ee z sp d.name).idxOf m:Nat))):tH t aP bo off (aa "longest") [.str bn,.str d.name] Q:=fun l gN s e=>by
 obtain ⟨a,c,aK,ck⟩:=D.dQ;exact .inr (.inr (.inl ⟨bn,a,c,n,ds,z,sp,i,d,m,rfl,e,aK,ck.same s,by omega,hd,hm,q⟩))
theorem UD {t:bt} {H off:ah} {aP a3 db pl:Addr} {bR bo:List (Key × V)} {bn:Str} {n:Int} {ds:List aG} {z:Nat} {sp:List bK} (D:jo t H off aP a3 db pl bR bo bn n ds z sp) (ay:1 <= z/\z <= 240) (bl:j1 (ds.map (·.name))) {v:Int} {m:Nat} (hm:m <= 200) {Q:Str->Prop} (q:Q (iA nl (jz v (ds.map (·.name)) (iL z sp ds v m)))):tH t aP bo off (aa "draw") [.str bn,.int v,.int m] Q:=fun l gN s e=>by
 obtain ⟨a,c,aK,ck⟩:=D.dQ;exact .inr (.inr (.inr ⟨bn,v,m,a,c,n,ds,z,sp,rfl,e,aK,ck.same s,by omega,hm,bl,q⟩))
theorem aan {ds:List aG} (h:j1 (ds.map (·.name))):(ds.map (·.name)).Nodup:=h.aA
theorem I5:∀ {l:List Int},l ≠ []->∃ m ∈ l,∀ k ∈ l,k <= m
 | [],h=>absurd rfl h
 | [a],_=>⟨a,by simp,fun k aI=>by rw [nI.mp aI];exact OW _⟩
 | a :: b :: r,_=>by
  obtain ⟨m,hm,al⟩:=I5 (l:=b :: r) (by simp);by_cases c:m <= a
  .refine ⟨a,by simp,fun k aI=>?_⟩;rcases cP.mp aI with rfl | aI
   .exact OW _
   .exact Int.le_trans (al k aI) c
  .refine ⟨m,hP _ hm,fun k aI=>?_⟩;rcases cP.mp aI with rfl | aI
   .omega
   .exact al k aI
noncomputable def JD (K:a') (t:bt) (a:Addr) (ns:List Int):bF:=fun vs H Q _=>∃ (aP a3 db pl dx:Addr) (bR bo:List (Key × V)) (bn:Str) (off:ah) (k n:Int) (ds:List aG) (z:Nat) (sp:List bK),vs=[.ref aP,.ref a,.int k,.str bn,.ref pl,.ref dx]/\Sc K a ns H/\(0 <= k/\k <= 900)/\jo t H off aP a3 db pl bR bo bn n ds z sp/\made bn dO 8=true/\lO n ds z sp/\j1 (ds.map (·.name))/\H dx=some (.lst (ba (ds.map (·.name))))/\∀ I,aF H I->aM I->Q (.bk true) I
theorem acq (a:Addr) (ns:List Int) (fQ:ns.length <= 63):bT P base T 10 t.q_ t.tN zC (JD K t a ns):=by
 refine bA (ot T a ns fQ) fun dA=>bA (Rd T a ns fQ) fun Q'=>bA (ZB T) fun rY=>bA (OL T) fun Ed=>bA (KP T) fun H5=>bA (Ou T) fun IJ=>bA (Kg T) fun ku=>?_;exists T.Dy.ok kc,9
 obtain ⟨aP,a3,db,pl,dx,bR,bo,bn,off,k,n,ds,z,sp,rfl,jr,aI,g0,vv,gm,bl,AV,q⟩:=h;have bE:=No aj;refine ⟨_,(aE (bI (i:=6) kc.aA (bq dA aj T.el T.d5.bg T.ei (ab (U 1) (ab (U 2) (ab aJ au)))))
   (aE (rA (i:=7) kc.aA rfl (nU rfl) (bq Q' aj T.Xe T.E4.bg T.T5 (ab (U 1) (ab (Db cO (U 2) aJ) au))))
   (aE (bI (i:=8) kc.aA (cx dm (U 5) (bq dA aj T.el T.d5.bg T.ei (ab (U 1) (ab (Db cO (U 2) aJ) (ab (hZ jx rfl T.jg i_ (ab (U 5) au)) au))))))
   (aE (cI (cy dE (U 6) aJ (cc _)) (aE (rA (i:=9) kc.aA rfl (nU rfl) (bq rY aj T.zg T.s6.bg T.xI (ab (U 4) (ab (U 7) au))))
   (aE (bI (i:=10) kc.aA (ff iw kO kM j' bG (ab (ig rfl (gv (U 5)) (fU (sc:=br w') rfl (by ac_nf)) (N:=["_law_one","_law_shown"]) (sel:=[none,some 9]) (gf (M:=HW) (by ac_nf)) (eZ.of (fun _ _ _ _=>(b1 (i:=0) (eC (N:=["_law_one","_law_shown"]) (by ac_nf) rfl))) (fun _ _ _ _=>⟨_,gX,by walk_at "B"⟩) (fun _ _ _ _=>⟨_,(Db cS (Db cS (U 0) bG) (lX bE (U 1) (U 0) (fun _ _=>rfl))),by walk_at "B"⟩))) au)))
   (aU (bL (hb dE (dd (U 0) T.h9 T.lF ku aj T.lL .nil b0 (ab (Db cS (Db cS (Db cS bG (U 3)) bG) (ie i9 rfl T.jn i6 (ab (U 7) au))) au)) (U 10) (cc _)))))) cM)
   (aE (cI (cy dE (U 6) aJ (cc _)) (aE (bI (i:=10) kc.aA (ie i9 rfl T.jn i6 (ab (Db ol (bq Ed aj T.Lm T.yx.bg T.OD (ab (U 4) (ab (U 8) (ab (U 7) au)))) (U 7)) au)))
   (aU (bL (hb dE (dd (U 0) T.h9 T.lF ku aj T.lL .nil b0 (ab (Db cS (Db cS (Db cS (Db cS (Db cS bG (U 3)) bG) (U 8)) bG) (ie i9 rfl T.jn i6 (ab (U 7) au))) au)) (U 10) (cc _))))) cM)
   (aE (cI (cy dE (U 6) aJ (cc _)) (aE (bI (i:=11) kc.aA (bq H5 aj T.Jq T.yi.bg T.Qz (ab (U 4) (ab (U 8) au))))
   (aE (bI (i:=10) kc.aA (Db cS (Db cS (ie i9 rfl T.jn i6 (ab (cx wn (U 11) aJ) au)) bG) (ie i9 rfl T.jn i6 (ab (cx wn (U 11) aJ) au))))
   (aU (bL (hb dE (dd (U 0) T.h9 T.lF ku aj T.lL .nil b0 (ab (Db cS (Db cS (Db cS bG (U 3)) bG) (U 8)) au)) (U 10) (cc _)))))) cM)
   (aE (bI (i:=12) kc.aA (Db cO aJ (bq dA aj T.el T.d5.bg T.ei (ab (U 1) (ab (Db cO (U 2) aJ) (ab aJ au))))))
   (aE (cI (cy dE (bq dA aj T.el T.d5.bg T.ei (ab (U 1) (ab (Db cO (U 2) aJ) (ab aJ au)))) aJ (cc _)) (aU (bI (i:=12) kc.aA aJ)) cM)
   (aE (bI (i:=13) kc.aA (bq IJ aj T.Pj T.yu.bg T.Qc (ab (U 7) (ab (ig rfl (ja rfl T.iU (ab (U 12) au)) (fU (sc:=br w') rfl (by ac_nf)) (N:=["_law_n","_law_plan_here","_law_turn_here"]) (sel:=[none,some 4,some 7]) (gf (M:=HW) (by ac_nf)) (eZ.of (fun _ _ _ _=>(b1 (i:=0) (eC (N:=["_law_n","_law_plan_here","_law_turn_here"]) (by ac_nf) rfl))) (fun _ _ _ _=>⟨_,gX,by walk_at "B"⟩) (fun _ _ _ _=>⟨_,(bq rY aj T.zg T.s6.bg T.xI (ab (U 1) (ab (Db cO (U 2) (U 0)) au))),by walk_at "B"⟩))) au))))
   (aE (bI (i:=14) kc.aA (ff iw kO kM j' bG (ab (gD (ab bG (ab (U 3) (ab (ie i9 rfl T.jn i6 (ab (U 7) au)) (ab (ie i9 rfl T.jn i6 (ab (U 12) au)) au))))) au)))
   (aU (bL (hb dE (dd (U 0) T.h9 T.lF ku aj T.lL .nil b0 (ab (U 14) au)) (ff iw kO kM j' bG (ab (U 13) au)) (cc _)))))))))))))),?_⟩
 simp only [c3];have bY:=fe ns k (m:=4) (by decide);have b_:=fl ns k (m:=4) (by decide);exists (fun aQ I=>I=H/\aQ=[~~~aP,~~~a,some (.int k),some (.str bn),~~~pl,~~~dx,some (.int (cn ns k 4)),none,none,none,none,none,none,none,none]),0
 ·(nofun; repeat (dsimp only [ep];nofun));exact ⟨jr,by omega,by omega,by decide,bu _ _ ⟨rfl,rfl⟩⟩
 rintro nD H1 ⟨rfl,rfl⟩;subst a7;simp only [c3];exists (fun aQ I=>I=H1/\∃ v:Int,(0 <= v/\v < 10 ^ 59)/\aQ=[~~~aP,~~~a,some (.int k),some (.str bn),~~~pl,~~~dx,some (.int (cn ns k 4)),some (.int v),none,none,none,none,none,none,none]),0
 .nofun;exact ⟨k + 1,rfl,jr,by omega,fun v h0 ag=>bu _ _ ⟨rfl,v,⟨h0,ag⟩,rfl⟩⟩
 rintro c5 az ⟨rfl,v,aK,rfl⟩;subst a7;simp only [c3];exists (fun aQ I=>I=az/\∃ (i:Nat) (d:aG),ds[i]? = some d/\aQ=[~~~aP,~~~a,some (.int k),some (.str bn),~~~pl,~~~dx,some (.int (cn ns k 4)),some (.int v),some (.str d.name),none,none,none,none,none,none]),0
 .have Eb:0 < ds.length:=by have:=bl.ln.1;rw [a8] at this;omega
  have hlen:((ba (ds.map (·.name))).length:Int)=(ds.length:Nat):=by rw [iJ,a8]
  have fg:=fe ns (k + 3) (m:=(ds.length:Int)) (by omega);have pQ:=fl ns (k + 3) (m:=(ds.length:Int)) (by omega);(nofun; repeat (dsimp only [ep];nofun));refine ⟨_,.inl (aH.of AV),?_⟩;rw [hlen];obtain ⟨i,ak⟩:∃ i:Nat,cn ns (k + 3) (ds.length:Int)=(i:Nat):=⟨(cn ns (k + 3) (ds.length:Int)).toNat,by omega⟩;have pd:i < ds.length:=by omega
  have hd:ds[i]? = some ds[i]:=cv pd;rw [ak];exact ⟨jr,by omega,by omega,by omega,_,aH.of AV,_,dh (j:=i) (Ao (by rw [dS,hd];rfl)),bu _ _ ⟨rfl,i,_,hd,rfl⟩⟩
 rintro lD cj ⟨rfl,i,d,hd,rfl⟩;subst a7;simp only [c3];obtain ⟨k9,ck⟩:=g0.ek;have ay:=gm.eJ;have x3:=ck.same g0.o.bf;have Di:v.natAbs.log2 < 1920:=XM aK.1 aK.2;have aC:1000 <= sizeLine:=by decide
 have r9:(aa " ").length=1:=hA;have aer:bn.length <= 8:=(bd vv).1.2;have p4:made d.name dO 8=true:=by
  have:=bl.al d.name (zS (c6 hd));exact Ig this.1.1 this.1.2 this.2
 have ld:d.name.length <= 8:=(bd p4).1.2;have lv:(aa (toString v)).length <= 59:=kp aK.1 aK.2;obtain ⟨⟨av,dB,eo⟩,_,_,_⟩:=id g0.d;have rh:(qq a3 db dB).lookup (aa "say")=none:=jK ul (kC ..) (by ac_nf);refine cG (decide (cn ns k 4=0)) (fun Q aN=>?_) (fun aq=>?_) (fun aq=>?_)
 .nofun;exact aN
 .simp only [c3];exists (fun aQ I=>aF cj I/\aM I/\∃ c',cj c'=none/\I c'=some (.bV (fR ds fun d=>gP z sp d v))/\aQ=[~~~aP,~~~a,some (.int k),some (.str bn),~~~pl,~~~dx,some (.int (cn ns k 4)),some (.int v),some (.str d.name),~~~c',none,none,none,none,none]),0
  .nofun;exact ⟨pl,k9,n,ds,z,sp,v,rfl,x3,by omega,jr.a5,fun p I s1 cq aw e=>bu _ _ ⟨s1,cq,p,aw,e,rfl⟩⟩
  rintro yj dC ⟨s4,h2,c',i1,gr,rfl⟩;subst a7;simp only [c3];exists (fun aQ I=>aF dC I/\aM I/\aQ=[~~~aP,~~~a,some (.int k),some (.str bn),~~~pl,~~~dx,some (.int (cn ns k 4)),some (.int v),some (.str d.name),~~~c',some (.str (A1 ds fun d=>gP z sp d v)),none,none,none,none]),0
  .nofun;refine ⟨⟨_,aH.of (s4 _ _ AV)⟩,?_⟩;have tG:(ds.map (·.name)).length <= 6:=bl.ln.2;refine cZ.r' (zs:=ba (ds.map fun d=>d.name ++ bw ++ gP z sp d v)) (aH.of (s4 _ _ AV)) (by rw [iJ];exact cp tG (by decide)) (by rw [iJ,iJ,a8,a8]) (fun j x y N ao bj j3=>?_) (fun p aw=>?_)
   .obtain ⟨hO,Bu,rfl⟩:=cz ao;obtain ⟨e,he,rfl⟩:=cz Bu;obtain ⟨mV,Dl,rfl⟩:=cz bj;obtain ⟨b5,Pu,rfl⟩:=cz Dl;rw [he] at Pu;cases Pu;have a9:=Ev.k (k:=du e.name) gr;rw [ZM (aan bl) he] at a9;have cT:=(bl.al e.name (zS (c6 he))).1.2;have eu:(gP z sp e v).length <= 8:=D9 (z2 (by omega));nofun;exact ⟨Sub.name,by omega,_,a9,_,rfl,by rw [bZ];omega,j3⟩
   .refine ⟨p,rfl,_,aH.of aR,?_,bu _ _ ⟨bN aw,h2.upd,rfl⟩⟩;have ar:=FB (B:=17) (l:=ds.map fun d=>d.name ++ bw ++ gP z sp d v) fun y bj=>by
     obtain ⟨e,he,rfl⟩:=dN.mp bj;have cT:=(bl.al e.name (zS he)).1.2;have eu:(gP z sp e v).length <= 8:=D9 (z2 (by omega));rw [bZ,bZ,hA];omega
    rw [r9];rw [a8] at ar tG ⊢;omega
  rintro yY dV ⟨s5,mR,rfl⟩;have yb:=s4.trans s5;have lc:(aa "colours ").length=8:=by ac_nf
  subst a7;nofun;refine ⟨_,_,yb _ _ eo,rh,by omega,by rw [bZ];omega,Di,by rw [bZ,bZ];omega,?_⟩;refine ⟨aP,a3,db,bR,bo,off,_,_,_,_,_,_,_,rfl,g0.d.same yb,g0.o.same yb,mR,ac' vv aK.1 aK.2,.inr ⟨by ac_nf,Xs g0 ay bl fun I aO eB=>⟨rfl,?_⟩⟩⟩;rw [decide_eq_true rfl];exact q I (yb.trans aO) eB
 rw [eH];dsimp only;simp only [c3];refine cG (decide (cn ns k 4=1)) (fun Q aN=>?_) (fun aai=>?_) (fun aai=>?_)
 .nofun;exact aN
 .simp only [c3];have lc:(aa "wait ").length=5:=by ac_nf
  obtain ⟨u,l9⟩:∃ u,(ee z sp d.name)[(v % (z:Int)).toNat]? = some u:=by
   have h0:=gQ v (show (z:Int) ≠ 0 by omega);have ag:=h1 v (show (0:Int) < z by omega);exact ⟨_,cv (by rw [wR];omega)⟩
  have agJ:=xK (c6 l9);nofun;refine ⟨pl,k9,n,ds,z,sp,d,v,u,rfl,x3,by omega,c6 hd,l9,_,rfl,?_⟩;rw [show v + u - v=u by omega];refine ⟨lT (by omega),_,_,eo,rh,by omega,by rw [bZ];omega,by rw [bZ,bZ];omega,by rw [bZ,bZ,bZ];omega,Di,by rw [bZ,bZ,bZ,bZ];omega,?_⟩;refine ⟨aP,a3,db,bR,bo,off,_,_,_,_,_,_,_,rfl,g0.d,g0.o,jr.a5,KI vv p4 aK.1 aK.2,.inr ⟨by ac_nf,QO g0 ay (c6 hd) l9 fun I aO eB=>⟨rfl,?_⟩⟩⟩;rw [decide_eq_true rfl];exact q I aO eB
 rw [eH];dsimp only;simp only [c3];refine cG (decide (cn ns k 4=2)) (fun Q aN=>?_) (fun V7=>?_) (fun V7=>?_)
 .nofun;exact aN
 .simp only [c3];have lc:(aa "longest ").length=8:=by ac_nf
  obtain ⟨m,hm⟩:=I5 (l:=ee z sp d.name) (fun e=>by have:=wR (z:=z) (sp:=sp) (x:=d.name);rw [e] at this;simp at this;omega);have ahP:=xK hm.1;have ak:(ee z sp d.name).idxOf m < z:=by
   have:=P5.mpr hm.1;rwa [wR] at this
  have cT:(aa (toString m)).length <= 59:=kp (v:=m) (by omega) (by omega);have eu:(aa (toString (((ee z sp d.name).idxOf m:Nat):Int))).length <= 59:=kp (v:=((ee z sp d.name).idxOf m:Nat)) (by omega) (by omega);nofun;refine ⟨pl,k9,n,ds,z,sp,i,d,m,rfl,x3,by omega,hd,hm,fun p aw=>?_⟩;have s4:=bN (o:=.tup [.int m,.int ((ee z sp d.name).idxOf m:Nat)]) aw;refine ⟨p,rfl,_,cU.of aR,_,dh (j:=0) rfl,m,rfl,lT (by omega),by omega,p,rfl,_,cU.of aR,_,dh (j:=1) rfl,_,rfl,lT (by omega),by rw [bZ];omega,_,_,s4 _ _ eo,rh,by omega,by rw [bZ];omega,by rw [bZ,bZ];omega,?_⟩;refine ⟨aP,a3,db,bR,bo,off,_,_,_,_,_,_,_,rfl,g0.d.same s4,g0.o.same s4,jr.a5.upd,SI vv p4,.inr ⟨by ac_nf,SK g0 ay hd hm fun I aO eB=>⟨rfl,?_⟩⟩⟩;rw [decide_eq_true rfl];exact q I (s4.trans aO) eB
 rw [eH];dsimp only;simp only [c3];have fg:=fe ns (k + 5) (m:=20) (by decide);have pQ:=fl ns (k + 5) (m:=20) (by decide);exists (fun aQ I=>I=cj/\∃ m:Nat,(1 <= m/\m <= 20)/\aQ=[~~~aP,~~~a,some (.int k),some (.str bn),~~~pl,~~~dx,some (.int (cn ns k 4)),some (.int v),some (.str d.name),none,none,none,some (.int (m:Nat)),none,none]),0
 ·(nofun; repeat (dsimp only [ep];nofun));obtain ⟨m,hm⟩:∃ m:Nat,1 + cn ns (k + 5) 20=(m:Nat):=⟨(1 + cn ns (k + 5) 20).toNat,by omega⟩;rw [hm];exact ⟨jr,by omega,by omega,by decide,bu _ _ ⟨rfl,m,by omega,rfl⟩⟩
 rintro yj dC ⟨rfl,m0,ahl,rfl⟩;subst a7;simp only [c3];exists (fun aQ I=>I=dC/\∃ m:Nat,(1 <= m/\m <= 200)/\aQ=[~~~aP,~~~a,some (.int k),some (.str bn),~~~pl,~~~dx,some (.int (cn ns k 4)),some (.int v),some (.str d.name),none,none,none,some (.int (m:Nat)),none,none]),0
 .refine cG (decide (cn ns (k + 4) 8=0)) (fun Q aN=>?_) (fun _=>?_) (fun _=>?_)
  ·(nofun; repeat (dsimp only [ep];nofun));exact ⟨jr,by omega,by omega,by decide,aN⟩
  .nofun;exact bu _ _ ⟨rfl,200,by omega,rfl⟩
  .rw [eH];exact bu _ _ ⟨rfl,m0,by omega,rfl⟩
 rintro yY dV ⟨rfl,m,hm,rfl⟩;subst a7;simp only [c3];exists (fun aQ I=>aF dV I/\aM I/\∃ c9,I c9=some (.lst (ba (jz v (ds.map (·.name)) (iL z sp ds v m))))/\aQ=[~~~aP,~~~a,some (.int k),some (.str bn),~~~pl,~~~dx,some (.int (cn ns k 4)),some (.int v),some (.str d.name),none,none,none,some (.int (m:Nat)),~~~c9,none]),0
 .nofun;refine ⟨by omega,by omega,?_⟩;rw [qg];refine cZ.range (fun i ys I=>aF dV I/\aM I/\∃ qs:List Addr,ys=qs.map V.ref/\qs.length=i/\∀ (j:Nat) (a:Addr),qs[j]? = some a->I a=some (.bV (fZ (ds.map (·.name)) (p8 z sp ds (v + (j:Nat)))))) (cp hm.2 (by decide)) ⟨aF.refl dV,jr.a5,[],rfl,rfl,fun j a e=>by simp at e⟩ ?_ ?_ ?_
  .rintro i ys I _ bh;ac_rfl
   obtain ⟨_,_,qs,rfl,e,_⟩:=bh;subst a7;rw [a8];omega
  .rintro i ys I ak ⟨s1,cq,qs,rfl,e,al⟩ N j3;nofun;refine ⟨Sub.name,pl,k9,n,ds,z,sp,v + (i:Int),rfl,x3.same s1,by omega,cq,fun p az s2 cQ aw aD=>?_⟩;refine j3 _ _ ⟨s1.trans s2,cQ,qs ++ [p],by rw [eQ];rfl,by rw [eV,e];rfl,fun j a aS=>?_⟩;rcases jV aS with ⟨_,h⟩ | ⟨h,rfl⟩
   .exact s2 _ _ (al j a h)
   .rw [aD,Qf (by omega),show v + (i:Int)=v + (j:Nat) by omega]
  .rintro ys I ⟨s1,cq,qs,rfl,e,al⟩ p aw;exact ⟨v,ds.map (·.name),iL z sp ds v m,p,qs,rfl,bl,Md hm.2,Nk aw e al,cq.upd,fun r az s2 cQ aj aD=>bu _ _ ⟨s1.trans ((bN aw).trans s2),cQ,r,aD,rfl⟩⟩
 rintro nq ib ⟨gx,i5,c9,i3,rfl⟩;subst a7;simp only [c3];exists (fun aQ I=>aF ib I/\aM I/\aQ=[~~~aP,~~~a,some (.int k),some (.str bn),~~~pl,~~~dx,some (.int (cn ns k 4)),some (.int v),some (.str d.name),none,none,none,some (.int (m:Nat)),~~~c9,some (.str (iA bw [aa "draw",bn,num v,num m]))]),0
 .nofun;have lm:(aa (toString (m:Int))).length <= 59:=kp (v:=(m:Int)) (by omega) (by omega);have aio:(num (m:Int)).length <= 59:=lm;have agF:(num v).length <= 59:=lv;have lc:(aa "draw").length=4:=by ac_nf
  refine ⟨Di,lT (by omega),by decide,fun p aw=>⟨[aa "draw",bn,num v,num m],aH.of aR,?_,bu _ _ ⟨bN aw,i5.upd,rfl⟩⟩⟩;simp only [dP,hE,vd,aa2,fp,AN];omega
 rintro jb gC ⟨eT,iQ,rfl⟩;have zb:=gx.trans eT;subst a7;nofun;refine ⟨_,_,zb _ _ eo,rh,aP,a3,db,bR,bo,off,_,_,_,_,_,_,_,rfl,g0.d.same zb,g0.o.same zb,iQ,Uj vv aK.1 aK.2 (by omega),.inr ⟨by ac_nf,UD g0 ay bl hm.2 fun I aO eB=>?_⟩⟩;refine ⟨_,aH.of (aO _ _ (eT _ _ i3)),ND bl hm.2,rfl,?_⟩;rw [decide_eq_true rfl];exact q I (zb.trans aO) eB
theorem Off.nil {H:ah}:Off [] H H:=⟨aF.refl H,fun _ h=>absurd h (by simp),fun _ h=>absurd h (by simp)⟩
theorem rH (kvs:List (Key × V)) (k:Key) (v:V):(eA kvs k v).length <= kvs.length + 1:=by
 unfold eA;split
 .rw [a8];omega
 .rw [eV];simp
theorem rX (kvs:List (Key × V)) (k:Key) (v:V):c8 (eA kvs k v) k=some v:=by rw [Pe,if_pos rfl]
theorem ad8 {n:Int} {ds:List aG} (D:md n ds) (h:1 <= ds.length/\ds.length <= 4):j1 (ds.map (·.name)):=by
 refine ⟨by rw [a8];omega,D.aA,fun x ao=>?_⟩;obtain ⟨d,hd,rfl⟩:=dN.mp ao;exact bd (D.al d hd).1.nm
theorem MI {n:Int} {ds:List aG} (h:ke n ds):(e4 n ds).length <= 19000:=by
 have ag:=lE nl 63 ((f3 n ds).map (b3 bw)) (I3 h);have ar:((f3 n ds).map (b3 bw)).length <= 13:=by
  rw [a8];unfold f3;rw [fp,a8];have:=h.ln;omega
 rw [jJ] at ag;unfold e4;omega
theorem FP {n:Int} {ds:List aG} {z:Nat} {sp:List bK} (h:lO n ds z sp):(fz z sp).length <= 19000:=by
 have ag:=lE nl 240 ((fJ z sp).map (b3 bw)) fun y bj=>by
  obtain ⟨r,aj,rfl⟩:=dN.mp bj;have ay:=h.eJ;have hw:(∀ x ∈ r,x.length <= 59)/\r.length <= 4:=by
   unfold fJ at aj;rcases cP.mp aj with rfl | aj
   .refine ⟨fun x ao=>?_,by simp⟩;simp only [cP,fw,or_false] at ao;rcases ao with rfl | rfl
    .ac_nf
    .exact kp (by omega) (by omega)
   .obtain ⟨c',aC,rfl⟩:=dN.mp aj;exact ⟨Ie h.g ay.2 aC,by simp [iN]⟩
  have:=lE bw 59 r hw.1;rw [hA] at this;omega
 have ar:((fJ z sp).map (b3 bw)).length <= 41:=by
  rw [a8];unfold fJ;rw [fp,a8];have:=h.g.ln;omega
 rw [jJ] at ag;unfold fz;omega
theorem BS {t:bt} {H off:ah} {aP a3 db:Addr} {bR bo:List (Key × V)} (ka:fG t H aP a3 db bR bo) (o:Off [a3,db] H off) (a5:aM H) {x:Str} (ao:made x dO 8=true) {n:Int} {ds:List aG} (cX:ke n ds) (aI:bR.length <= 1000) {Q:cm} {E:eU} (q:∀ c I b',Off [a3,db] I b'->aF off b'->aM I->fG t I aP a3 db (eA bR (.inr x) (.ref c)) bo->d7 t b' c n ds->Q (.str (aa "ok")) I):zN t [.ref aP,.str (aa "crossing " ++ x ++ nl ++ e4 n ds)] H Q E:=
 ⟨aP,a3,db,bR,bo,off,_,_,_,_,_,_,_,rfl,ka,o,a5,XQ ao (MI cX),.inl ⟨by ac_nf,fun l gN s1 ax=>.inl ⟨x,n,ds,rfl,ax,cX,aI,fun c I b' cK hv eB jm ji=>q c I b' cK (s1.trans hv) eB jm ji⟩⟩⟩
theorem GJ {t:bt} {H off:ah} {aP a3 db c:Addr} {bR bo:List (Key × V)} (ka:fG t H aP a3 db bR bo) (o:Off [a3,db] H off) (a5:aM H) {x y:Str} (ao:made x dO 8=true) (bj:made y dO 8=true) {n:Int} {ds:List aG} {z:Nat} {sp:List bK} (aK:c8 bR (.inr y)=some (.ref c)) (C:d7 t off c n ds) (gm:lO n ds z sp) (aI:bo.length <= 1000) {Q:cm} {E:eU} (q:∀ a I b',Off [a3,db] I b'->aF off b'->aM I->fG t I aP a3 db bR (eA bo (.inr x) (.ref a))->fH t b' a c n ds z sp->Q (.str (aa "ok")) I):zN t [.ref aP,.str (aa "plan " ++ x ++ aa " " ++ y ++ nl ++ fz z sp)] H Q E:=
 ⟨aP,a3,db,bR,bo,off,_,_,_,_,_,_,_,rfl,ka,o,a5,Y0 ao bj (FP gm),.inl ⟨by ac_nf,fun l gN s1 ax=>.inr ⟨x,y,c,n,ds,z,sp,rfl,ax,aK,C.same s1,gm,aI,fun a I b' cK hv eB jm qc=>q a I b' cK (s1.trans hv) eB jm qc⟩⟩⟩
noncomputable def dw (x:Str):aG:=⟨2,x,0,2,1,1,1⟩
theorem adW (b x:Str):aa "crossing " ++ b ++ aa "\nring 5\ntram " ++ x ++ aa " 0 2 1 1 1"=aa "crossing " ++ b ++ nl ++ e4 5 [dw x]:=by
 apply js;have ax:(aa "\nring 5\ntram ").cps.toList=[10] ++ ((aa "ring").cps.toList ++ [32,53,10] ++ (dK 2).cps.toList ++ [32]):=by ac_nf
 have aD:(aa " 0 2 1 1 1").cps.toList=[32,48,32,50,32,49,32,49,32,49]:=by ac_nf
 have cu:(num 5).cps.toList=[53]:=by ac_nf
 have gr:(num 0).cps.toList=[48]:=by ac_nf
 have hj:(num 2).cps.toList=[50]:=by ac_nf
 have i3:(num 1).cps.toList=[49]:=by ac_nf
 have kg:e4 5 [dw x]=b3 ⟨#[10]⟩ [b3 ⟨#[32]⟩ [aa "ring",num 5],b3 ⟨#[32]⟩ [dK 2,x,num 0,num 2,num 1,num 1,num 1]]:=by rw [<- jP,<- km];rfl
 rw [kg];simp only [gI,gZ,kf,dP,hE,f7,ax,aD,cu,gr,hj,i3,jP,nt,mP,ma]
theorem aap (y b x:Str):aa "plan " ++ y ++ aa " " ++ b ++ aa "\nround 9\nfree " ++ x ++ aa " 2 3"=aa "plan " ++ y ++ aa " " ++ b ++ nl ++ fz (9:Nat) [⟨x,2,3⟩]:=by
 apply js;have ax:(aa "\nround 9\nfree ").cps.toList=[10] ++ ((aa "round").cps.toList ++ [32,57,10] ++ (aa "free").cps.toList ++ [32]):=by ac_nf
 have aD:(aa " 2 3").cps.toList=[32,50,32,51]:=by ac_nf
 have cu:(num 9).cps.toList=[57]:=by ac_nf
 have gr:(num 2).cps.toList=[50]:=by ac_nf
 have hj:(num 3).cps.toList=[51]:=by ac_nf
 have kg:fz (9:Nat) [⟨x,2,3⟩]=b3 ⟨#[10]⟩ [b3 ⟨#[32]⟩ [aa "round",num 9],b3 ⟨#[32]⟩ [aa "free",x,num 2,num 3]]:=by rw [<- jP,<- km];rfl
 rw [kg];simp only [gI,gZ,kf,dP,hE,f7,ax,aD,cu,gr,hj,jP,nt,mP,ma]
theorem Ye (y x:Str):aa "wait " ++ y ++ aa " " ++ x ++ aa " 5"=aa "wait " ++ y ++ aa " " ++ x ++ aa " " ++ num 5:=by
 apply js;have aD:(aa " 5").cps.toList=(aa " ").cps.toList ++ (num 5).cps.toList:=by ac_nf
 simp only [gI,gZ,aD,nt]
structure kH (K:a') (a:Addr) (ns:List Int) (H off:ah) (aP a3 db wl dx bk:Addr) (ds:List aG) (d6 dr dX:Str):Prop where
 o:Off [a3,db] H off
 a5:aM H
 sc:Sc K a ns off
 w:jv off wl ds
 nm:off dx=some (.lst (ba (ds.map (·.name))))
 bw:off bk=some (.lst [.str d6,.str dr,.str dX])
theorem kH.step {K:a'} {a:Addr} {ns:List Int} {H I off b':ah} {aP a3 db wl dx bk:Addr} {ds:List aG} {d6 dr dX:Str} (B:kH K a ns H off aP a3 db wl dx bk ds d6 dr dX) (o:Off [a3,db] I b') (s:aF off b') (n:aM I):kH K a ns I b' aP a3 db wl dx bk ds d6 dr dX:=
 ⟨o,n,B.sc.same s (fun b u e=>n b u (o.bf b u e)),B.w.same s,s _ _ B.nm,s _ _ B.bw⟩
theorem jo.go {t:bt} {H I off b':ah} {aP a3 db pl:Addr} {bR bo rm Et:List (Key × V)} {bn:Str} {n:Int} {ds:List aG} {z:Nat} {sp:List bK} (D:jo t H off aP a3 db pl bR bo bn n ds z sp) (ka:fG t I aP a3 db rm Et) (o:Off [a3,db] I b') (s:aF off b') (aK:c8 Et (.inr bn)=c8 bo (.inr bn)):jo t I b' aP a3 db pl rm Et bn n ds z sp:=by
 obtain ⟨c,aew⟩:=D.ek;obtain ⟨a,ho,ag,TP⟩:=D.dQ;exact ⟨ka,o,⟨c,aew.same s⟩,⟨a,ho,by rw [aK];exact ag,TP.same s⟩⟩
theorem Qr {x:Str} (h:made x dO 8=true):m9 5 (dw x):=⟨by dsimp only [dw];decide,h,by dsimp only [dw];decide,by dsimp only [dw];decide,by dsimp only [dw];decide,by dsimp only [dw];decide,by dsimp only [dw];decide,by dsimp only [dw];decide⟩
theorem abt {x:Str} (h:made x dO 8=true):ke 5 [dw x]:=⟨by decide,by simp,fun d hd=>by rw [nI.mp hd];exact Qr h,by simp⟩
theorem WV {x:Str} (h:made x dO 8=true):gF 5 [dw x] [(dw x,3)]:=by
 refine ⟨fun d hd=>by rw [nI.mp hd];exact ⟨Qr h,by dsimp only [dw];decide⟩,by simp,by simp,rfl,fun p aw=>by rw [nI.mp aw];exact ⟨by simp,by dsimp only [dw];decide,by dsimp only [dw];decide⟩,fun d hd=>by rw [nI.mp hd];exact ⟨_,aaZ _,rfl⟩,fun i j p q ag ar _=>?_⟩;have a:=(cW.mp ag).1;have b:=(cW.mp ar).1;simp at a b;omega
theorem RP {x:Str} (h:made x dO 8=true):lO 5 [dw x] 9 [⟨x,2,3⟩]:=by
 have:=(WV h).pl (z:=9) (b:=2) (by decide) (by decide) (by unfold c4 dw;simp) (by decide);exact this
theorem SV (x:Str):(ee 9 [⟨x,2,3⟩] x)[((5:Int) % ((9:Nat):Int)).toNat]? = some 6:=by
 have e:cR x [⟨x,2,3⟩]=[(2,3)]:=by unfold cR;simp
 unfold ee;rw [e];ac_nf
noncomputable def ae8 (K:a') (t:bt) (a:Addr) (ns:List Int) (aP a3 db wl dx bk:Addr) (n:Int) (ds:List aG) (d6 dr dX:Str) (hK:aG) (i:Nat) (σ:St) (I:ah):Prop:=∃ (pl:Addr) (z:Nat) (sp:List bK) (bR bo:List (Key × V)) (off:ah) (hC fI:Option V),kH K a ns I off aP a3 db wl dx bk ds d6 dr dX/\(bR.length <= 10 * i + 1/\bo.length <= 10 * i + 1)/\jo t I off aP a3 db pl bR bo dr n ds z sp/\lO n ds z sp/\(i=3->∃ c,c8 bR (.inr d6)=some (.ref c)/\d7 t off c 5 [dw hK.name])/\σ=[~~~a,some (.int n),~~~wl,some (.str (e4 n ds)),some (.str (fz z sp)),~~~dx,~~~pl,~~~aP,~~~bk,hC,fI]
theorem WS:bT P base T 11 t.w6 t.sr qo (IX K):=by
 exists T.Uk.ok jM,9
 obtain ⟨a,ns,rfl,jr,fQ,q⟩:=h;have bE:=No aj;have dA:cg P w K ai base c7 10 t.qQ t.tY yt (ep K a ns):=(ot T a ns fQ).mono (by decide);have Wo:cg P w K ai base c7 10 t.r5 t.tL qo (Nj K a ns):=(adI T a ns fQ).mono (by decide);have aa7:cg P w K ai base c7 10 t.rz t.ui yn (Jp K a ns):=(Sm T a ns fQ).mono (by decide);have QX:cg P w K ai base c7 10 t.ru t.xo yN (L1 K):=(adP T).mono (by decide);have Jn:cg P w K ai base c7 10 t.sZ t.v' BF (P9 K a ns):=(Ti T a ns fQ).mono (by decide);have DA:cg P w K ai base c7 10 t.tb t.wQ o7 (LC K a ns):=(adx T a ns fQ).mono (by decide);have aaj:cg P w K ai base c7 10 t.q_ t.tN zC (JD K t a ns):=acq T a ns fQ;have zc:cg P w K ai base c7 10 t.oT t.sF ["text"] (PO t):=(N5 T).mono (by decide);have xH:cg P w K ai base c7 10 t.pU t.qW u5 (OY t):=(M1 T).mono (by decide);have aa_:cg P w K ai base c7 9 t.pH t.t7 ["self"] (QK t):=(acv T).mono (by decide);have ku:cg P w K ai base c7 10 t.pM t.vA zi (zN t):=(Kg T).mono (by decide);refine ⟨_,(aE (bI (i:=1) jM.aA (bq Wo aj T.RU T.H9.bg T.YC (ab (U 0) au)))
   (aE (bI (i:=2) jM.aA (bq aa7 aj T.Yr T.Hy.bg T.Vx (ab (U 0) (ab (Db cO aJ (bq dA aj T.el T.d5.bg T.ei (ab (U 0) (ab aJ (ab aJ au))))) (ab (U 1) au)))))
   (aE (bI (i:=3) jM.aA (bq QX aj T.VE T.E1.bg T.acA (ab (U 1) (ab (U 2) au))))
   (aE (bI (i:=4) jM.aA (bq Jn aj T.Jv T.A8.bg T.QI (ab (U 0) (ab (U 2) (ab aJ au)))))
   (aE (rM (i:=5) jM.aA rfl (l3 rfl) rfl (gv (U 2)) (fU (sc:=br yH) rfl (by ac_nf)) (N:=["_law_way"]) (sel:=[none]) (gf (M:=["_law_script","_law_places_here","_law_ways_here","_law_text_here","_law_rows","_law_names_here","_law_plan_here","_law_desk","_law_books","_law_k","_law_row"]) (by ac_nf)) (eZ.of (fun _ _ _ _=>(b1 (i:=0) (eC (N:=["_law_way"]) (by ac_nf) rfl))) (fun _ _ _ _=>⟨_,gX,by walk_at "B"⟩) (fun _ _ _ _=>⟨_,(cx wn (U 0) aJ),by walk_at "B"⟩)) rfl)
   (aE (bI (i:=6) jM.aA (bq xH aj T.Cf T.u9.bg T.DV (ab (bq zc aj T.Dq T.tg.bg T.Gv (ab (U 3) au)) (ab (U 4) au))))
   (aE (bI (i:=7) jM.aA (UX T.So aa_ aj rfl T.WY T.Yx .nil b0))
   (aE (bI (i:=8) jM.aA (gD (ab (bq DA aj T.Op T.ur.bg T.ED (ab (U 0) (ab aJ au))) (ab (bq DA aj T.Op T.ur.bg T.ED (ab (U 0) (ab aJ au))) (ab (bq DA aj T.Op T.ur.bg T.ED (ab (U 0) (ab aJ au))) au)))))
   (aE (cI (cy jj (dd (U 7) T.h9 T.lF ku aj T.lL .nil b0 (ab (Db cS (Db cS (Db cS bG (cx dm (U 8) aJ)) bG) (U 3)) au)) bG (cc _)) (aU (bL jp)) cM)
   (aE (cI (cy jj (dd (U 7) T.h9 T.lF ku aj T.lL .nil b0 (ab (Db cS (Db cS (Db cS (Db cS (Db cS bG (cx dm (U 8) aJ)) bG) (cx dm (U 8) aJ)) bG) (U 4)) au)) bG (cc _)) (aU (bL jp)) cM)
   (aE (fN fT rfl (ja rfl T.iU (ab aJ au)) (b1 (i:=9) jM.aA) (aE (cI (ou (nj (bq aaj aj T.afg T.Dy.bg T.aeg (ab (U 7) (ab (U 0) (ab (Db cO aJ (Db hW aJ (U 9))) (ab (cx dm (U 8) aJ) (ab (U 6) (ab (U 5) au))))))))) (aU (bL jp)) cM)
   (aE (bI (i:=10) jM.aA (Db cS (Db cS (Db cS (Db cS bG (cx dm (U 8) aJ)) bG) (cx dm (U 5) aJ)) bG))
   (aE (cI (gy.pt (xe (cy dE (U 9) aJ (cc _)) (vi (cy jj (dd (U 7) T.h9 T.lF ku aj T.lL .nil b0 (ab (U 10) au)) bG (cc _))))) (aU (bL jp)) cM)
   (aE (cI (gy.pt (xe (cy dE (U 9) aJ (cc _)) (vi (cy jj (cx dm (U 8) aJ) (cx dm (U 8) aJ) (cc _))))) (aE (bI (i:=10) jM.aA (Db cS (Db cS (Db cS (Db cS (Db cS (Db cS bG (cx dm (U 8) aJ)) bG) (cx dm (U 8) aJ)) bG) (cx dm (U 5) aJ)) bG))
   (aE (cI (cy jj (dd (U 7) T.h9 T.lF ku aj T.lL .nil b0 (ab (U 10) au)) bG (cc _)) (aU (bL jp)) cM)
   (aU (cI (cy jj (dd (U 7) T.h9 T.lF ku aj T.lL .nil b0 (ab (Db cS (Db cS (Db cS (Db cS bG (cx dm (U 8) aJ)) bG) (cx dm (U 5) aJ)) bG) au)) bG (cc _)) (aU (bL jp)) cM)))) cM)
   (aU (cI (cy dE (U 9) aJ (cc _)) (aE (cI (cy jj (dd (U 7) T.h9 T.lF ku aj T.lL .nil b0 (ab (Db cS (Db cS (Db cS bG (cx dm (U 8) aJ)) bG) (U 3)) au)) bG (cc _)) (aU (bL jp)) cM)
   (aE (bI (i:=4) jM.aA (bq Jn aj T.Jv T.A8.bg T.QI (ab (U 0) (ab (U 2) (ab (Db cO aJ (bq dA aj T.el T.d5.bg T.ei (ab (U 0) (ab aJ (ab aJ au))))) au)))))
   (aE (cI (cy jj (dd (U 7) T.h9 T.lF ku aj T.lL .nil b0 (ab (Db cS (Db cS (Db cS (Db cS (Db cS bG (cx dm (U 8) aJ)) bG) (cx dm (U 8) aJ)) bG) (U 4)) au)) bG (cc _)) (aU (bL jp)) cM)
   (aU (bI (i:=6) jM.aA (bq xH aj T.Cf T.u9.bg T.DV (ab (bq zc aj T.Dq T.tg.bg T.Gv (ab (U 3) au)) (ab (U 4) au)))))))) cM)))))))
   (aU (bL jp))))))))))))),?_⟩
 refine fW (fun aQ I=>I=H/\∃ n:Int,(4 <= n/\n <= 99)/\aQ=[~~~a,some (.int n),none,none,none,none,none,none,none,none,none]) (fun dq bu=>?_) fun fD a7=>?_
 .nofun;exact ⟨rfl,jr,fun n a0=>bu _ _ ⟨rfl,n,a0,rfl⟩⟩
 rintro nD H1 ⟨rfl,n,a0,rfl⟩;subst a7;refine fW (fun aQ I=>aF H1 I/\Sc K a ns I/\∃ wl ds,jv I wl ds/\(1 <= ds.length/\ds.length <= 4)/\md n ds/\aQ=[~~~a,some (.int n),~~~wl,none,none,none,none,none,none,none,none]) (fun dq bu=>?_) fun fD a7=>?_
 .have bY:=fe ns 2 (m:=4) (by decide);have b_:=fl ns 2 (m:=4) (by decide);(nofun; repeat (dsimp only [ep];nofun));obtain ⟨m,hm⟩:∃ m:Nat,1 + cn ns 2 4=(m:Int):=⟨(1 + cn ns 2 4).toNat,by omega⟩;rw [hm];exact ⟨jr,by decide,by decide,by decide,m,n,rfl,jr,by omega,by omega,fun p ds I s2 mN _ L aB D=>bu _ _ ⟨s2,mN,p,ds,L,by omega,D,rfl⟩⟩
 rintro c5 az ⟨s2,mN,wl,ds,gT,fO,D,rfl⟩;have cX:ke n ds:=D.J3 (by omega) (by omega);have bl:=ad8 D fO;subst a7;refine fW (fun aQ I=>I=az/\aQ=[~~~a,some (.int n),~~~wl,some (.str (e4 n ds)),none,none,none,none,none,none,none]) (fun dq bu=>?_) fun fD a7=>?_
 .nofun;exact ⟨n,wl,ds,rfl,gT,D,by omega,by omega,mN.a5,bu _ _ ⟨rfl,rfl⟩⟩
 rintro lD cj ⟨rfl,rfl⟩;subst a7;refine fW (fun aQ I=>I=cj/\∃ (z:Nat) (sp:List bK),lO n ds z sp/\aQ=[~~~a,some (.int n),~~~wl,some (.str (e4 n ds)),some (.str (fz z sp)),none,none,none,none,none,none]) (fun dq bu=>?_) fun fD a7=>?_
 .nofun;exact ⟨wl,n,ds,0,rfl,mN,gT,fO,by omega,D,by omega,fun z sp aw=>bu _ _ ⟨rfl,z,sp,aw,rfl⟩⟩
 rintro yj dC ⟨rfl,z,sp,gm,rfl⟩;obtain ⟨ws,dc,dI,iP⟩:=id gT;subst a7;refine fW (fun aQ I=>aF dC I/\Sc K a ns I/\∃ dx,I dx=some (.lst (ba (ds.map (·.name))))/\aQ=[~~~a,some (.int n),~~~wl,some (.str (e4 n ds)),some (.str (fz z sp)),~~~dx,none,none,none,none,none]) (fun dq bu=>?_) fun fD a7=>?_
 .nofun;refine ⟨⟨_,aH.of dc⟩,?_⟩;refine cZ.r' (zs:=ba (ds.map (·.name))) (aH.of dc) (by rw [a8,dI];exact cp fO.2 (by decide)) (by rw [iJ,a8,a8,dI]) (fun j x y N ao bj j3=>?_) (fun p aw=>bu _ _ ⟨bN aw,mN.new aw,p,aR,rfl⟩);obtain ⟨n8,vX,rfl⟩:=cz ao;obtain ⟨mV,Dl,rfl⟩:=cz bj;obtain ⟨d,hd,rfl⟩:=cz Dl;nofun;exact ⟨Sub.name,_,cU.of (iP j n8 d vX hd),_,dh (j:=1) rfl,j3⟩
 rintro yY dV ⟨s5,FT,dx,hj,rfl⟩;subst a7;refine fW (fun aQ I=>aF dV I/\aM I/\∃ pl c,fH t I pl c n ds z sp/\aQ=[~~~a,some (.int n),~~~wl,some (.str (e4 n ds)),some (.str (fz z sp)),~~~dx,~~~pl,none,none,none,none]) (fun dq bu=>?_) fun fD a7=>?_
 .nofun;refine ⟨n,ds,[],_,rfl,cX,FT.a5,Off.nil,fun c I b' gx i5 xZ wJ uB=>?_⟩;refine ⟨c,n,ds,z,sp,[],b',rfl,xZ,uB,gm.u6,gm.d,gm.eJ,gm.g,i5,gm.GK,gm.Fh,gm.cl,fun pl cf IW eT iQ pA CD ck=>?_⟩;exact bu _ _ ⟨gx.trans eT,iQ,pl,c,ck.same pA.bf,rfl⟩
 rintro nq ib ⟨gx,i5,pl,k9,Q1,rfl⟩;subst a7;refine fW (fun aQ I=>aM I/\∃ aP a3 db off,aF ib off/\Off [a3,db] I off/\fG t I aP a3 db [] []/\aQ=[~~~a,some (.int n),~~~wl,some (.str (e4 n ds)),some (.str (fz z sp)),~~~dx,~~~pl,~~~aP,none,none,none]) (fun dq bu=>?_) fun fD a7=>?_
 .nofun;intro x av ao pJ dW;refine ⟨x,av,rfl,aR,by rw [aW dW];exact aR,fun a3 db dB I bg e2 eo hH e8 ZY vf f5=>⟨rfl,?_⟩⟩;refine bu _ _ ⟨e2 (i5.upd).upd,x,a3,db,g8 [a3,db] I,fun b u e=>?_,⟨v8,fun _ h=>v3 h,fun b af=>?_⟩,⟨⟨av,dB,eo⟩,hH,e8,ZY⟩,rfl⟩
  .have da:upd (upd ib av (.own x)) x (.ins t.e0 av []) b=some u:=by rw [aW (cV e ao),aW (cV e pJ)];exact e
   rw [ci]
   .exact bg b u (cV e ao) da
   .intro af;simp only [cP,fw,or_false] at af;rcases af with rfl | rfl
    .rw [vf] at da;cases da
    .rw [f5] at da;cases da
  .simp only [cP,fw,or_false] at af;rcases af with rfl | rfl
   .exact ⟨_,hH⟩
   .exact ⟨_,e8⟩
 rintro jb gC ⟨iQ,aP,a3,db,adf,eT,pA,Rf,rfl⟩;have jZ:Sc K a ns gC:=FT.same ((gx.trans eT).trans pA.bf) iQ;subst a7;refine fW (fun aQ I=>aF gC I/\aM I/\∃ bk d6 dr dX,gC bk=none/\I bk=some (.lst [.str d6,.str dr,.str dX])/\(made d6 dO 8=true/\made dr dO 8=true/\made dX dO 8=true)/\aQ=[~~~a,some (.int n),~~~wl,some (.str (e4 n ds)),some (.str (fz z sp)),~~~dx,~~~pl,~~~aP,~~~bk,none,none]) (fun dq bu=>?_) fun fD a7=>?_
 .nofun;refine ⟨0,rfl,jZ,by omega,fun d6 h0=>⟨1,rfl,jZ,by omega,fun dr ag=>⟨2,rfl,jZ,by omega,fun dX ar=>?_⟩⟩⟩;exact ⟨by decide,fun bk wi=>bu _ _ ⟨bN wi,iQ.upd,bk,d6,dr,dX,wi,aR,⟨h0,ag,ar⟩,rfl⟩⟩
 rintro uC gK ⟨fs,vL,bk,d6,dr,dX,wi,j0,jy,rfl⟩;have Fo:=pA.same fs;have ON:=Rf.same fs;obtain ⟨pn,CU,A4,T_⟩:∃ pn,Off [a3,db] gK pn/\aF adf pn/\pn bk=some (.lst [.str d6,.str dr,.str dX]):=by
  refine ⟨g8 [a3,db] gK,⟨v8,fun _ h=>v3 h,Fo.aP⟩,Fo.hS,?_⟩;rw [ci]
  .exact j0
  .intro af;obtain ⟨kvs,e⟩:=Fo.aP bk af;rw [j0] at e;cases e
 have aaC:kH K a ns gK pn aP a3 db wl dx bk ds d6 dr dX:=⟨CU,vL,FT.same ((gx.trans eT).trans A4) (fun b o e=>vL b o (CU.bf b o e)),gT.same (((s5.trans gx).trans eT).trans A4),A4 _ _ (eT _ _ (gx _ _ hj)),T_⟩;have adZ:fH t pn pl k9 n ds z sp:=Q1.same (eT.trans A4);have agv:(e4 n ds).length <= 19000:=MI cX;have aC:30000 <= sizeLine:=by decide
 have agH:d6.length <= 8:=(bd jy.1).1.2;have ahW:dr.length <= 8:=(bd jy.2.1).1.2;have ai0:dX.length <= 8:=(bd jy.2.2).1.2;have lc:(aa "crossing ").length=9:=by ac_nf
 have ahd:(aa "plan ").length=5:=by ac_nf
 have ag0:(aa "\n").length=1:=jJ;have ag_:(aa " ").length=1:=hA;subst a7;simp only [c3];refine jA (fun b I=>b=false/\∃ c b',kH K a ns I b' aP a3 db wl dx bk ds d6 dr dX/\aF pn b'/\fG t I aP a3 db (eA [] (.inr d6) (.ref c)) []/\d7 t b' c n ds) (fun fY aN=>?_) (fun I r=>nomatch r.1) (fun ag8 r=>?_)
 .obtain ⟨⟨av,dB,eo⟩,_,_,_⟩:=id ON;nofun;refine ⟨_,_,eo,jK ul (kC ..) (by ac_nf),_,aH.of j0,_,dh (j:=0) rfl,_,rfl,by omega,by rw [bZ];omega,by rw [bZ,bZ];omega,?_⟩;refine BS ON CU vL jy.1 cX (by decide) fun c I b' cK hv eB jm ji=>⟨rfl,?_⟩
  rw [decide_eq_true rfl];exact aN _ _ ⟨rfl,c,b',aaC.step cK hv eB,hv,jm,ji⟩
 obtain ⟨_,Sl,ahR,wz,Up,Nv,RG⟩:=r;rw [eH];dsimp only;simp only [c3];refine jA (fun b I=>b=false/\∃ bR bo b',kH K a ns I b' aP a3 db wl dx bk ds d6 dr dX/\(bR.length <= 1/\bo.length <= 1)/\jo t I b' aP a3 db pl bR bo dr n ds z sp) (fun fY aN=>?_) (fun I r=>nomatch r.1) (fun aha r=>?_)
 .obtain ⟨⟨av,dB,eo⟩,_,_,_⟩:=id Nv;have oc:=wz.o.bf _ _ wz.bw;have VP:=FP gm;nofun;refine ⟨_,_,eo,jK ul (kC ..) (by ac_nf),_,aH.of oc,_,dh (j:=1) rfl,_,rfl,by omega,by rw [bZ];omega,_,aH.of oc,_,dh (j:=0) rfl,_,rfl,by rw [bZ,bZ];omega,by rw [bZ,bZ,bZ];omega,by rw [bZ,bZ,bZ,bZ];omega,?_⟩;refine GJ Nv wz.o wz.a5 jy.2.1 jy.1 (rX _ _ _) RG gm (by decide) fun hq I b' cK hv eB jm qc=>⟨rfl,?_⟩
  rw [decide_eq_true rfl];exact aN _ _ ⟨rfl,_,_,b',wz.step cK hv eB,⟨cp (rH _ _ _) (by simp),cp (rH _ _ _) (by simp)⟩,⟨jm,cK,⟨k9,adZ.same (Up.trans hv)⟩,⟨hq,Sl,rX _ _ _,qc⟩⟩⟩
 obtain ⟨_,bR,bo,acy,SF,CC,ae7⟩:=r;rw [eH];dsimp only;simp only [c3];obtain ⟨hK,rj⟩:∃ hK,ds[0]? = some hK:=⟨ds[0],cv (by omega)⟩;have xC:made hK.name dO 8=true:=(D.al hK (c6 rj)).1.nm;have air:hK.name.length <= 8:=(bd xC).1.2;have zB:iZ (ba (ds.map (·.name))) 0=some (.str hK.name):=dh (j:=0) (Ao (by rw [dS,rj];rfl));refine rc (fun aQ I=>True) (fun dq bu Nn _ _=>?_) ?_
 .nofun;refine ⟨by decide,by decide,?_⟩;refine ec.range (ae8 K t a ns aP a3 db wl dx bk n ds d6 dr dX hK) ⟨pl,z,sp,bR,bo,acy,none,none,SF,by omega,ae7,gm,fun h=>absurd h (by decide),rfl⟩ ?_ ?_
  .rintro i σ I ak bh;ac_rfl
   obtain ⟨pl,z,sp,bR,bo,off,hC,fI,B,CC,g0,gm,bc,rfl⟩:=bh;have afl:i < 8:=by have:i < (8:Int).toNat:=ak;omega
   subst a7;simp only [i7,c3,yB,An,Cr];refine jA (fun b cf=>b=false/\aF I cf/\aM cf) (fun fY aN=>?_) (fun cf r=>nomatch r.1) (fun K4 r=>?_)
   .nofun;refine ⟨.inl (by decide),_,aH.of (B.o.bf _ _ B.bw),_,dh (j:=1) rfl,?_⟩;exact ⟨aP,a3,db,pl,dx,bR,bo,dr,off,_,n,ds,z,sp,rfl,B.sc.same B.o.bf B.a5,by omega,g0,jy.2.1,gm,bl,B.o.bf _ _ B.nm,fun cf aO eB=>⟨true,rfl,aN _ _ ⟨rfl,aO,eB⟩⟩⟩
   obtain ⟨_,t1,fc⟩:=r;have pX:=B.step (B.o.same t1) (aF.refl off) fc;have vG:jo t K4 off aP a3 db pl bR bo dr n ds z sp:=⟨g0.d.same t1,g0.o.same t1,g0.ek,g0.dQ⟩;rw [eH];dsimp only;simp only [c3];refine Gw (fun aQ cf=>cf=K4/\aQ=[~~~a,some (.int n),~~~wl,some (.str (e4 n ds)),some (.str (fz z sp)),~~~dx,~~~pl,~~~aP,~~~bk,some (.int (i:Nat)),some (.str (aa "crossing " ++ d6 ++ nl ++ e4 5 [dw hK.name]))]) (fun dq bu=>?_) ?_
   .have XG:(aa "\nring 5\ntram ").length=13:=by ac_nf
    have ZJ:(aa " 0 2 1 1 1").length=10:=by ac_nf
    nofun;refine ⟨_,aH.of (pX.o.bf _ _ pX.bw),_,dh (j:=0) rfl,_,rfl,by omega,by rw [bZ];omega,_,aH.of (pX.o.bf _ _ pX.nm),_,zB,_,rfl,by rw [bZ,bZ];omega,by rw [bZ,bZ,bZ];omega,?_⟩;rw [adW];exact bu _ _ ⟨rfl,rfl⟩
   rintro MY ahu ⟨rfl,rfl⟩;simp only [c3];refine jA (fun b cf=>b=false/\∃ rm b',kH K a ns cf b' aP a3 db wl dx bk ds d6 dr dX/\rm.length <= bR.length + 1/\jo t cf b' aP a3 db pl rm bo dr n ds z sp/\(i=2\/i=3->∃ c,c8 rm (.inr d6)=some (.ref c)/\d7 t b' c 5 [dw hK.name])) (fun fY aN=>?_) (fun cf r=>nomatch r.1) (fun afU r=>?_)
   .nofun;by_cases pQ:i=2
    .rw [if_pos (by subst pQ;decide)];obtain ⟨av,dB,eo⟩:=vG.d.b6;refine ⟨_,_,eo,jK ul (kC ..) (by ac_nf),BS vG.d vG.o pX.a5 jy.1 (abt xC) (by omega) fun c cf b' cK hv eB jm ji=>⟨rfl,?_⟩⟩;rw [decide_eq_true rfl];exact aN _ _ ⟨rfl,_,b',pX.step cK hv eB,rH _ _ _,vG.go jm cK hv rfl,fun _=>⟨c,rX _ _ _,ji⟩⟩
    .rw [if_neg (by simp;omega)];exact aN _ _ ⟨rfl,bR,off,pX,by omega,vG,fun h=>bc (h.resolve_left pQ)⟩
   obtain ⟨_,lR,Ld,pC,ahx,u2,N1⟩:=r;rw [eH];dsimp only;simp only [c3];refine rc (fun aQ cf=>∃ qe um fI,kH K a ns cf um aP a3 db wl dx bk ds d6 dr dX/\qe.length <= bo.length + 1/\jo t cf um aP a3 db pl lR qe dr n ds z sp/\(i=2->∃ c,c8 lR (.inr d6)=some (.ref c)/\d7 t um c 5 [dw hK.name])/\aQ=[~~~a,some (.int n),~~~wl,some (.str (e4 n ds)),some (.str (fz z sp)),~~~dx,~~~pl,~~~aP,~~~bk,some (.int (i:Nat)),fI]) (fun dq bu Nn _ _=>?_) ?_
   .have rx:=pC.o.bf _ _ pC.bw;refine cG (decide (i=3) && !decide (dX=dr)) (fun Q aN=>?_) (fun aq=>?_) (fun _=>?_)
    .nofun;by_cases H2:i=3
     .rw [if_pos (by subst H2;decide)];refine ⟨_,aH.of rx,_,dh (j:=2) rfl,_,aH.of rx,_,dh (j:=1) rfl,rfl,?_⟩;rw [decide_eq_true H2,tF] at aN;rw [show decide (V.str dX=V.str dr)=decide (dX=dr) from decide_eq_decide.mpr ⟨fun z=>V.str.inj z,fun z=>by rw [z]⟩];exact aN
     .rw [if_neg (by simp;omega)];rw [decide_eq_false H2,q0] at aN;exact aN
    .simp only [iV,decide_eq_true_eq,VI,decide_eq_false_iff_not] at aq;obtain ⟨EU,Za,oG⟩:=N1 (.inr aq.1);simp only [c3];refine Gw (fun aQ cf=>cf=afU/\aQ=[~~~a,some (.int n),~~~wl,some (.str (e4 n ds)),some (.str (fz z sp)),~~~dx,~~~pl,~~~aP,~~~bk,some (.int (i:Nat)),some (.str (aa "plan " ++ dX ++ aa " " ++ d6 ++ nl ++ fz (9:Nat) [⟨hK.name,2,3⟩]))]) (fun dq bu=>?_) ?_
     .have XG:(aa "\nround 9\nfree ").length=14:=by ac_nf
      have ZJ:(aa " 2 3").length=4:=by ac_nf
      nofun;refine ⟨_,aH.of rx,_,dh (j:=2) rfl,_,rfl,by omega,by rw [bZ];omega,_,aH.of rx,_,dh (j:=0) rfl,_,rfl,by rw [bZ,bZ];omega,by rw [bZ,bZ,bZ];omega,_,aH.of (pC.o.bf _ _ pC.nm),_,zB,_,rfl,by rw [bZ,bZ,bZ,bZ];omega,by rw [bZ,bZ,bZ,bZ,bZ];omega,?_⟩;rw [aap];exact bu _ _ ⟨rfl,rfl⟩
     rintro J2 agX ⟨rfl,rfl⟩;simp only [c3];refine jA (fun b cf=>b=false/\∃ hq b',kH K a ns cf b' aP a3 db wl dx bk ds d6 dr dX/\aF Ld b'/\fG t cf aP a3 db lR (eA bo (.inr dX) (.ref hq))/\fH t b' hq EU 5 [dw hK.name] 9 [⟨hK.name,2,3⟩]) (fun fY aN=>?_) (fun cf r=>nomatch r.1) (fun q' r=>?_)
     .obtain ⟨av,dB,eo⟩:=u2.d.b6;nofun;refine ⟨_,_,eo,jK ul (kC ..) (by ac_nf),GJ u2.d u2.o pC.a5 jy.2.2 jy.1 Za oG (RP xC) (by omega) fun hq cf b' cK hv eB jm qc=>⟨rfl,?_⟩⟩;rw [decide_eq_true rfl];exact aN _ _ ⟨rfl,hq,b',pC.step cK hv eB,hv,jm,qc⟩
     obtain ⟨_,wO,uM,g9,wJ,vo,Ju⟩:=r;rw [eH];dsimp only;have qd:jo t q' uM aP a3 db pl lR (eA bo (.inr dX) (.ref wO)) dr n ds z sp:=u2.go vo g9.o wJ (by rw [Pe,if_neg (fun z=>aq.2 (rC z).symm)]);have ab5:jo t q' uM aP a3 db wO lR (eA bo (.inr dX) (.ref wO)) dX 5 [dw hK.name] 9 [⟨hK.name,2,3⟩]:=⟨vo,g9.o,⟨EU,Ju⟩,⟨wO,EU,rX _ _ _,Ju⟩⟩;refine jA (fun b cf=>b=false/\aF q' cf/\aM cf) (fun fY aN=>?_) (fun cf r=>nomatch r.1) (fun Vq r=>?_)
     .obtain ⟨av,dB,eo⟩:=qd.d.b6;have U6:=g9.o.bf _ _ g9.bw;have lw:(aa "wait ").length=5:=by ac_nf
      have ag1:(aa " 5").length=2:=by ac_nf
      nofun;refine ⟨_,_,eo,jK ul (kC ..) (by ac_nf),_,aH.of U6,_,dh (j:=2) rfl,_,rfl,by omega,by rw [bZ];omega,_,aH.of (g9.o.bf _ _ g9.nm),_,zB,_,rfl,by rw [bZ,bZ];omega,by rw [bZ,bZ,bZ];omega,?_⟩;rw [Ye];refine ⟨aP,a3,db,lR,_,uM,_,_,_,_,_,_,_,rfl,qd.d,qd.o,g9.a5,KI jy.2.2 xC (by decide) (by decide),.inr ⟨by ac_nf,QO ab5 (by decide) (d:=dw hK.name) (by simp) (SV hK.name) fun cf aO eB=>⟨rfl,?_⟩⟩⟩;rw [show num 6=aa "6" by ac_nf,decide_eq_true rfl];exact aN _ _ ⟨rfl,aO,eB⟩
     obtain ⟨_,BY,CN⟩:=r;rw [eH];exact bu _ _ ⟨_,uM,_,g9.step (g9.o.same BY) (aF.refl _) CN,rH _ _ _,⟨qd.d.same BY,qd.o.same BY,qd.ek,qd.dQ⟩,fun h=>absurd h (by omega),rfl⟩
    .rw [eH];exact bu _ _ ⟨bo,Ld,_,pC,by omega,u2,fun h=>N1 (.inl h),rfl⟩
   rintro S5 ahO bh;ac_rfl
   obtain ⟨qe,um,abn,xw,ahq,Bm,aa5,rfl⟩:=bh;subst a7;dsimp only;refine cG (decide (i=4)) (fun Q aN=>?_) (fun aq=>?_) (fun _=>?_)
   .nofun;rw [show decide (((i:Nat):Int)=4)=decide (i=4) from decide_eq_decide.mpr (by omega)];exact aN
   .have CW:i=4:=of_decide_eq_true aq;have rx:=xw.o.bf _ _ xw.bw;simp only [c3];refine jA (fun b cf=>b=false/\∃ c b',kH K a ns cf b' aP a3 db wl dx bk ds d6 dr dX/\fG t cf aP a3 db (eA lR (.inr d6) (.ref c)) qe/\d7 t b' c n ds) (fun fY aN=>?_) (fun cf r=>nomatch r.1) (fun q' r=>?_)
    .obtain ⟨av,dB,eo⟩:=Bm.d.b6;nofun;refine ⟨_,_,eo,jK ul (kC ..) (by ac_nf),_,aH.of rx,_,dh (j:=0) rfl,_,rfl,by omega,by rw [bZ];omega,by rw [bZ,bZ];omega,?_⟩;refine BS Bm.d Bm.o xw.a5 jy.1 cX (by omega) fun c cf b' cK hv eB jm ji=>⟨rfl,?_⟩
     rw [decide_eq_true rfl];exact aN _ _ ⟨rfl,c,b',xw.step cK hv eB,jm,ji⟩
    obtain ⟨_,x6,uM,g9,vo,uB⟩:=r;rw [eH];dsimp only;simp only [c3];refine Gw (fun aQ cf=>cf=q'/\∃ (z:Nat) (sp:List bK),lO n ds z sp/\aQ=[~~~a,some (.int n),~~~wl,some (.str (e4 n ds)),some (.str (fz z sp)),~~~dx,~~~pl,~~~aP,~~~bk,some (.int (i:Nat)),abn]) (fun dq bu=>?_) ?_
    .have bY:=fe ns 90 (m:=3) (by decide);have b_:=fl ns 90 (m:=3) (by decide);have Ba:Sc K a ns q':=g9.sc.same g9.o.bf g9.a5;(nofun; repeat (dsimp only [ep];nofun));exact ⟨Ba,by decide,by decide,by decide,wl,n,ds,_,rfl,Ba,g9.w.same g9.o.bf,fO,by omega,D,by omega,fun z sp aw=>bu _ _ ⟨rfl,z,sp,aw,rfl⟩⟩
    rintro X1 Vq bh;ac_rfl
    obtain ⟨rfl,ey,nR,mj,rfl⟩:=bh;subst a7;simp only [c3];refine jA (fun b cf=>b=false/\∃ hq b',kH K a ns cf b' aP a3 db wl dx bk ds d6 dr dX/\fG t cf aP a3 db (eA lR (.inr d6) (.ref x6)) (eA qe (.inr dr) (.ref hq))/\fH t b' hq x6 n ds ey nR) (fun fY aN=>?_) (fun cf r=>nomatch r.1) (fun aiE r=>?_)
    .obtain ⟨⟨av,dB,eo⟩,_,_,_⟩:=id vo;have oc:=g9.o.bf _ _ g9.bw;have VP:=FP mj;nofun;refine ⟨_,_,eo,jK ul (kC ..) (by ac_nf),_,aH.of oc,_,dh (j:=1) rfl,_,rfl,by omega,by rw [bZ];omega,_,aH.of oc,_,dh (j:=0) rfl,_,rfl,by rw [bZ,bZ];omega,by rw [bZ,bZ,bZ];omega,by rw [bZ,bZ,bZ,bZ];omega,?_⟩;refine GJ vo g9.o g9.a5 jy.2.1 jy.1 (rX _ _ _) uB mj (by omega) fun hq cf b' cK hv eB jm qc=>⟨rfl,?_⟩
     rw [decide_eq_true rfl];exact aN _ _ ⟨rfl,hq,b',g9.step cK hv eB,jm,qc⟩
    obtain ⟨_,OM,aaW,B_,V0,acg⟩:=r;rw [eH];dsimp only;nofun;refine ⟨n,ds,[a3,db],aaW,rfl,cX,B_.a5,B_.o,fun c cf b' gx i5 xZ wJ uB=>?_⟩;refine ⟨c,n,ds,ey,nR,[a3,db],b',rfl,xZ,uB,mj.u6,mj.d,mj.eJ,mj.g,i5,mj.GK,mj.Fh,mj.cl,fun ae9 cj IW eT iQ pA CD ck=>?_⟩;have ahV:=rH lR (.inr d6) (.ref x6);have qF:=rH qe (.inr dr) (.ref OM);exact ⟨ae9,ey,nR,_,_,IW,_,_,(B_.step xZ wJ i5).step pA CD iQ,⟨by omega,by omega⟩,⟨(V0.same gx).same eT,pA,⟨c,ck⟩,⟨OM,x6,rX _ _ _,acg.same (wJ.trans CD)⟩⟩,mj,fun h=>absurd h (by omega),rfl⟩
   .rw [eH];exact ⟨pl,z,sp,lR,qe,um,_,_,xw,⟨by omega,by omega⟩,Bm,gm,fun h=>aa5 (by omega),rfl⟩
  .rintro σ I _;exact bu _ _ trivial
 rintro agy aiU _;nofun;exact q _
end My
open PySem PySem.W PyProof.Rows
set_option maxRecDepth 100000 in
set_option maxHeartbeats 0 in
theorem PySem.Challenge.cw_lampway_k80_a_desk_answers_holds : PySem.Challenge.rw_lampway_k80_a_desk_answers.Holds := by
 refine hd80 ?_
 k_fill
 refine L2.abZ (l:=PySem.Challenge.rw_lampway_k80_a_desk_answers) (n:=63) (k:=11) (x := "_law_script") (CX:=L2.c7) (sp:=L2.IX) rfl (by decide) rfl ⟨rfl,by decide,by decide⟩ (fun w h Y=>L2.s_in_of Y) ?F ?S ?C
 case F=>
  intro w ai ic h ko G tQ;have T:∃ t,My.Txt w (L2.QC ko) ai t:=by
   dsimp only [L2.QC];refine' ⟨My.bt.mk,⟨⟨?mqaa,?Fqab,?mqac,?Fqad,?mqae,?Fqaf,?mqag,?Fqah,?mqai,?Fqaj,?mqak,?Fqal,?mqam,?Fqan,?mqao,?Fqap,?mqaq,?Fqar,?mqas,?Fqat⟩,⟨?mqau,?Fqav,?mqaw,?Fqax,?mqay,?Fqaz,?mqba,?Fqbb,?mqbc,?Fqbd,?mqbe,?Fqbf,?mqbg,?Fqbh,?mqbi,?Fqbj,?mqbk,?Fqbl,?mqbm,?Fqbn⟩,⟨?mqbo,?Fqbp,?mqbq,?Fqbr,?mqbs,?Fqbt,?mqbu,?Fqbv,?mqbw,?Fqbx,?mqby,?Fqbz,?mqca,?Fqcb,?mqcc,?Fqcd,?mqce,?Fqcf,?mqcg,?Fqch⟩,⟨?mqci,?Fqcj,?mqck,?Fqcl,?mqcm,?Fqcn,?mqco,?Fqcp,?mqcq,?Fqcr,?mqcs,?Fqct,?mqcu,?Fqcv,?mqcw,?Fqcx,?mqcy,?Fqcz,?mqda,?Fqdb⟩,⟨?mqdc,?Fqdd,?mqde,?Fqdf,?mqdg,?Fqdh,?mqdi,?Fqdj,?mqdk,?Fqdl,?mqdm,?Fqdn,?mqdo,?Fqdp,?mqdq,?Fqdr,?mqds,?Fqdt,?mqdu,?Fqdv⟩,⟨?mqdw,?Fqdx,?mqdy,?Fqdz,?mqea,?Fqeb,?mqec,?Fqed,?mqee,?Fqef,?mqeg,?Fqeh,?mqei,?Fqej,?mqek,?eqel,?Fqem,?eqen,?Fqeo,?eqep⟩,⟨?Fqeq,?eqer,?Fqes,?eqet,?Fqeu,?eqev,?Fqew,?eqex,?Fqey,?mqez,?eqfa,?Fqfb,?mqfc,?eqfd,?Fqfe,?eqff,?Fqfg,?eqfh,?Fqfi,?mqfj⟩,⟨?eqfk,?Fqfl,?eqfm,?Fqfn,?eqfo,?Fqfp,?mqfq,?eqfr,?Fqfs,?eqft,?Fqfu,?eqfv,?Fqfw,?mqfx,?eqfy,?Fqfz,?eqga,?Fqgb,?eqgc,?Fqgd⟩,⟨?eqge,?Fqgf,?mqgg,?eqgh,?Fqgi,?mqgj,?eqgk,?Fqgl,?eqgm,?Fqgn,?eqgo,?Fqgp,?eqgq,?Fqgr,?sqgs,?sqgt,?sqgu,?sqgv,?sqgw,?sqgx⟩,⟨?sqgy,?sqgz,?nqha,?nqhb,?nqhc,?sqhd,?nqhe,?nqhf,?nqhg,?nqhh,?nqhi,?nqhj,?nqhk,?sqhl,?sqhm,?sqhn,?sqho,?nqhp,?nqhq,?nqhr⟩,⟨?nqhs,?nqht,?nqhu,?nqhv,?sqhw,?sqhx,?sqhy,?sqhz,?nqia,?nqib,?nqic,?nqid,?nqie,?nqif,?nqig,?sqih,?sqii,?sqij,?sqik,?nqil⟩,⟨?nqim,?nqin,?nqio,?nqip,?nqiq,?nqir,?sqis,?sqit,?sqiu,?sqiv,?sqiw,?nqix,?nqiy,?nqiz,?mqja,?sqjb,?nqjc,?nqjd,?nqje,?nqjf⟩,⟨?nqjg,?nqjh,?nqji,?nqjj,?mqjk,?sqjl,?nqjm,?nqjn,?nqjo,?nqjp,?nqjq,?nqjr,?nqjs,?nqjt,?sqju,?sqjv,?nqjw,?nqjx,?nqjy,?nqjz⟩,⟨?nqka,?mqkb,?sqkc,?nqkd,?nqke,?nqkf,?sqkg,?sqkh,?sqki,?sqkj,?sqkk,?nqkl,?nqkm,?nqkn,?dqko,?dqkp,?dqkq,?dqkr,?dqks,?dqkt⟩,⟨?sqku,?mqkv,?vqkw,?mqkx,?vqky,?mqkz,?tqla,?yqlb,?uqlc,?uqld,?uqle,?uqlf,?uqlg,?uqlh,?uqli,?uqlj,?uqlk,?uqll,?mqlm,?vqln⟩,⟨?mqlo,?vqlp,?mqlq,?vqlr,?mqls,?vqlt,?mqlu,?vqlv,?mqlw,?vqlx,?mqly,?vqlz,?mqma,?vqmb,?mqmc,?vqmd,?mqme,?vqmf,?mqmg,?vqmh⟩,⟨?mqmi,?vqmj,?mqmk,?vqml,?mqmm,?vqmn,?mqmo,?tqmp,?mqmq,?uqmr,?mqms,?mqmt,?mqmu,?bqmv,?bqmw,?bqmx,?bqmy,?bqmz,?bqna,?bqnb⟩,⟨?bqnc,?bqnd,?bqne,?lqnf⟩⟩⟩
   case mqaa | mqac | mqae | mqag | mqai | mqak | mqam | mqao | mqaq | mqas | mqau | mqaw | mqay | mqba | mqbc | mqbe | mqbg | mqbi | mqbk | mqbm | mqbo | mqbq | mqbs | mqbu | mqbw | mqby | mqca | mqcc | mqce | mqcg | mqci | mqck | mqcm | mqco | mqcq | mqcs | mqcu | mqcw | mqcy | mqda | mqdc | mqde | mqdg | mqdi | mqdk | mqdm | mqdo | mqdq | mqds | mqdu | mqdw | mqdy | mqea | mqec | mqee | mqeg | mqei | mqek | mqez | mqfc | mqfj | mqfq | mqfx | mqgg | mqgj | mqja | mqjk | mqkb | mqkv | mqkx | mqkz | mqlm | mqlo | mqlq | mqls | mqlu | mqlw | mqly | mqma | mqmc | mqme | mqmg | mqmi | mqmk | mqmm | mqmo | mqmq | mqms | mqmt | mqmu=>(try dsimp only);refine' PySem.W.mg_of ko G ?z;case z=>k_is
   case eqel | eqen | eqep | eqer | eqet | eqev | eqex | eqfa | eqfd | eqff | eqfh | eqfk | eqfm | eqfo | eqfr | eqft | eqfv | eqfy | eqga | eqgc | eqge | eqgh | eqgk | eqgm | eqgo | eqgq=>(try dsimp only);k_is
   case sqgs | sqgt | sqgu | sqgv | sqgw | sqgx | sqgy | sqgz | sqhd | sqhl | sqhm | sqhn | sqho | sqhw | sqhx | sqhy | sqhz | sqih | sqii | sqij | sqik | sqis | sqit | sqiu | sqiv | sqiw | sqjb | sqjl | sqju | sqjv | sqkc | sqkg | sqkh | sqki | sqkj | sqkk | sqku=>(try dsimp only);constructor <;> k_is
   case Fqab | Fqad | Fqaf | Fqah | Fqaj | Fqal | Fqan | Fqap | Fqar | Fqat | Fqav | Fqax | Fqaz | Fqbb | Fqbd | Fqbf | Fqbh | Fqbj | Fqbl | Fqbn | Fqbp | Fqbr | Fqbt | Fqbv | Fqbx | Fqbz | Fqcb | Fqcd | Fqcf | Fqch | Fqcj | Fqcl | Fqcn | Fqcp | Fqcr | Fqct | Fqcv | Fqcx | Fqcz | Fqdb | Fqdd | Fqdf | Fqdh | Fqdj | Fqdl | Fqdn | Fqdp | Fqdr | Fqdt | Fqdv | Fqdx | Fqdz | Fqeb | Fqed | Fqef | Fqeh | Fqej | Fqem | Fqeo | Fqeq | Fqes | Fqeu | Fqew | Fqey | Fqfb | Fqfe | Fqfg | Fqfi | Fqfl | Fqfn | Fqfp | Fqfs | Fqfu | Fqfw | Fqfz | Fqgb | Fqgd | Fqgf | Fqgi | Fqgl | Fqgn | Fqgp | Fqgr=>(try dsimp only);refine' L2.YW ?x ?y ?z;(case x=>k_is);(case y=>k_is);(case z=>k_is)
   case nqha | nqhb | nqhc | nqhe | nqhf | nqhg | nqhh | nqhi | nqhj | nqhk | nqhp | nqhq | nqhr | nqhs | nqht | nqhu | nqhv | nqia | nqib | nqic | nqid | nqie | nqif | nqig | nqil | nqim | nqin | nqio | nqip | nqiq | nqir | nqix | nqiy | nqiz | nqjc | nqjd | nqje | nqjf | nqjg | nqjh | nqji | nqjj | nqjm | nqjn | nqjo | nqjp | nqjq | nqjr | nqjs | nqjt | nqjw | nqjx | nqjy | nqjz | nqka | nqkd | nqke | nqkf | nqkl | nqkm | nqkn=>(try dsimp only);unfold L2.bB;k_is
   case dqko | dqkp | dqkq | dqkr | dqks | dqkt=>(try dsimp only);decide
   case vqkw | vqky | vqln | vqlp | vqlr | vqlt | vqlv | vqlx | vqlz | vqmb | vqmd | vqmf | vqmh | vqmj | vqml | vqmn=>(try dsimp only);exact ⟨_,rfl⟩
   case bqmv | bqmw | bqmx | bqmy | bqmz | bqna | bqnb | bqnc | bqnd | bqne=>(try dsimp only);refine' PySem.W.mg_none_of ko G ?z;case z=>k_is
   case tqla=>(try dsimp only);refine' L2.Mq ?x ?y ?z;(case x=>k_is);(case y=>k_keys);(case z=>intro x v h;simp only [cP,fw,or_false,GW] at h;rcases h with ⟨rfl,rfl⟩ | ⟨rfl,rfl⟩ | ⟨rfl,rfl⟩ | ⟨rfl,rfl⟩ | ⟨rfl,rfl⟩ | ⟨rfl,rfl⟩ | ⟨rfl,rfl⟩ | ⟨rfl,rfl⟩ | ⟨rfl,rfl⟩ | ⟨rfl,rfl⟩;all_goals (refine' L2.Kf ?px0 ?rx0;(case px0=>k_is);(case rx0=>first | exact ⟨_,rfl⟩ | rfl)))
   case tqmp=>(try dsimp only);refine' L2.Mq ?x ?y ?z;(case x=>k_is);(case y=>k_keys);(case z=>intro x v h;simp only [cP,fw,or_false,GW] at h;rcases h with ⟨rfl,rfl⟩ | ⟨rfl,rfl⟩ | ⟨rfl,rfl⟩ | ⟨rfl,rfl⟩;all_goals (refine' L2.Kf ?px0 ?rx0;(case px0=>k_is);(case rx0=>first | exact ⟨_,rfl⟩ | rfl)))
   case uqlc | uqld | uqle | uqlf | uqlg | uqlh | uqli | uqlj | uqlk | uqll | uqmr=>(try dsimp only);refine' My.abh ?x ?y ?z;(case x=>k_is);(case y=>decide);(case z=>(repeat (first | exact .nil | refine' .cons ⟨_,rfl⟩ ?_)))
   case yqlb=>(try dsimp only);refine' My.VL ?x ?y ?u ?z;(case x=>k_is);(case y=>k_keys);(case u=>decide);(case z=>(repeat (first | exact .nil | refine' .cons ⟨_,rfl⟩ ?_)))
   case lqnf=>(try dsimp only);exact fun _ _=>.of_eq rfl
  obtain ⟨t,T⟩:=T;have da:=tQ.symm.trans T.ab9;cases da;exact ⟨t.sr,T.aeJ,fun base aix nb=>My.WS T⟩
 case S=>exact fun K H a ns aB m3 fi=>⟨a,ns,rfl,L2.Sc.Rq m3 fi,aB,fun _=>rfl⟩
 case C=>exact fun _ _ _ _ z=>z
