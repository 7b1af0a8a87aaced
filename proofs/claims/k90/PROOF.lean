import PyProof.Rows.All
import OpenK.KLine
import OpenK.KWalk
import Wide.FinOn
import Lean
import PyProof.EqAt
import PyProof.EqKinds
import PyProof.TupleCall
import KE.KTryMore
import PyProof.NsDelKeeps
import KE.KPairComp
import KE.KDictList
import KE.KIntText
import KE.KNestM
import KE.KRevIter
import KE.KItem
import KE.KLam
import KE.KItemsList
import KE.KEqDict
import KE.KFromBytes
import KE.KMinKey
import KE.KDictOf
import KE.KxBytes
import PySem.Challenge.RW_lampway_k90_whole_round_at_a_desk
set_option compiler.extract_closed false
set_option Elab.async false
set_option linter.all false
set_option genSizeOf false
set_option maxRecDepth 100000
section
local macro_rules|`(universe $x*)=>do return Lean.mkNullNode (← x.mapM fun i=>`(command|theorem $(Lean.mkIdent (`PySem.W.Fast ++ i.getId)):ident:True:=⟨⟩))
universe tw9892098567731264450 tw4847119593567687378 tw10316339711461318142 tw16606226563135120464 tw12468266096397703596 tw14267094829371156332 tw2033159281849762191 tw13226446157226057897 tw231375586736698971 tw5272815380761651693 tw12746002195823603872 tw3891256187484337971 tw977516232065987203 tw10147768777540596002 tw12529197148251356937 tw17776695313738951141 tw15603135542363767077 tw17584596412276005819 tw12205448297647144128 tw11962663081182941685 tw13247263552651455771 tw9201945339018084239 tw4318816975970978083 tw9685454502198713827 tw17501515473390043445 tw13807630539610704076 tw11170536929266214263 tw5786689427640368207 tw15261271607329201914 tw3324373473159836972 tw11276152344182421158 tw5060049127539864699 tw1773708357173570174 tw2780666344118137136 tw6759329551818443809 tw5953140276739320735 tw16855152331093238511 tw6242506031983163114 tw15536013093936018633 tw9052246413627924767 tw12799790818993365193 tw13952090863064300940 tw4133307812559069459 tw13177012087105363164 tw4352163667959147235 tw10123999449135098177 tw16293092313335536697 tw3864994194250443112 tw4107927552892742796 tw408679124564278565 tw2388472076492357915 tw13857928868953694832 tw5425305781670361030 tw14469720714088481377 tw382032640906609251 tw16041587995947001394 tw9715905213078236187 tw14745475190159517849 tw16178603488657158251 tw16942912195419500155 tw15869900745729449661 tw10598839061893435591 tw8395064210230124762 tw3608996607869973370 tw13121323212875276233 tw1337290896649537962 tw14397452930795109835 tw7475470688057140729 tw1032597538034441611 tw9827679748329933940 tw11840457170142804131 tw13697296169747629691 tw6221844589213654894 tw12934390620068809120 tw7485088353470742541 tw9323788141095870667 tw6941394928857000525 tw15440619269391746163 tw10331980385491235251 tw3526286107509052927 tw17770948147161797006 tw10509509565958425888 tw10709778699731082797 tw15432465037368108119 tw15678666340188092128 tw8005313838762591635 tw5006059041020631249 tw8499528183648277906 tw877969583726585454 tw8383550074209363481 tw13636138383694367814 tw1639793708334931847 tw7738824044294286716 tw213966135610163168 tw3934226766890093100 tw13524907393116434300 tw8320928530335154613 tw11009064845544682195 tw900300152009945415 tw12107783279796429493 tw2950863095735171366 tw1603902539244733525 tw16136373442419816278 tw17900441454485828642 tw3271947961359376219 tw13490429811434790050 tw2812781726900743452 tw14466404344316586838 tw13165813778871765748 tw4784127167816982833 tw6783391415154694948 tw2028150917632249013 tw8676101960077884455 tw9413243695420137859 tw640049737705682436 tw17551725081811248963 tw11762607904588251948 tw15131131937143477343 tw13114774758334297568 tw11147883292508834336 tw3481737828608686693 tw15352120709369957389 tw6580528116476178317 tw15175420440706893015 tw13370685516985569832 tw9395179937534409335 tw9965980669275216075 tw15840420557124048326 tw5032530723367799732 tw13991665900365755380 tw1117169934716337022 tw2049754836852288070 tw3531024276864173222 tw4001964643818929314 tw3897233273702181078 tw17628572710387777836 tw17710998826166270727 tw15688501781508953123 tw7605527179515819900 tw1772001798295368396 tw13299419598437707773 tw3824701335291859130 tw248783227191109836 tw14565439199104975692 tw2364940784028969830 tw17921364872075255326 tw14933934408258311078 tw2925379006517605746 tw10401962035318974650 tw7437028671523914239 tw9092674075379152406 tw10222071631483577100 tw10893426839789059802 tw7653272681715737180 tw16720724637775110353 tw6369558542692371625 tw4123178825693983037 tw9289394129144450922 tw16634621777298748873 tw13756544400609663660 tw6629061989565463483 tw8142206647600217117 tw8716890880651256487 tw15005639110700127792 tw13997012640081492991 tw8676824369058531475 tw16087039348447454584 tw1125005069676529968 tw3302848382729436398 tw6938541002753164818 tw11821262113829019677 tw2807109235173607733 tw15199342651693637610 tw1522625364720633146 tw5510533422947678918 tw18340741593787104029 tw16507340701443529948 tw1156763344615583911 tw9294484591456010744 tw13545032923647616281 tw264322495959840157 tw2735144100391957267 tw13496117345689838186 tw14555902374690857241 tw8943819132549243131 tw8207280628117255027 tw13461004409118309223 tw2808219062058760728 tw17473965337215416641 tw5427459581651816867 tw6454315120255569650 tw13692128390491055562 tw18182088117382654780 tw1068637673976911480 tw13923703908566524421 tw17413015426765952675 tw17116258627325747901 tw3997559621459411044 tw16503800131103705003 tw2580208243495761010 tw17560808860677962101 tw9723838936184866516 tw6125652224247542409 tw17053871110259716245 tw13865338518311984594 tw4993529909784019816 tw802512813296130558 tw18094943689283469087 tw15534563235951857204 tw16345060451396998414 tw4439617173072152856 tw12713653561332630831 tw13208800502400794084 tw15155639028110141905 tw5227855650401500307 tw9705633837347457070 tw16309886958364137491 tw564129391596317053 tw3014494772340231369 tw10301992291657536324 tw15168906725998575738 tw11513426657812372459 tw14857721477100726213 tw13985412463479800779 tw13340601114646285013 tw12994340470457657420 tw12235111239516448131 tw13500013794543853475 tw2913781924099365987 tw17576906285896274218 tw5707756380668181395 tw6716971546928343695 tw15621234691270216569 tw2032218044447004096 tw1401778281704113418 tw17083836795131653953 tw14121940731954519484 tw8336677626726955709 tw4473224889734605459 tw10918495493731910153 tw13256551519605091116 tw17373526818803562614 tw9988681384337895271 tw4545165613220523501 tw18165352738708434957 tw12146938455649155794 tw16214083383834389369 tw8602892813203529121 tw9968671821734188435 tw12308842009812353843 tw507375871724213102 tw6425762799180631908 tw8606502512235830454 tw13414367077625088907 tw7182576017867201730 tw5125573257627829801 tw2207650114099833697 tw3666141799517908724 tw15449749900676477471 tw3751645469535423248 tw6557481098070612158 tw2002338405037303448 tw17580192360164852062 tw17589126071524548260 tw7221280644459357712 tw4028211196420877201 tw8654226459554182615 tw4919125788574163793 tw14124191773126081608 tw2171851421651209610 tw14140699169676756644 tw2365001498760360480 tw15670961935699527851 tw1658846652525056741 tw16168847707702729841 tw6416845960241914826 tw5359561720385734139 tw981507280783374441 tw3470394937086253427 tw1602738607365727031 tw12125176299762388690 tw3248530357292278085 tw13867603514662875283 tw7522697483228497719 tw9608307485079349941 tw2624801877148799732 tw3050511123914643900 tw11142362386328090501 tw16159454121994901687 tw12886333846656797061 tw10827300857486386225 tw6226244676919289550 tw9605242880416987480 tw16619733692839267778 tw1874877754898818890 tw4610786167394970775 tw4930336183258320015 tw7340237800818505856 tw810171326799570461 tw7548775675433358506 tw742906801203021461 tw16540935396410855043 tw15651773901850987223 tw17974214614298582906 tw10103177241995868175 tw5784362777858934594 tw10476177637037076848 tw14435560138883587793 tw14650616446662515712 tw881544694951282573 tw17187802938346363273 tw13606762336576383784 tw1038894545520420872 tw14865706157052867885 tw10089440181829432985 tw6050740948560788990 tw3170082902648784139 tw4768869036733070321 tw3629185898995231562 tw12559333803397870192 tw18319129924017671323 tw2237775235602483247 tw13253326676917445336 tw5424939548682345776 tw6859179807949762514 tw1562846832319459514 tw15570981131927173303 tw16394872311419766337 tw14880650167822221483 tw15606998406637051003 tw14344230254643091261 tw19435153990341214 tw2096778384533584082 tw5244631845304511241 tw7448210658251505725 tw12543149902280011929 tw12262459651693200827 tw797100402809387361 tw7822506163946382788 tw15100651502156152895 tw8387456022488343963 tw6046666287782215359 tw14948752258633997250 tw11131966547788981911 tw5224058879210926096 tw4962191883573704888 tw7361044977504241607 tw124393528090305956 tw5738436088171407521 tw14504084002436067028 tw341811788893861342 tw12775009381190957434 tw9487161592037447488 tw49289180106330019 tw10690267396766886236 tw6668682977617971955 tw12325742433575049738 tw4558380062538363314 tw9901266565939697837 tw14749056177907289480 tw3439702432814497388 tw10473135367860296216 tw6078530132536150390 tw2155832024488593435 tw8124047507726402239 tw17163430380170025143 tw8418229201826152777 tw12889329890010939801 tw13678191715993216868 tw900992053613128944 tw6086835664987604448 tw14964229653033022219 tw17368293764045520625 tw11984431794025012991 tw12748792467277958082 tw6686126413498511438 tw15209200120503946335 tw3364342533204422659 tw15384766788931207817 tw358505553308757039 tw3561220207129975088 tw5270706154246122047 tw746660256392296331 tw13343972868486768255 tw14092029785874256155 tw14164923797169893747 tw6995989557551025887 tw4709461813627591056 tw6670141459527159326 tw10210468734604978725 tw11227201633160179231 tw15148972485204664786 tw3487477616232048178 tw8629303447917568137 tw15831399400834002389 tw9541475315497287648 tw14967844273409797914 tw12426402034749734165 tw7551170268320815781 tw4012387293639141523 tw10009352725478591812 tw1195435876024326282 tw11630748766896395128 tw11536085909829732680 tw6016364126740593136 tw16611470437927420959 tw8744051224776608553 tw3691624735722956060 tw3263031700889210915 tw690642480732516912 tw5148687844500318893 tw8013139764859503941 tw2966445305548266802 tw12849788254395726236 tw7824115548624025447 tw16232091676142065900 tw10445447879238224652 tw13609674534161344255 tw6948246653533447016 tw10625398891614621397 tw14683841305793264013 tw15301176958471665171 tw9071781894958657587 tw13423110212046315369 tw3360736232740803079 tw18065320500026378639 tw3939976561387295506 tw10869558124612451978 tw10740559120522525351 tw2659164730404246950 tw1826495545625909862 tw15906257230628433235 tw15193785508101249419 tw1539967319285890041 tw15217084046451420695 tw4855006909793395511 tw156851767186466686 tw14844018725035818698 tw12381111950264074858 tw11112255717086478842 tw8623374879951203689 tw15096252629866369578 tw2335928002576020031 tw6284741607372689635 tw295830647314217203 tw7176526673973310037 tw9844441011954941076 tw13654695471993036760 tw5095123779416186222 tw4580343702680445157 tw4312511400294516776 tw2217536876103260832 tw11261220279811227637 tw12845350540412675840 tw10991002708055366292 tw1846787828128450063 tw3238556614791020071 tw4426229320943076766 tw3492853225267778971 tw1566639358022600355 tw6916054625819950052 tw18168522955585337322 tw9507154033726074648 tw11301143570895413214 tw12262567065148967230 tw16156129230820510084 tw8631059955956339258 tw6063193914672651674 tw7535946637317947712 tw17657117146720201994 tw5344668053967499958 tw17610007468429688845 tw13705635850503104477 tw7575089320536007266 tw12447841690689803689 tw9377499411927288869 tw1797421032719703855 tw7878816003179559701 tw6516316624592447822 tw5636602462627740518 tw13179135788384710701 tw6270242142633086994 tw14052607752379754300 tw18290509681184829276 tw12482224056555305864 tw5001146918678517605 tw89244063936452718 tw4999433131007365755 tw13419866766502009276 tw13579114608703620050 tw11081940392032889354 tw13812553418147723596 tw8752589157596375083 tw5567960213232881197 tw14141754484217194621 tw7284523321127615825 tw17377094141203430668 tw6408539011117386237 tw1175478753979584187 tw862941488526128061 tw16267225984267420351 tw7907941838505764418 tw16616744078824911251 tw5315260760812432881 tw10914259428190937738 tw17839498561694426979 tw4910948328998846990 tw4363536300865544267 tw13994668066809964111 tw1785251670602997215 tw12647499205213092975 tw11702170147201376785 tw11566140770493729998 tw10550910615406314794 tw16884511010368537729 tw2589296270545294274 tw14619729414486079457 tw11591934743331296574 tw8528175679699861770 tw12674713436157897669 tw9970933717388579885 tw10485724232112715346 tw1512044572690336048 tw7665097577041805205 tw357499670796459379 tw15584124507506726806 tw8857942119306312980 tw8730492815819537862 tw9005573597334242125 tw5442852801494985166 tw11045704785777635839 tw13048128389593327173 tw4170339839639503833 tw895941151699294852 tw4293987843263306301 tw17150639232323986488 tw16575653671932778309 tw1599804425660404861 tw16735059179183573236 tw15722365054726644038 tw14594651951660884873 tw7186167057617003982 tw18239520829178917107 tw14007232716845989078 tw1356142171027305179 tw12135057895704037949 tw892786815902339601 tw5804557743175351579 tw285150869871973534 tw18230011846919898378 tw17730848960791934631 tw17476925481619940458 tw12343972106265767485 tw11784326722620452300 tw4444968071856560355 tw7667102904050182799 tw6687147930034563992 tw13032367092220978448 tw11794204145266757246 tw10162850412195784115 tw4599404544604095102 tw2034437134691907961 tw1091135535244095179 tw6581526470195717566 tw6211793229510437758 tw496255764767304279 tw3088200080929625989 tw2559496422178841845 tw1642148712184663623 tw15557736353910218166 tw14145067861005015900 tw13373079453364742001 tw11702633191864782814 tw11270322520813116343 tw10776294273695256343 tw8117312944392284260 tw5836406846620089539 tw2176274964012975191 tw17472306781663772812 tw3103829839438578625 tw6906188035104280817 tw18426536025769979169 tw4976510048757389415 tw6254153507335878896 tw6140862503156175961 tw4874905172223501242 tw1643057881378662510 tw12162580952200292427 tw5188251578339325375 tw9304281097671697996 tw7849245515741179693 tw16008274520677591756 tw13021187269966928661 tw6815406335790059707 tw3321616729960394438 tw2696137193185969233 tw4957378667240927512 tw12095085803631546499 tw7546245262272798448 tw16415453544417422907 tw11870442422775047614 tw8543753190122401234 tw7463819772544426417 tw4847187305583787058 tw17615682857921757725 tw11809433528428533212 tw21536742642518002 tw12596406627398034955 tw12377593884970335522 tw11146584136008435194 tw11021716984562250463 tw7207617676861006947 tw1081601156929104572 tw3410307138247904239 tw2012220329034258788 tw3788797582630281061 tw522429697248124252 tw14724005624472620195 tw3592226827815681564 tw9563549434742750111 tw4522937475990011640 tw17061502257803929977 tw11475445570395368551 tw10524425162024416115 tw18405200347388713805 tw14468554358457941847 tw7300934150603924238 tw18395460297094193038 tw14086186802870528290 tw9762304784039092837 tw7101992331838922199 tw4136644706457331724 tw3970625847879498947 tw17817755860951816129 tw16834126814767766626 tw16825793922116041069 tw16615008191945844395 tw7840154900591911095 tw12737049939387182597 tw11690903671534972446 tw5885261006367329499 tw2604612573804992845 tw2542168540140630294 tw18201814681630887614 tw12104710439318205680 tw9842654390625398500 tw9526090509952469825 tw1715308912249011244 tw14330281209710083927 tw12717742767647863554 tw12105439331533776298 tw9596129687472338352 tw10373738247536118320 tw9806357849894578661 tw9747777165264520329 tw11015886890538313048 tw9621673166758348485 tw8922523762127331206 tw8796148172011705444 tw2019391657515059057 tw17967626210486081660 tw15046775885557126437 tw10516250919136177052 tw10022033147411025720 tw15503924252650174542 tw1278272745984178707 tw10323006912483741303 tw8287195527269704068 tw16767857123631360631 tw14214124867475116407 tw8323261706633368820 tw4837098399764292753 tw9587981904033118497 tw5983621222474904178 tw4985561361798813844 tw1834254561903861236 tw18228043671928622930 tw11392614519429774618 tw3508791427706620798 tw288707770063310207 tw13642713265297047999 tw10570139112899254015 tw5855287356987042057 tw15639513531934326749 tw17712365877511347895 tw16392365546719825983 tw13685860385246732117 tw6254926298051408320 tw14604429961925512004 tw17094200256189983615 tw16491858457704978291 tw6850345512796847536 tw7106728517424322095 tw8179284908577568991 tw15871084213277255682 tw6116751554916450945 tw3774466668998718739 tw13359337389605947897 tw16994017009174822730 tw356767419645982205 tw12582837948701941713 tw2313199283525345244 tw4263974054629736493 tw370910126241775233 tw1794883493316087750 tw9216303751951401568 tw2709043844145567972 tw11646668684752207765 tw9986935294657731750 tw6436053139724426071 tw1880330990152059557 tw1109262540806611510 tw5969812868196278751 tw9544019729997171583 tw6672194813793466386 tw3976603738749745853 tw14131907048695172739 tw650240389844860149 tw6193998352957309493 tw1705798318707016558 tw7203689848496629587 tw556260925989949438 tw18212386122751107676 tw16758647053264631121 tw11843633074610747665 tw11723752995113024200 tw2729660777159988309 tw18314089866886697493 tw17234584973422360551 tw7721969497813951369 tw4820324730228681469 tw2967557545681746069 tw140081595183520872 tw3124961232456887396 tw9447292565032784632 tw12822868896428295687 tw14227441516602604328 tw11271199741880473054 tw5317566547518765732 tw2131685692682260673 tw11576818988326981853 tw11441953431094820858 tw6117419821789514922 tw17651265326179342753 tw1429210249222503897 tw12553867128677539035 tw6913441063678023706 tw16076359033615789286 tw15659112975922795327 tw7389200089546393392 tw3597395271376445076 tw12442897307699787080 tw9292907004209123663 tw6376248198419782063 tw15946999700184693338 tw1513907587862536880 tw1954643091122539527 tw11471937041644907688 tw16416000828888721070 tw3693955644260310433 tw169878215338363162 tw11981411813865311584 tw13208657198661720229 tw7794701770153153520 tw16518999571244915390 tw13490532528673607010 tw10085475252073208636 tw10386364284669590098 tw9091370225501677104 tw6636880565340066511 tw4863552343038092214 tw3055248201813679360 tw4714540211796359990 tw16808885314445703470 tw2741482250611021678 tw6405483328367260805 tw4945111833288366581 tw2815678706277277025 tw2369720172249337395 tw2010430387227704705 tw18095805544435642897 tw17035555826671599578 tw15846394917523728164 tw11805404960880863513 tw11269839233620513239 tw11184249397104720533 tw111512795257332692 tw10258955025492562531 tw15103476601675105673 tw11874321004440116263 tw6553996379744205707 tw1587566658786194259 tw399254665686104990 tw7750344087576603526 tw6991877721705137577 tw9794714834288988729 tw8770557728332960860 tw853639688081812594 tw7810174705459736357 tw4720456244794542944 tw4163616103249101963 tw3959678513992898081 tw3532663277687976623 tw1633353096682689335 tw1457571759750433298 tw13135487343174622828 tw12485434403581432039 tw11159009381011973484 tw10645699768085687401 tw940438022802192710 tw12684757724079425764 tw9805177016809972405 tw7432975208618585089 tw5993893887222364196 tw1802028319147111518 tw17548469414707999465 tw14541461174499330326 tw14139079406406509185 tw13585825090123161190 tw1284203815252916254 tw12128060223632913435 tw11375687748255565626 tw18174159915857414714 tw927159718156050728 tw8281889937327747387 tw5658864959647032940 tw2357357043177045549 tw13813579523895032361 tw11638143928641063297 tw11179725629880831616 tw10676609326746449551 tw10237782358730150568 tw529034837787687911 tw4647942220955013992 tw3096456998782751469 tw184383636086470067 tw18119672860075791133 tw17345221938278714232 tw16456307794352042981 tw16443497963951890714 tw1272760674442781113 tw12542136147641461112 tw1219659051713911852 tw11731518965422904874 tw10060234450983542860 tw5416241263881070494 tw16139240700427704955 tw1263096619002086206 tw8982721201938069008 tw7695922347216216285 tw3258573257644245411 tw1948775570864743947 tw16495139590344542163 tw12111221636014984124 tw10817219922589847550 tw2933597993369664564 tw8538358981088853521 tw2092868438999078956 tw11085511073637240470 tw11019411215619636642 tw4146953625935277539 tw9748811399487876336 tw8614386838512368170 tw8595113208308432644 tw8453439166996375510 tw707812932582613605 tw6629426766699952448 tw6526458529388694193 tw6131742535452624723 tw5757944161082435155 tw5477100750222955186 tw5158673785743578305 tw4770080955521098362 tw210508863548953120 tw1827309811151041212 tw1555485459859145201 tw14759722640213086690 tw14002648526622140198 tw13964397428991361679 tw13529428438822183867 tw12633343751587754003 tw16899020659102628430 tw2501333676822766634 tw8044815393356410568 tw9687969938981890960 tw7337989837661489653 tw7227776495315286976 tw4892572357227296971 tw4327149978016085499 tw4283983175163689887 tw3146093660521174590 tw2034039754002655823 tw18286854947913273677 tw1735346876817183325 tw15554716622830908278 tw14933452884850064569 tw14659066004038252467 tw14498561017780252142 tw14345415393597875621 tw13946828862382394969 tw13246548881728368194 tw12765391177293631990 tw11939272520961237008 tw11064186580444362715 tw9447959528005911962 tw7083878276358341154 tw699373821088677088 tw6296709410989868366 tw6226362570629089938 tw4766626925333522621
end
namespace L2
open PySem PySem.W
theorem cut4{α β:Type}(f:α→β)(l:List α):l.map f=(l.take 200).map f++(((l.drop 200).take 200).map f++(((l.drop 400).take 200).map f++(l.drop 600).map f)):=by
  have e (n:Nat):l.drop n=(l.drop n).take 200++l.drop (n+200):=by
    rw[← List.drop_drop, List.take_append_drop]
  rw[← List.map_append, ← List.map_append, ← List.map_append, ← e 400, ← e 200]
  exact congrArg _ (e 0)
abbrev OptObjs:=List (Option Obj)
def sHook (K:Params→Frag) (as:List Addr) (e:∀P, as=(K P).map (·.1)) (ts:List Addr):Hook:=⟨((OptObjs×OptObjs)×(OptObjs×OptObjs))×OptObjs,
  fun s=>((((as.take 200).map s.heap.get?, ((as.drop 200).take 200).map s.heap.get?), (((as.drop 400).take 200).map s.heap.get?, (as.drop 600).map s.heap.get?)), ts.map s.heap.get?),
  fun w=>(((((K w.params).take 200).map fun p=>some p.2, (((K w.params).drop 200).take 200).map fun p=>some p.2), ((((K w.params).drop 400).take 200).map fun p=>some p.2, ((K w.params).drop 600).map fun p=>some p.2)), ts.map fun _=>some (tabObj #[])),
  (kmHook K as e ts).says,
  fun w s x=>(kmHook K as e ts).of w s (by
    obtain⟨x1, x2⟩:=Prod.mk.inj x
    obtain⟨x3, x4⟩:=Prod.mk.inj x1
    obtain⟨a, b⟩:=Prod.mk.inj x3
    obtain⟨c, d⟩:=Prod.mk.inj x4
    exact Prod.ext (by show as.map s.heap.get? = (K w.params).map _; rw[cut4 s.heap.get? as, cut4 _ (K w.params), a, b, c, d]) x2),
  (kmHook K as e ts).keeps⟩
theorem s_in_of{K:Params→Frag}{as:List Addr}{e:∀P, as=(K P).map (·.1)}{ts:List Addr}{w:World}{h:Heap}(Y:(sHook K as e ts).says w h):(K w.params).In h:=km_in_of (e:=e) (as:=as) (ts:=ts) Y
end L2
section
open PySem PySem.W PyProof.Rows
local macro_rules | `(tactic| o_head (kmHook $k $a $e $t)) => `(tactic| o_head (L2.sHook $k $a $e $t))
local macro_rules | `(Hook.obs (L2.sHook $k $a $e $t)) => `(fun (s : PySem.Shared) => ((((($a : List PySem.Addr).take 200).map s.heap.get?, ((($a : List PySem.Addr).drop 200).take 200).map s.heap.get?), (((($a : List PySem.Addr).drop 400).take 200).map s.heap.get?, (($a : List PySem.Addr).drop 600).map s.heap.get?)), ($t : List PySem.Addr).map s.heap.get?))
local macro_rules | `(Hook.val (L2.sHook $k $a $e $t)) => `(fun (w : PySem.World) => ((((($k w.params).take 200).map fun (p : PySem.Addr × PySem.Obj) => some p.2, ((($k w.params).drop 200).take 200).map fun (p : PySem.Addr × PySem.Obj) => some p.2), (((($k w.params).drop 400).take 200).map fun (p : PySem.Addr × PySem.Obj) => some p.2, (($k w.params).drop 600).map fun (p : PySem.Addr × PySem.Obj) => some p.2)), ($t : List PySem.Addr).map fun _ => some (PySem.W.tabObj #[])))
set_option maxHeartbeats 0
open_top hd90 for PySem.Challenge.rw_lampway_k90_whole_round_at_a_desk
end
set_option autoImplicit true
local macro_rules | `(tactic| ac_nf)=>`(tactic| decide +kernel)
local macro_rules | `(tactic| omega)=>`(tactic| first | with_reducible assumption | lia | omega (splitDisjunctions := true))
open Array renaming find?_toList→Z0,getElem?_eq_getElem→acg,getElem?_eq_none→adO,getElem?_eq_some_iff→Lx,getElem?_setIfInBounds_ne→QC,getElem?_toList→Ko,length_toList→l2,mem_toList_iff→ajB,toList→amr,toList_append→gS,toList_extract→Rd,toList_inj→apt
open Bool renaming and_eq_false_iff→alX,and_eq_true→jt,and_false→ac0,eq_iff_iff→mQ,false_and→tU,false_eq_true→xq,false_ne_true→gZ,false_or→ov,not_eq_true'→Xg,or_eq_false_iff→Uh,or_eq_true→x5,or_false→J0,or_true→EI,true_and→B6,true_or→ug
open Char renaming toNat→o9
open False renaming elim→ky
open ForInStep renaming yield→yd
open Int renaming add_emod→YF,add_emod_emod→aiQ,add_emod_right→aov,add_mul_emod_self_left→yy,dvd_refl→ady,ediv_one→aj3,emod_add_emod→Qq,emod_emod_of_dvd→ag',emod_eq_of_lt→jP,emod_lt_of_pos→e_,emod_nonneg→e8,emod_self→aju,emod_sub_emod→mz,le_refl→yu,le_trans→BR,lt_trans→aqb,mul_neg→aqy,mul_one→ap3,natCast_emod→ao_,sub_self→TM,toNat_natCast→pN,toNat_of_nonneg→iF,zero_add→xg,zero_emod→Pr
open List renaming all_cons→anm,all_eq_true→oe,all_map→ZE,any_cons→rR,any_eq_false→LD,any_eq_true→qO,any_map→Z',any_nil→aiz,append_assoc→jE,append_nil→ow,cons_append→kO,contains_cons→E2,drop_eq_getElem_cons→Bw,drop_of_length_le→BX,eq_of_mem_replicate→LX,eraseIdx_of_length_le→aec,exists_cons_of_ne_nil→anI,ext_getElem→q7,extract→ahe,filterMap_cons→Qn,filter_append→YZ,filter_cons_of_neg→Wh,filter_cons_of_pos→PV,find?→Pk,find?_cons→oo,find?_eq_none→zC,find?_eq_some_iff_getElem→apW,findSome?_cons→afk,findSome?_eq_none_iff→aih,flatten_append→RB,flatten_cons→tm,flatten_nil→ajw,foldl_append→R',foldl_cons→xR,foldl_nil→xt,getD→P0,getD_eq_getElem?_getD→gG,getElem?_append_left→sv,getElem?_append_right→sS,getElem?_cons_succ→wF,getElem?_eq_getElem→bJ,getElem?_eq_none→aaV,getElem?_eq_some_iff→cv,getElem?_map→d7,getElem?_mapIdx→afn,getElem?_of_mem→pJ,getElem?_range→A1,getElem?_replicate→Dn,getElem?_reverse→Pg,getElem?_set_ne→tT,getElem?_set_self→rg,getElem?_take_of_lt→CG,getElem?_toArray→af1,getElem?_zip_eq_some→apO,getElem_append→anH,getElem_inj→Bn,getElem_map→nZ,getElem_mem→nH,getElem_of_mem→sG,getElem_range→Sk,getElem_take→aoc,getElem_zipIdx→ad_,idxOf_lt_length_iff→anh,length→nA,length_append→c',length_cons→gw,length_drop→ac3,length_eq_zero_iff→XS,length_eraseIdx_le→Wt,length_filter_le→Q8,length_map→a9,length_mapIdx→Eb,length_nil→uZ,length_pos_iff→Jb,length_range→kf,length_replicate→kE,length_reverse→yR,length_set→DF,length_singleton→CQ,length_take→fw,length_zip→Mg,lookup→mA,lookup_cons→ob,map→gR,map_append→ew,map_congr_left→Sf,map_cons→dZ,map_map→pK,map_nil→gI,map_replicate→akk,map_reverse→U9,map_set→ajF,mem_append→il,mem_append_left→Uo,mem_append_right→p6,mem_cons→cT,mem_cons_of_mem→fS,mem_cons_self→lW,mem_eraseIdx_iff_getElem?→ahS,mem_filter→lu,mem_filterMap→aqL,mem_flatten→acp,mem_map→dg,mem_mapIdx→Z7,mem_of_getElem?→cC,mem_of_mem_take→C6,mem_or_eq_of_mem_set→UA,mem_range→pd,mem_singleton→j5,mem_zipIdx_iff_getElem?→anZ,min?_eq_some_iff→abZ,nil_append→nU,nodup_append→Xj,nodup_cons→sZ,nodup_nil→Cw,not_mem_nil→fq,of_mem_zip→OR,pairwise_iff_getElem→Iw,range→el,range_succ→Hc,replicate→ke,set_cons_succ→j',set_cons_zero→j8,size_toArray→d2,sublist_flatten_of_mem→akb,sum_cons→M5,take_add_one→tn,take_append→Z2,take_append_drop→aiC,take_length→kR,take_of_length_le→l4,take_zero→Bv
open List.Pairwise renaming filter→asr,nil→as3
open List.cons renaming inj→uy
open Nat renaming add_comm→aqh,add_mod_mod→aqm,digitChar→I5,le_of_eq→Dy,le_of_lt→sg,le_refl→b0,le_succ→uE,le_trans→cH,log2_lt→M1,lt_irrefl→qW,lt_of_le_of_lt→i5,lt_of_lt_of_le→ij,lt_of_succ_lt_succ→ae3,lt_or_ge→ajS,lt_succ_of_lt→Q3,lt_succ_self→TA,lt_trans→SW,lt_trichotomy→aa3,mod_lt→Cn,ne_of_gt→C8,ne_of_lt→fM,pow_le_pow_right→al6,reduceAdd→aks,reduceSub→aa6,succ_ne_self→ahr,toDigits→m_,zero_add→MA,zero_le→gx
open Ne renaming symm→dB
open Option renaming bind_some→SQ,getD_none→ahv,isSome_iff_exists→ak0,isSome_map→agX,map_eq_some_iff→ad3,map_some→Kc,none→abO,toList→H8
open Option.some renaming inj→d6,injEq→Dk
open Or renaming inl→m2,inr→p5
open Prod.mk renaming inj→Sb,injEq→Ct
open PyProof renaming noPylong_small→ana
open PyProof.Rows renaming callWith_builtin1→afJ,callWith_type1→vO,digits10_le→arl,iadd_int→asH,ljustF_list→arQ,rstrip_cut→arU,slot_tuple_getitem→Xs,spS→Hm,split_weight→anq
open PyProof.Rows.IsTup renaming new→ajP
open PySem renaming Within→Dc,call→RG,frameOf→JN,mem_of_lookup→Du
open PySem.Around renaming under→WU,under_plainId→ajG
open PySem.Builtin.Builtins renaming bindParams→aeP
open PySem.Builtin.Dict renaming dictSlotNone→ata,showsAll→aoS
open PySem.Builtin.Dict_items renaming ownsTuple→agW
open PySem.Builtin.List renaming listExtendWith→LB,listItems→acY,listLengthHint→aeZ,listSameRef→Z4,listTooLong→SK,listUpdate→ary
open PySem.Builtin.Range renaming rangeFitsLong→asG,rangeSize→J7,small→adf
open PySem.Builtin.Slice renaming sliceAdjust→R4,sliceApplied→apU,sliceFields→as5,slicePartIndex→as7,slicePlaces→JS
open PySem.Builtin.Str renaming occurrences→m',partsBetween→apq,strKind→aen,strSub→uc
open PySem.Builtin.Tuple renaming tupleExact→Gm,tupleItemsOf→asj
open PySem.Calls renaming Constant_str→WW,Name_function_global→ae5,callWith_builtin→ZX,spliced_cons→aha,spliced_nil→ang
open PySem.CmpOp renaming NotIn→ahQ
open PySem.Code renaming frames→ajy,isFrame→WJ,quiet_builtin→aoM
open PySem.Data renaming cell→IY,fields→Gd
open PySem.EntryCells renaming newEntry→aaK
open PySem.EqMixed renaming eq_bool_str→asW,eq_int_str→asY,eq_str_bool→arZ,eq_str_int→asn,ne_bool_str→asJ,ne_int_str→ar_,ne_str_bool→arA,ne_str_int→asa
open PySem.EqNone renaming eq_bool_none→asA,eq_int_none→arN,eq_none_bool→arv,eq_none_int→asu,eq_none_none→arx,eq_none_str→ar1,eq_str_none→atk,ne_bool_none→atj,ne_int_none→arh,ne_none_bool→asO,ne_none_int→ars,ne_none_none→as1,ne_none_str→ard,ne_str_none→aq'
open PySem.Expr renaming Call→Of
open PySem.F renaming args_dict_keyiterator_next_1→aeD,args_list_index_2→aiu,args_str_split_2→V6,args_tuple_add_2→agY,entry_dict_keyiterator_next→aeI,entry_list_index→akY,entry_min_loop→ao',entry_str_split→WT,entry_tuple_add→abA,excBase_ValueError→an0,plainAttrs_dict→agI,plainAttrs_list→mw,plainAttrs_str→lT,plain_min_loop→zd,slot_dict_getitem→ajx,slot_dict_items→apB,slot_dict_iter→amq,slot_dict_keyiterator_next→Cs,slot_dict_keys→abU,slot_list_append→qK,slot_list_extend→al',slot_list_index→B2,slot_str_join→yH,slot_str_ljust→ahx,slot_str_partition→ain,slot_str_split→vo,slot_tuple_add→aal,type_list_append→rl,type_list_index→Y8,type_str_join→z3,type_str_ljust→aiw,type_str_split→H7
open PySem.Heap renaming MadeExcOf→aoI,SameBut→wu,get?_none_of_le→Tu,get?_push_of_some→dX,get?_push_size→e7,get?_update_other→kn,get?_update_self→nG,lt_size→dO,size_push→xY,size_update→aa7
open PySem.Heap.IsSliceOf renaming new→ara
open PySem.Heap.Ns1 renaming of_empty→ak6
open PySem.Heap.SameBut renaming update→adu
open PySem.IsRange renaming new→aa0
open PySem.NameKind renaming cell→Xt,free→se
open PySem.NumText renaming digitsVal→GR
open PySem.Obj renaming data_mapFields→D3,isFreed_of_fields→Y',mapFields→oU,mapSeq→tx
open PySem.Paired renaming length→GF,snoc→Vz
open PySem.PassesOwn renaming never→fJ
open PySem.SeqAt renaming EqAt→LA,RcAt→M8,list_indexAt→aaA
open PySem.SeqAt.EqAt renaming int_str→anf,of_refs→Wd,same→VY,str_int→anL
open PySem.SeqAt.RcNeAt renaming lists→atg,lists_lengths→ari,tuples→arI
open PySem.Str renaming cps_append→gH,empty→nN,join→dk,length→n5,ofString→aa
open PySem.StrLaws renaming found_one→alf,glued_eq_join→ve,reprText_len→arX,sliceText→KH,subAt_one→Q6
open PySem.Txt renaming join→iT,ljust→qx,rstrip→TR,slice→qD,slice_le→Fi,split→g8
open PySem.Value renaming bool→lM,builtin→w8,bytes→Jj,float→IJ,int→lJ,isInt→aj4,isStrOf→ake,isStrOf_shape→ap5,none→ik,ref→dm,str→qF,type→rr
open PySem.W renaming Frag→a',InitBack→aqC,InstAt→wc,KeysLit→Lf,Looks→Ky,OpenLaw→ae9,WalkO→adV,any_some→tX,bind_fn→ah9,callWith_K→z_,callWith_K0→Uy,cellsFrom_some→ahX,clsIn→Ly,cls_value→alD,codeIn→WM,emptyDict→ka,exmOne→hz,findCls→afP,findIn→dM,fnOf→w1,handedIn→aaI,hasDictIn→EB,instObj→uf,isFn→L7,kdl_call→alr,keepIn→q9,kitAny→z8,kitOne→jH,lookIn→Hx,looks_clsIn→MG,looks_findIn→FG,looks_mroIn→akZ,makesIn→ai4,methodCall_KW→yL,methodObj→Y0,method_cls→ado,mroIn→xl,nsIn→uv,plainGet→MH,plainGet_of→V4,plainOver→apx,readsIn→ahU,set_plain→QM,specialIn→u7,takerIn→Sw,takesIn→I9,typeIn→QK
open PySem.W.KIN renaming signs_num→Ud
open PySem.W.Looks renaming here→RU,ld→asD
open PySem.W.WData renaming int→alO
open PySem.W.WShape renaming has→aqO
open PySem.Walks renaming list→ajc,range→abQ
open PySem.Within renaming cons→Y3
open Sum renaming inl→wm,inr→b5
open Sum.inr renaming inj→xm
open True renaming intro→kB
set_option tactic.hygienic false
section
local macro_rules|`(())=>`(by omega)
local macro_rules|`(∅)=>`(by first|decide +kernel|walk_at "F")
local macro_rules|`($x\$y)=>`($x=some $y)
local macro_rules|`(↑$x)=>`(($x).length)
local macro_rules|`(↥$x)=>`(($x).heap.objs.size)
local macro_rules|`(⇑$x)=>`(.ref $x)
open Prod renaming mk→p'p
local macro_rules|`(($x,$y,*))=>`(⟨$x,$y,*⟩)
def letPat:Nat->Lean.Term->Lean.MacroM (Lean.TSyntax `rcasesPat)
 |0,_=>Lean.Macro.throwUnsupported
 | n+1,p=>match p with
  | `(_)=>`(rcasesPat|_)
  | `($x:ident)=>`(rcasesPat|$x:ident)
  | `(($x,$y,*))=>do
   let q<-(#[x]++y.getElems).mapM fun z=>do
    let r<-letPat n z
    `(Lean.Parser.Tactic.rcasesPatLo|$r:rcasesPat)
   `(rcasesPat|⟨$q,*⟩)
  |_=>Lean.Macro.throwUnsupported
theorem g'g{p:Prop}(h:∀G:Prop,(p->G)->G):p:=h p id
local macro_rules|`(tactic|let $d:letDecl)=>do
  let d:=d.raw[0]
  let p<-letPat 9 ⟨d[0]⟩
  let v:Lean.Term:=⟨d[4]⟩
  let o<-if d[2].isNone then `(tactic|obtain $p:rcasesPat:=$v)else `(tactic|obtain $p:rcasesPat : $(⟨d[2][0][1]⟩) := $v)
  if v.raw.isIdent&&(d[0].find? (fun y=>y.isOfKind `null&&11<y.getNumArgs)).isSome then `(tactic|(refine g'g fun G g=>?_;$o;all_goals(refine g ?_;clear g G)))else return o
local macro_rules|`(tactic|intro $x*)=>do
  if x.all (fun y=>y.raw.isIdent||y.raw.isOfKind ``Lean.Parser.Term.hole)then Lean.Macro.throwUnsupported
  let q<-x.mapM fun y=>do `(rintroPat|$(<-letPat 9 y):rcasesPat)
  `(tactic|rintro $q*)
namespace L2
open PySem PySem.Spec PyProof.Rows
abbrev Key:=Sum Int Str
noncomputable def vQ:Key->Value->Bool
 | .inl k,v=>aj4 k v
 | .inr x,v=>ake x v
noncomputable def aqe(w:World):Key->Int
 | .inl k=>hashInt k
 | .inr x=>hashStr w x
theorem re:∀{k:Key} {v:Value},vQ k v=true->(∃i t,k=wm i/\v=lJ i t)\/(∃x t,k=b5 x/\v=qF x t)
 | .inl i,v,h=>by
  let(t,e):=Value.isInt_shape (k:=i) (v:=v) h;exact .inl (i,t,rfl,e)
 | .inr x,v,h=>by
  let(t,e):=ap5 (x:=x) (v:=v) h;exact .inr (x,t,rfl,e)
def Zu(i:Int)(t:Tok):vQ (.inl i) (.int i t)=true:=by simp[vQ,aj4]
def ab4(x:Str)(t:Tok):vQ (.inr x) (.str x t)=true:=by simp[vQ,ake]
def apr(a b:Int):decide ((wm a:Key)=wm b)=(a==b):=by
 by_cases e:a=b
 .subst e;simp
 .have h:¬(wm a:Key)=wm b:=λq=>e (Sum.inl.inj q)
  rw[decide_eq_false h];exact(beq_eq_false_iff_ne.mpr e).symm
def ajO(a b:Str):decide ((b5 a:Key)=b5 b)=decide (a=b):=by
 by_cases e:a=b
 .subst e;simp
 .have h:¬(b5 a:Key)=b5 b:=λq=>e (xm q)
  rw[decide_eq_false h,decide_eq_false e]
def ahF(a:Int)(b:Str):decide ((wm a:Key)=b5 b)=false:=decide_eq_false (λq=>nomatch q)
def adJ(a:Str)(b:Int):decide ((b5 a:Key)=wm b)=false:=decide_eq_false (λq=>nomatch q)
noncomputable def hh(prog:Program)(w:World):PySem.KeyKind prog w Key where
 is:=vQ
 hash:=aqe w
 inj:=λv a b aJ ae=>by
  rcases re aJ with⟨i,t,rfl,rfl⟩|⟨x,t,rfl,rfl⟩
  .rcases re ae with⟨j,u,rfl,e⟩|⟨y,u,rfl,e⟩
   .injection e with az _;rw[az]
   .exact nomatch e
  .rcases re ae with⟨j,u,rfl,e⟩|⟨y,u,rfl,e⟩
   .exact nomatch e
   .injection e with az _;rw[az]
 byValue:=λk v h=>by
  rcases re h with⟨i,t,rfl,rfl⟩|⟨x,t,rfl,rfl⟩ <;> rfl
 pyHash:=λaM h=>by
  rcases re aM with⟨i,t,rfl,rfl⟩|⟨x,t,rfl,rfl⟩
  .exact wpAny_pyHash_int h
  .exact wpAny_pyHash_str h
 eqBool:=λbx aM h=>by
  rcases re bx with⟨i,t,rfl,rfl⟩|⟨x,t,rfl,rfl⟩
  .rcases re aM with⟨j,u,rfl,rfl⟩|⟨y,u,rfl,rfl⟩
   .rw [apr]at h;exact wpAny_eqBool_int h
   .rw [ahF]at h;exact anf i t y u _ _ _ _ h
  .rcases re aM with⟨j,u,rfl,rfl⟩|⟨y,u,rfl,rfl⟩
   .rw [adJ]at h;exact anL x t j u _ _ _ _ h
   .rw [ajO]at h;exact wpAny_eqBool_str h
 «strs»:=λk x t v h=>by
  rcases re h with⟨i,u,rfl,e⟩|⟨y,u,rfl,e⟩
  .exact nomatch e
  .injection e with az _;subst az;cases v <;> rfl
def acb(prog:Program)(w:World)(i:Int)(t:Tok):(hh prog w).is (.inl i) (.int i t)=true:=Zu i t
def ap'(prog:Program)(w:World)(x:Str)(t:Tok):(hh prog w).is (.inr x) (.str x t)=true:=ab4 x t
inductive V where
 |b4|bE (b:Bool)|int (i:Int)|str (x:Str)|kL (b:Array UInt8)|uP (b:UInt64)|ref (a:Addr)|ty (n:String)
 deriving DecidableEq
def bN:V->Value->Prop
 | .b4,u=>u=ik
 | .bE b,u=>u=lM b
 | .int i,u=>∃t,u=lJ i t
 | .str x,u=>∃t,u=qF x t
 | .kL b,u=>∃t,u=Jj b t
 | .uP b,u=>∃t,u=IJ b t
 | .ref a,u=>u=dm a
 | .ty n,u=>u=rr n
abbrev bW:List V->List Value->Prop:=Paired bN
def bW.length(r:bW xs us):↑xs=↑us:=GF r
theorem bW.get:∀{xs:List V} {us:List Value} {i:Nat} {x:V},bW xs us->xs[i]?\x->∃u,us[i]?\u/\bN x u
 |_,_,_,_,.nil,e=>by simp at e
 |_,_,0,_,.cons r _,e=>by simp at e;subst e;exact(_,rfl,r)
 |_,_,i+1,x,.cons _ t,e=>by
  let(u,af,aj):=bW.get (i:=i) (x:=x) t (by simpa using e);exact(u,by simpa using af,aj)
theorem bW.set{x:V}(r:bN x u):∀{xs:List V} {us:List Value} (i:Nat),bW xs us->bW (xs.set i x) (us.set i u)
 |_,_,_,.nil=>.nil
 |_,_,0,.cons _ t=>.cons r t
 |_,_,i+1,.cons q t=>.cons q (bW.set r i t)
theorem bW.append:∀{xs ys:List V} {us ws:List Value},bW xs us->bW ys ws->bW (xs++ys) (us++ws)
 |_,_,_,_,.nil,s=>s
 |_,_,_,_,.cons r t,s=>.cons r (bW.append t s)
theorem bW.take:∀{xs:List V} {us:List Value} (n:Nat),bW xs us->bW (xs.take n) (us.take n)
 |_,_,0,_=>.nil
 |_,_,_+1,.nil=>.nil
 |_,_,n+1,.cons r t=>.cons r (bW.take n t)
theorem bW.drop:∀{xs:List V} {us:List Value} (n:Nat),bW xs us->bW (xs.drop n) (us.drop n)
 |_,_,0,r=>r
 |_,_,_+1,.nil=>.nil
 |_,_,n+1,.cons _ t=>bW.drop n t
def iG:Option V->Option Value->Prop
 |some v,some u=>bN v u
 |none,none=>True
 |_,_=>False
def e1{fo:Type}:List (fo×V)->List (fo×Value)->Prop:=Paired λ(p:fo×V) (q:fo×Value)=>p.1=q.1/\bN p.2 q.2
noncomputable def dC:Key->V
 | .inl i=>.int i
 | .inr x=>.str x
inductive eY where
  |lst (xs:List V)
  |tup (xs:List V)
  |bL (kvs:List (Key×V))|kC (kvs:List (List Key×V))
  |set (S:Int->Bool) (n:Nat)
  |ins (C ak:Addr) (aR:List (Str×V))
  |own (x:Addr)
  |Dg (aR:List (Str×V))
  |met (f x:Addr)
  |CH (lo ao:Int)
  |eO (o:Obj) (u:eY)
  |rz (ps:Array Value)
  |ext (u2:Heap->Prop)
abbrev ar:=Addr->Option eY
noncomputable def upd(H:ar)(a:Addr)(o:eY):ar:=λb=>if b=a then some o else H b
def aP:upd H a o a\o:=by unfold upd;rw[if_pos rfl]
def aO(h:b≠a):upd H a o b=H b:=by unfold upd;rw[if_neg h]
def pY:upd (upd H a o) a u=upd H a u:=by
 funext b;unfold upd;split <;> rfl
def d_{H:ar}{a b:Addr}{o u:eY}(h:H a\o)(h':H b\u)(d:o≠u):a≠b:=by
 intro e;subst e;rw[h]at h';exact d (d6 h')
def cM{H:ar}{a b:Addr}{o:eY}(h:H a\o)(h':H b=none):a≠b:=by
 intro e;subst e;rw[h]at h';cases h'
section
variable(P:Program)(w:World)
def eh(H:ar)(h:Heap)(a:Addr):eY->Prop
 | .lst xs=>↑xs<=sizeLine/\∃(a5:List Value) (n:Nat),bW xs a5/\h.get? a=some {cls:=.type "list",data:=.seq a5.toArray n}
 | .tup xs=>(↑xs<=sizeLine/\∃b_,h.get? a\b_/\b_.dict=none)/\∃a5:List Value,bW xs a5/\IsTup h a a5.toArray
 | .bL kvs=>↑kvs<=sizeLine/\(a==sysModules)=false/\∃vs,e1 kvs vs/\h.DictOf (hh P w) a vs
 | .kC kvs=>↑kvs<=sizeLine/\(a==sysModules)=false/\∃xs:List (List Key×Addr×Value),
   Paired (λ(p:List Key×V) (q:List Key×Addr×Value)=>p.1=q.1/\H q.2.1\(.tup (p.1.map dC))/\bN p.2 q.2.2) kvs xs /\
   ∃o aK ep,h.get? a\o/\o.ExactDict/\o.data=.dict aK ep/\aK.toList=xs.map (entryOfKey (tupleKind (hh P w)))/\(xs.map (·.1)).Nodup
 | .set S n=>h.SetOf (intKind P w) a S n
 | .ins C ak aR=>H ak\(.own a)/\↑aR<=1000/\ak≠a/\h.get? a\(uf C ak) /\
   ∃dQ,h.Ns1 ak dQ/\(∀f,iG (aR.lookup f) (dQ f))/\Dc dQ (aR.map (·.1))
 | .own _=>∃o,h.get? a\o
 | .Dg aR=>∃dQ,h.Ns1 a dQ/\∀f,iG (aR.lookup f) (dQ f)
 | .CH lo ao=>∃t u v,h.get? a=some {cls:=.type "range",data:=.fields #[.int lo t,.int ao u,.int 1 v]}
 | .eO o u=>h.get? a\o/\eh H h a u
 | .rz ps=>h.get? a=some {cls:=.none,data:=.fields ps}
 | .met f x=>h.get? a\(Y0 (.ref f) (.ref x))
 | .ext u2=>u2 h/\(∃o,h.get? a\o)/\∀af aj:Heap,u2 af->(∀o,af.get? a\o->aj.get? a\o)->u2 aj
def eG(H:ar)(h:Heap):Prop:=∀a o,H a\o->eh P w H h a o
end
section
variable{P:Program}{w:World}{H I:ar}{h h':Heap}{a:Addr}{o:eY}
theorem eh.lt(x:eh P w H h a o):a<h.objs.size:=by
 cases o with
 |lst xs=>let(_,_,_,_,e):=x;exact dO e
 |tup xs=>let(_,_,_,p):=x;exact p.lt
 |bL kvs=>let(_,_,_,_,o,_,_,e,_):=x;exact dO e
 |kC kvs=>let(_,_,_,_,o,_,_,e,_):=x;exact dO e
 |set S n=>let(o,_,_,_,e,_):=x;exact dO e
 |ins C ak aR=>let(_,_,_,e,_):=x;exact dO e
 |own y=>let(_,e):=x;exact dO e
 |Dg aR=>let(_,(_,_,_,e,_),_):=x;exact dO e
 |CH lo ao=>let(_,_,_,e):=x;exact dO e
 |eO b_ u=>let(e,_):=x;exact dO e
 |rz ps=>exact dO (show h.get? a\_ from x)
 |met f y=>exact dO (show h.get? a\_ from x)
 |ext u2=>let(_,(_,e),_):=x;exact dO e
theorem Paired.Lv:∀{vj:List α} {v5:List β},Paired F vj v5->(∀a b,F a b->G a b)->Paired G vj v5
 |_,_,.nil,_=>.nil
 |_,_,.cons r t,f=>.cons (f _ _ r) (Paired.Lv t f)
theorem eh.kX(x:eh P w H h a o)(k:∀b u,(b=a\/H b\(.own a))->h.get? b\u->h'.get? b\u)
  (aW:∀b,H b\(.own a)->I b\(.own a)) (cV:∀b xs,H b\(.tup xs)->I b\(.tup xs)):eh P w I h' a o:=by
 induction o with
 |lst xs=>let(z,a5,n,r,e):=x;exact(z,a5,n,r,k _ _ (.inl rfl) e)
 |tup xs=>let((z,ag_,apT,aaR),a5,r,b_,e,c):=x;exact((z,ag_,k _ _ (.inl rfl) apT,aaR),a5,r,b_,k _ _ (.inl rfl) e,c)
 |bL kvs=>let(z,y,vs,r,b_,aK,ep,e,c):=x;exact(z,y,vs,r,b_,aK,ep,k _ _ (.inl rfl) e,c)
 |kC kvs=>
  let(z,y,xs,r,b_,aK,ep,e,c):=x;exact(z,y,xs,Paired.Lv r λp q z=>(z.1,cV _ _ z.2.1,z.2.2),b_,aK,ep,k _ _ (.inl rfl) e,c)
 |set S n=>let(b_,aK,ep,t,e,c):=x;exact(b_,aK,ep,t,k _ _ (.inl rfl) e,c)
 |ins C ak aR=>
  let(d,z,ne,e,dQ,(od,aK,ep,aE,c),r):=x;exact(aW _ d,z,ne,k _ _ (.inl rfl) e,dQ,(od,aK,ep,k _ _ (.inr d) aE,c),r)
 |own y=>let(b_,e):=x;exact(b_,k _ _ (.inl rfl) e)
 |Dg aR=>let(dQ,(od,aK,ep,e,c),r):=x;exact(dQ,(od,aK,ep,k _ _ (.inl rfl) e,c),r)
 |CH lo ao=>let(t,u,v,e):=x;exact(t,u,v,k _ _ (.inl rfl) e)
 |eO b_ u b9=>let(e,q):=x;exact(k _ _ (.inl rfl) e,b9 q)
 |rz ps=>
  have e:h.get? a=some {cls:=.none,data:=.fields ps}:=x;show h'.get? a=some {cls:=.none,data:=.fields ps};exact k a _ (.inl rfl) e
 |met f y=>
  have e:h.get? a\(Y0 ⇑f ⇑y):=x;show h'.get? a\(Y0 ⇑f ⇑y);exact k a _ (.inl rfl) e
 |ext u2=>let(p,(o,e),st):=x;exact(st _ _ p λo q=>k _ _ (.inl rfl) q,(o,k _ _ (.inl rfl) e),st)
theorem eG.lt(x:eG P w H h)(e:H a\o):a<h.objs.size:=(x a o e).lt
theorem eG.fresh(x:eG P w H h)(e:h.objs.size<=a):H a=none:=by
 cases q:H a with
 |none=>rfl
 |some u=>exact absurd (ij (x.lt q) e) (qW _)
def eG.kept(x:eG P w H h)(k:∀b u,h.get? b\u->h'.get? b\u):eG P w H h':=λa o e=>
 (x a o e).kX (λb u _ q=>k b u q) (λ_ q=>q) λ_ _ q=>q
def eG.laid(x:eG P w H h)(k:∀b u,h.get? b\u->h'.get? b\u)(aq:h.objs.size<=a)(new:eh P w (upd H a o) h' a o):eG P w (upd H a o) h':=λb u e=>by
 have aL:=x.fresh aq;by_cases ae:b=a
 .subst ae;rw[aP]at e;cases e;exact new
 .rw [aO ae]at e;exact(x b u e).kX (λc v _ q=>k c v q) (λc q=>by rw[aO (cM q aL)];exact q) λc xs q=>by rw[aO (cM q aL)];exact q
end
def lS(H:ar)(a:Addr)(u:eY):Prop:=H a\u\/∃o,H a\(.eO o u)
def lS.ok{w:World}{h:Heap}(r:lS H a u)(x:eG P w H h):eh P w H h a u:=by
 rcases r with r|⟨o,r⟩
 .exact x a u r
 .let(_,q):=x a _ r;exact q
def nk:Option eY->Prop
 |some (.lst _)=>True
 |some (.bL _)=>True
 |some (.kC _)=>True
 |some (.set _ _)=>True
 |some (.ins _ _ _)=>True
 |some (.ext _)=>True
 |_=>False
section
variable{P:Program}{w:World}{H:ar}{h h':Heap}{x e:Addr}{dY:eY}
def eG.write (ok:eG P w H h) (fb:nk (H x)) (he:e=x\/H e\(.own x)) (k:∀b u,b≠e->h.get? b\u->h'.get? b\u) (uK:∃u,h'.get? e\u)
  (new:eh P w (upd H x dY) h' x dY):eG P w (upd H x dY) h':=λb u q=>by
 have xM:∀c y,H c\(.own y)->c≠x:=λc y r z=>by subst z;rw[r]at fb;exact fb
 have MU:∀c xs,H c\(.tup xs)->c≠x:=λc xs r z=>by subst z;rw[r]at fb;exact fb
 by_cases ae:b=x
 .subst ae;rw[aP]at q;cases q;exact new
 .rw[aO ae]at q;by_cases sL:b=e
  .have du:H b\(.own x):=by
    rcases he with z|z
    .exact absurd (sL.trans z) ae
    .rw [sL];exact z
   rw[q]at du;cases du;let(v,aM):=uK;exact(v,by rw[sL];exact aM)
  .refine(ok b u q).kX (λc v ah r=>k c v ?_ r) (λc r=>by rw[aO (xM c b r)];exact r) λc xs r=>by rw[aO (MU c xs r)];exact r
   rcases ah with rfl|ah
   .exact sL
   .rintro rfl;rcases he with z|z
    .exact xM c b ah z
    .rw [ah]at z;cases z;exact ae rfl
end
structure gn(aR ex:List Addr)(H I:ar)(h h':Heap):Prop where
 keep:∀b o,h.get? b\o->H b=none->b∉aR->b∉ex->h'.get? b\o
 slot:∀b o,h.get? b\o->H b=none->b∈aR->b∉ex->∃aX,h'.get? b=some {o with slots:=aX}
 free:∀b o,h.get? b\o->H b=none->b∉ex->I b=none
 there:∀b o,h.get? b\o->b∉ex->∃dY,h'.get? b\dY
 mD:∀b xs,H b\(.tup xs)->I b\(.tup xs)
 kS:∀b o u,H b\(.eO o u)->I b\(.eO o u)
 mK:∀b ps,H b\(.rz ps)->∃more,I b\(.rz (ps++more))
section
variable{aR oR ex arR:List Addr}{H H1 ay:ar}{h af aj h':Heap}{a x e:Addr}{o:eY}
def gn.any(u:gn aR ex H H1 h af)(q:h.get? b\b_)(n:H b=none)(ai:b∉ex):∃aX,af.get? b=some {b_ with slots:=aX}:=by
 by_cases ae:b∈aR
 .exact u.slot b b_ q n ae ai
 .exact (b_.slots,u.keep b b_ q n ae ai)
def gn.kept(k:∀b u,h.get? b\u->h'.get? b\u):gn aR ex H H h h':=
 (λb b_ q _ _ _=>k b b_ q,λb b_ q _ _ _=>(b_.slots,k b b_ q),λ_ _ _ n _=>n,λb b_ q _=>(b_,k b b_ q),λ_ _ q=>q,λ_ _ _ q=>q,λ_ ps q=>(#[],by rw[q];simp))
def gn.refl:gn aR ex H H h h:=gn.kept λ_ _ q=>q
def gn.laid(k:∀b u,h.get? b\u->h'.get? b\u)(aq:h.objs.size<=a)(aL:H a=none):gn aR ex H (upd H a o) h h' where
 keep:=λb u q _ _ _=>k b u q
 slot:=λb u q _ _ _=>(u.slots,k b u q)
 free:=λb u q n _=>by rw[aO (fM (ij (dO q) aq))];exact n
 there:=λb u q _=>(u,k b u q)
 mD:=λb xs q=>by rw[aO (cM q aL)];exact q
 kS:=λb u xs q=>by rw[aO (cM q aL)];exact q
 mK:=λb ps q=>(#[],by rw[aO (cM q aL),q];simp)
def gn.write(fb:nk (H x))(he:e=x\/H e\(.own x))(k:∀b u,b≠e->h.get? b\u->h'.get? b\u)(uK:∃u,h'.get? e\u):gn aR ex H (upd H x o) h h':=by
 have ai:∀b,H b=none->b≠x:=λb n z=>by subst z;rw[n]at fb;exact fb
 have ae:∀b,H b=none->b≠e:=λb n z=>by
  subst z;rcases he with r|r
  .exact ai b n r
  .rw [n]at r;cases r
 have hm:∀b u,H b\u->¬nk (some u)->b≠x:=λb u q nm z=>by subst z;rw[q]at fb;exact nm fb
 refine(λb u q n _ _=>k b u (ae b n) q,λb u q n _ _=>(u.slots,k b u (ae b n) q),λb u q n _=>by rw[aO (ai b n)];exact n,λb u q _=>?_,
  λb xs q=>by rw[aO (hm b _ q λz=>z)];exact q,λb u xs q=>by rw[aO (hm b _ q λz=>z)];exact q,λb ps q=>(#[],by rw[aO (hm b _ q λz=>z),q];simp))
 by_cases sL:b=e
 .subst sL;exact uK
 .exact (u,k b u sL q)
end
noncomputable def El(h:Heap)(H:ar):List Addr:=(el h.objs.size).filter λa=>(H a).isSome
noncomputable def p_(h:Heap)(H:ar):Heap:=PySem.W.hideAll h (El h H)
def ago(h:Heap)(H:ar):(p_ h H).objs.size=h.objs.size:=PySem.W.hideAll_size _ _
def akL{h:Heap}(e:h.get? b\o)(n:H b=none):(p_ h H).get? b\o:=
 PySem.W.hideAll_get _ e λhm=>by
  have q:(H b).isSome=true:=(lu.mp hm).2;rw[n]at q;simp at q
theorem aax{h:Heap}(e:(p_ h H).get? b\o):h.get? b\o/\H b=none:=by
 have bZ:h.get? b\o:=PySem.W.of_hideAll (El h H) e;refine(bZ,?_);cases q:H b with
 |none=>rfl
 |some x=>
  have hm:b∈El h H:=lu.mpr (pd.mpr (dO bZ),by simp[q]);have z:(p_ h H).get? b=none:=PySem.W.hideAll_none (El h H) hm;rw[z]at e;cases e
noncomputable def apu(g h:Heap)(L:Addr):List (Addr×Obj):=(el h.objs.size).filterMap λa=>if a=L\/(g.get? a).isSome=true then none else(h.get? a).map λo=>(p'p a o)
noncomputable def rest(g h:Heap)(L d:Addr):List (Addr×Obj):=(apu g h L).filter λp=>decide (p.1≠d)
structure Mod(K:a')(av:Str->Option Value)(base:Heap):Prop where
 rC:K.In base
 glob:base.Ns mainGlobals av
 blt:∃jU,base.Ns builtinsNs jU/\∀x:Str,x≠"__name__"->jU x=bootBuiltins x
 nolimit:base.NoLimit
structure a6 where
 prog:Program
 w:World
 K:a'
 av:Str->Option Value
 base:Heap
 A:Around
 N:List Str
 fB:Shared
 s9:ar
 env:Env
 outer:List Env
 stack:List Env
 ex:List Addr
 fn:Str->Bool
 calm:Bool
 d8:List (Addr×Obj)
 df:Value->Shared->Prop
noncomputable def hn(l:List Env):List Addr:=l.filterMap (·.frame)
noncomputable abbrev a6.aR(X:a6):List Addr:=hn X.outer
def DS(sc:Scope)(x:Str):Prop:=sc.names.lookup x\.local\/sc.names.lookup x\.cell\/sc.names.lookup x\.free
def Loc(sc:Scope)(x:Str):Prop:=sc.names.lookup x\.local\/sc.names.lookup x\.cell
def acr(env:Env)(h:Heap)(m:Str->Option Value)(x:Str)(u:Value):Prop:=
 (env.kindOf x\.local/\m x\u)\/((env.kindOf x\.cell\/env.kindOf x\.free)/\∃c,env.cells.lookup x\c/\h.IsCell c (some u))
structure a6.Ok(X:a6):Prop where
 mod:Mod X.K X.av X.base
 kind:X.env.scope.kind=.function
 glob:X.env.globals=mainGlobals
 blt:X.env.builtins=builtinsNs
 above:↥X.fB<=X.env.locals
 inj:∀x y c,X.env.cells.lookup x\c->X.env.cells.lookup y\c->x=y
 has:∀x,(X.env.kindOf x\.cell\/X.env.kindOf x\.free)->∃c,X.env.cells.lookup x\c
 qL:∀x c,X.fn x=true->X.env.cells.lookup x\c->↥X.fB<=c
 hd:X.calm=true->X.A.handled=none
 frames:X.A.frames\X.stack
 rn:X.stack=X.outer\/(X.stack=X.env::X.outer/\X.env.frame\X.env.locals)
 uO:∀b∈X.ex,b≠X.env.locals/\∀x c,X.env.cells.lookup x\c->c≠b
 bs:∀b o,X.base.get? b\o->X.fB.heap.get? b\o/\X.s9 b=none
 j6:X.base.objs.size<=↥X.fB
 qj:∀b o,X.base.get? b\o->b∉X.ex
 qG:∀b∈X.ex,b∉X.aR
 iZ:X.fB.heap.FunFrames X.base X.outer
 kA:∀b∈X.aR,X.s9 b=none
structure Inv(X:a6)(ab:List (Addr×Obj))(σ:List (Option V))(H:ar)(s:Shared):Prop where
 ok:X.Ok
 os:s.os=X.fB.os
 bare:AllBare s.gens
 base:gn X.aR X.ex X.s9 H X.fB.heap s.heap
 loc:∃m,s.heap.Ns X.env.locals m/\∀(i:Nat) (x:Str) (v:V),X.N[i]?\x->σ[i]?\(some v)->DS X.env.scope x->∃u,bN v u/\acr X.env s.heap m x u
 cell:∀x c,X.env.cells.lookup x\c->∃v,s.heap.IsCell c v
 free:H X.env.locals=none
 iS:∀x c,X.env.cells.lookup x\c->H c=none
 pin:∀p∈X.d8++ab,s.heap.get? p.1\p.2/\H p.1=none/\p.1≠X.env.locals/\p.1∉X.aR/\∀v,p.2.data≠.cell v
 bf:eG X.prog X.w H s.heap
 len:↑σ=↑X.N
section
variable{X:a6}{ab:List (Addr×Obj)}{σ:List (Option V)}{H I:ar}{s:Shared}{h':Heap}
def a6.Ok.w'(ok:X.Ok)(e:X.base.get? b\o):b∉X.aR:=λae=>by
 have:=(ok.iZ.mem ae).1;rw[e]at this;cases this
theorem Inv.bs(J:Inv X ab σ H s):∀b o,X.base.get? b\o->s.heap.get? b\o/\H b=none:=λb o e=>
 (J.base.keep b o (J.ok.bs b o e).1 (J.ok.bs b o e).2 (J.ok.w' e) (J.ok.qj b o e),J.base.free b o (J.ok.bs b o e).1 (J.ok.bs b o e).2 (J.ok.qj b o e))
def Inv.b3(J:Inv X ab σ H s):∀b o,X.base.get? b\o->s.heap.get? b\o:=λb o e=>(J.bs b o e).1
theorem Inv.mod(J:Inv X ab σ H s):Mod X.K X.av X.base:=J.ok.mod
def Inv.es(J:Inv X ab σ H s):X.K.In s.heap:=J.ok.mod.rC.keeps J.b3
def Inv.fr(J:Inv X ab σ H s):∃m,Fr X.base X.env.locals s.heap m:=
 let⟨m,aL,_⟩:=J.loc
 (m,aL,J.b3,cH J.ok.j6 J.ok.above)
theorem Inv.lt(J:Inv X ab σ H s):X.env.locals<↥s:=let⟨_,aL,_⟩:=J.loc;aL.lt
def Inv.rf(J:Inv X ab σ H s):↥X.fB<=↥s:=cH J.ok.above (sg J.lt)
def Inv.UR(J:Inv X ab σ H s)(h:↥s<=a):a∉X.aR:=λae=>by
 let(_,o,aW,_):=J.ok.iZ.mem ae;exact absurd (ij (dO aW) (cH J.rf h)) (qW _)
def Inv.qm(J:Inv X ab σ H s):∀x c,X.env.cells.lookup x\c->c≠X.env.locals:=λx c e z=>by
 let(v,o,aW,hd):=J.cell x c e;let(m,(dY,aK,ep,ts,m7,_),_):=J.loc;rw[z,ts]at aW;cases aW;rw[m7]at hd;cases hd
theorem Inv.iZ(J:Inv X ab σ H s):s.heap.FunFrames X.base X.outer:=by
 have all:∀(l:List Env),(∀b∈hn l,b∈X.aR)->X.fB.heap.FunFrames X.base l->s.heap.FunFrames X.base l:=by
  intro l
  induction l with
  |nil=>intro _ _;trivial
  |cons env r b9=>
   intro aB aw;let(aI,(L,o,hf,aL,aW,hd),au):=aw;have j_:L∈X.aR:=aB L (by unfold hn;rw[Qn,hf];exact lW);let(aX,e):=J.base.slot L o aW (J.ok.kA L j_) j_ λz=>J.ok.qG L z j_
   exact(aI,(L,_,hf,aL,e,hd),b9 (λb ae=>aB b (by unfold hn;rw[Qn,hf];exact fS _ ae)) au)
 exact all X.outer (λ_ ae=>ae) J.ok.iZ
theorem Inv.stack(J:Inv X ab σ H s):s.heap.FunFrames X.base X.stack:=by
 rcases J.ok.rn with e|⟨e,hf⟩
 .rw [e];exact J.iZ
 .rw [e];let(m,aL,_):=J.loc;refine .cons (by rw[J.ok.kind];decide) hf aL ?_ J.iZ;exact Tu (cH J.ok.j6 J.ok.above)
def Inv.BB(J:Inv X ab σ H s):∀b∈hn X.stack,b∈X.env.locals::X.aR:=λb ae=>by
 rcases J.ok.rn with e|⟨e,hf⟩
 .rw [e]at ae;exact fS _ ae
 .rw [e]at ae;unfold hn at ae;rw[Qn,hf]at ae;exact ae
def Inv.A5(J:Inv X ab σ H s):∀b∈hn X.stack,H b=none:=λb ae=>by
 rcases cT.mp (J.BB b ae)with e|ae
 .rw [e];exact J.free
 .let(_,o,aW,_):=J.ok.iZ.mem ae;exact J.base.free b o aW (J.ok.kA b ae) λz=>J.ok.qG b z ae
def Inv.step{g':Array GenState}{t':Nat}{d':Drawn}{ch:List Addr}(J:Inv X ab σ H s)
  (oz:∀b∈ch,(b∈X.ex\/↥X.fB<=b)/\b≠X.env.locals/\(∀x c,X.env.cells.lookup x\c->c≠b)/\∀p∈X.d8++ab,p.1≠b)
  (keep:∀b o,b≠X.env.locals->b∉X.aR->b∉ch->s.heap.get? b\o->H b=none->h'.get? b\o)
  (slot:∀b o,b≠X.env.locals->b∈X.aR->b∉ch->s.heap.get? b\o->H b=none->∃aX,h'.get? b=some {o with slots:=aX}) (free:∀b o,b∉ch->s.heap.get? b\o->H b=none->I b=none)
  (there:∀b o,b∉ch->s.heap.get? b\o->∃dY,h'.get? b\dY)
  (mD:∀b xs,H b\(.tup xs)->I b\(.tup xs)) (kS:∀b o u,H b\(.eO o u)->I b\(.eO o u)) (mK:∀b ps,H b\(.rz ps)->∃more,I b\(.rz (ps++more)))
  (ns:∀m,s.heap.Ns X.env.locals m->h'.Ns X.env.locals m) (bf:eG X.prog X.w I h') (a0:AllBare g') :
  Inv X ab σ I {s with heap:=h',gens:=g',drawn:=d',toks:=t' }:=by
 have wy:∀b o,X.fB.heap.get? b\o->b≠X.env.locals:=λb o e=>fM (ij (dO e) J.ok.above)
 have Dl:∀b o,X.fB.heap.get? b\o->b∉X.ex->b∉ch:=λb o e ai ae=>by
  rcases(oz b ae).1 with z|z
  .exact ai z
  .exact absurd (ij (dO e) z) (qW _)
 have cellK:∀x c,X.env.cells.lookup x\c->∀v,s.heap.IsCell c v->h'.IsCell c v:=λx c e v ⟨o,aW,hd⟩=>by
  have xf:c∉ch:=λz=>(oz c z).2.2.1 x c e rfl
  by_cases ah:c∈X.aR
  .let(aX,q):=slot c o (J.qm x c e) ah xf aW (J.iS x c e);exact(_,q,hd)
  .exact (o,keep c o (J.qm x c e) ah xf aW (J.iS x c e),hd)
 refine(J.ok,J.os,a0,(λb o e n ae ai=>?_,λb o e n ae ai=>?_,λb o e n ai=>?_,λb o e ai=>?_,λb xs e=>mD b xs (J.base.mD b xs e),λb o xs e=>kS b o xs (J.base.kS b o xs e),λb ps e=>?_),?_,λx c e=>?_,?_,λx c e=>?_,λp aq=>?_,bf,J.len)
 .exact keep b o (wy b o e) ae (Dl b o e ai) (J.base.keep b o e n ae ai) (J.base.free b o e n ai)
 .let(aX,az):=J.base.slot b o e n ae ai;let(u3,aE):=slot b _ (wy b o e) ae (Dl b o e ai) az (J.base.free b o e n ai);exact(u3,aE)
 .let(dY,az):=J.base.there b o e ai;exact free b dY (Dl b o e ai) az (J.base.free b o e n ai)
 .let(dY,az):=J.base.there b o e ai;exact there b dY (Dl b o e ai) az
 .let(fa,az):=J.base.mK b ps e;let(e',aE):=mK b _ az;exact(fa++e',by rw[aE,Array.append_assoc])
 .obtain⟨m,aL,aw⟩:=J.loc;refine⟨m,ns m aL,fun i x v az aE b7=>?_⟩;obtain⟨u,r,l⟩:=aw i x v az aE b7;refine⟨u,r,?_⟩;rcases l with l|⟨k,c,e,z⟩
  .exact .inl l
  .exact .inr (k,c,e,cellK x c e _ z)
 .let(v,z):=J.cell x c e;exact(v,cellK x c e v z)
 .let(m,(o,_,_,aW,_),_):=J.loc;exact free _ o (λz=>(oz _ z).2.1 rfl) aW J.free
 .let(v,o,aW,hd):=J.cell x c e;exact free c o (λz=>(oz c z).2.2.1 x c e rfl) aW (J.iS x c e)
 .obtain⟨e,n,ne,hJ,d⟩:=J.pin p aq;have xf:p.1∉ch:=fun z=>(oz p.1 z).2.2.2 p aq rfl
  exact(keep p.1 p.2 ne hJ xf e n,free p.1 p.2 xf e n,ne,hJ,d)
def Inv.un{t':Nat}(J:Inv X ab σ H s)(u:gn X.aR [] H I s.heap h')(bf:eG X.prog X.w I h'):Inv X ab σ I {s with heap:=h',toks:=t' }:=by
 let(m,(o,aK,ep,aW,r),_):=id J.loc;let(aX,j_):=u.any aW J.free (by simp);exact J.step (g':=s.gens) (d':=s.drawn) (ch:=[]) (λ_ z=>nomatch z) (λb o _ ae _ e n=>u.keep b o e n ae (by simp)) (λb o _ ae _ e n=>u.slot b o e n ae (by simp)) (λb o _ e n=>u.free b o e n (by simp)) (λb o _ e=>u.there b o e (by simp)) u.mD u.kS u.mK (λdV hm=>by
  let(dY,yt,Jy,ts,dE):=hm;rw[aW]at ts;cases ts;exact(_,yt,Jy,j_,dE)) bf J.bare
def Inv.call{g':Array GenState}{t':Nat}{d':Drawn}{ch:List Addr}(J:Inv X ab σ H s)(u:gn (hn X.stack) ch H I s.heap h')(bf:eG X.prog X.w I h')(a0:AllBare g')
  (oz:∀b∈ch,(b∈X.ex\/↥X.fB<=b)/\b≠X.env.locals/\(∀x c,X.env.cells.lookup x\c->c≠b)/\∀p∈X.d8++ab,p.1≠b) :
  Inv X ab σ I {s with heap:=h',gens:=g',drawn:=d',toks:=t' }:=by
 let(m,(o,aK,ep,aW,r),_):=id J.loc;let(aX,j_):=u.any aW J.free λz=>(oz _ z).2.1 rfl
 exact J.step (ch:=ch) oz (λb o j_ ae ah e n=>u.keep b o e n (λz=>(cT.mp (J.BB b z)).elim j_ ae) ah) (λb o _ _ ah e n=>u.any e n ah) (λb o ah e n=>u.free b o e n ah) (λb o ah e=>u.there b o e ah) u.mD u.kS u.mK (λdV hm=>by
  let(dY,yt,Jy,ts,dE):=hm;rw[aW]at ts;cases ts;exact(_,yt,Jy,j_,dE)) bf a0
def Inv.turned{t':Nat}{it:Addr}(J:Inv X ab σ H s)(k:∀b o,b≠it->s.heap.get? b\o->h'.get? b\o)(aL:H it=none)(j_:it≠X.env.locals)
  (af:it∈X.ex\/↥X.fB<=it) (aj:∀x c,X.env.cells.lookup x\c->c≠it) (a_:∀p∈X.d8++ab,p.1≠it):Inv X ab σ H {s with heap:=h',toks:=t' }:=by
 have Aj:∀b u,H b\u->b≠it:=λb u e z=>by rw[z,aL]at e;cases e
 refine J.step (g':=s.gens) (d':=s.drawn) (ch:=[it]) (λb ae=>?_) (λb o _ _ ah e _=>k b o (λz=>ah (by simp[z])) e) (λb o _ _ ah e _=>(o.slots,k b o (λz=>ah (by simp[z])) e)) (λ_ _ _ _ n=>n)
  (λb o ah e=>(o,k b o (λz=>ah (by simp[z])) e)) (λ_ _ e=>e) (λ_ _ _ e=>e) (λb ps e=>(#[],by rw[e];simp)) (λm hm=>?_) (λb u e=>?_) J.bare
 .have e:b=it:=by simpa using ae
  subst e;exact(af,j_,aj,a_)
 .let(o,aK,ep,aW,r):=hm;exact(o,aK,ep,k _ o (dB j_) aW,r)
 .refine(J.bf b u e).kX (λc v ah q=>k c v ?_ q) (λ_ q=>q) λ_ _ q=>q
  rcases ah with z|z
  .rw [z];exact Aj b u e
  .exact Aj c _ z
def Inv.tok(J:Inv X ab σ H s)(t:Nat):Inv X ab σ H {s with toks:=t}:=J.un (h':=s.heap) (t':=t) gn.refl J.bf
theorem Inv.kept(J:Inv X ab σ H s)(k:∀b u,s.heap.get? b\u->h'.get? b\u):Inv X ab σ H {s with heap:=h',toks:=t' }:=J.un (gn.kept k) (J.bf.kept k)
theorem Inv.laid(J:Inv X ab σ H s)(k:∀b u,s.heap.get? b\u->h'.get? b\u)(aq:↥s<=a)(new:eh X.prog X.w (upd H a o) h' a o) :
  Inv X ab σ (upd H a o) {s with heap:=h',toks:=t' }:=J.un (gn.laid k aq (J.bf.fresh aq)) (J.bf.laid k aq new)
theorem Inv.write{x e:Addr}{o:eY}{t':Nat}(J:Inv X ab σ H s)(fb:nk (H x))(he:e=x\/H e\(.own x))(k:∀b u,b≠e->s.heap.get? b\u->h'.get? b\u)(uK:∃u,h'.get? e\u)
  (new:eh X.prog X.w (upd H x o) h' x o):Inv X ab σ (upd H x o) {s with heap:=h',toks:=t' }:=J.un (gn.write fb he k uK) (J.bf.write fb he k uK new)
def Inv.weak(J:Inv X ab σ H s)(aw:↑aT=↑σ)(w:∀(i:Nat) v,aT[i]?\(some v)->σ[i]?\(some v)):Inv X ab aT H s:=
 (J.ok,J.os,J.bare,J.base,let⟨m,aL,mH⟩:=J.loc;(m,aL,λi x v az aE b7=>mH i x v az (w i v aE) b7),J.cell,J.free,J.iS,J.pin,J.bf,aw.trans J.len)
def Inv.Ac(J:Inv X ab σ H s)(h:∀p∈w9,s.heap.get? p.1\p.2/\H p.1=none/\p.1≠X.env.locals/\p.1∉X.aR/\∀v,p.2.data≠.cell v):Inv X w9 σ H s:=
 (J.ok,J.os,J.bare,J.base,J.loc,J.cell,J.free,J.iS,λp aq=>(il.mp aq).elim (λz=>J.pin p (Uo _ z)) (h p),J.bf,J.len)
def JT{N:List Str}(bc:N.Nodup){i j:Nat}{x:Str}(a:N[i]?\x)(b:N[j]?\x):i=j:=by
 let(af,az):=cv.mp a;let(aj,aE):=cv.mp b;exact(Bn bc).mp (az.trans aE.symm)
def XT {M:Model} {A:Around} {E:Value->Shared->Prop} {i:Nat} {x:Str} {v:V} {u:Value} {Q:Unit->Shared->Prop} (J:Inv X ab σ H s) (bc:X.N.Nodup) (ao:X.N[i]?\x) (ai:Loc X.env.scope x) (r:bN v u)
  (h:∀s',Inv X ab (σ.set i (some v)) H s'->(∃a,wu a s.heap s'.heap/\(a=X.env.locals\/X.env.cells.lookup x\a))->Q ⟨⟩ s') (hf:X.fn x=true\/X.env.scope.names.lookup x\.local:=by first|exact .inl rfl|exact .inr rfl|assumption):wpAny M A (storeName X.env x u) Q E s:=by
 let(m,aL,aw):=id J.loc;have afO:(X.env.scope.kind == .class||(X.env.scope.kind == .module&&X.env.locals != X.env.globals))=false:=by rw[J.ok.kind];rfl
 have zX:i<↑σ:=by rw[J.len];exact(cv.mp ao).1
 have qm:=J.qm;have tracked:∀{a:Addr} {h':Heap},(∃o,s.heap.get? a\o/\H a=none)->wu a s.heap h'->eG X.prog X.w H h':=λ{a h'} aJ aB b b_ e=>by
  let(_,_,DE):=aJ;refine(J.bf b b_ e).kX (λc fQ ah q=>(aB.2 c ?_).trans q) (λ_ q=>q) λ_ _ q=>q
  rintro rfl;rcases ah with rfl|ah
  .rw [DE]at e;cases e
  .rw [DE]at ah;cases ah
 rcases ai with aI|aI
 .refine wpAny_storeName_local aI aL (λh' aod aB=>?_) afO;let(ZI,_,_,apQ,_):=id aL;refine h _ (J.ok,J.os,J.bare,(λb o e n ae ai=>?_,λb o e n ae ai=>?_,J.base.free,λb o e ai=>?_,J.base.mD,J.base.kS,J.base.mK),(_,aod,λj y jv az aE b7=>?_),λy c e=>?_,J.free,J.iS,λp aq=>?_,tracked (ZI,apQ,J.free) aB,by simpa using J.len) (_,aB,.inl rfl)
  .exact (aB.2 b (fM (ij (dO e) J.ok.above))).trans (J.base.keep b o e n ae ai)
  .let(aX,az):=J.base.slot b o e n ae ai;exact(aX,(aB.2 b (fM (ij (dO e) J.ok.above))).trans az)
  .let(dY,az):=J.base.there b o e ai;exact(dY,(aB.2 b (fM (ij (dO e) J.ok.above))).trans az)
  .by_cases aZ:j=i
   .subst aZ;rw[ao]at az;cases az;rw[rg zX]at aE;cases aE;exact(u,r,.inl (aI,by simp))
   .rw[tT (dB aZ)]at aE;let(ig,dE,q):=aw j y jv az aE b7;refine(ig,dE,?_);rcases q with⟨k,e⟩|⟨k,c,e,z⟩
    .refine .inl (k,?_);have:y≠x:=λe=>aZ (JT bc az (e ▸ ao))
     simp[this,e]
    .exact .inr (k,c,e,z.sameBut aB (qm y c e))
  .let(fQ,z):=J.cell y c e;exact(fQ,z.sameBut aB (qm y c e))
  .let(e,n,ne,hJ,d):=J.pin p aq;exact((aB.2 p.1 ne).trans e,n,ne,hJ,d)
 .have LU:X.fn x=true:=by
   rcases hf with z|z
   .exact z
   .rw [z]at aI;cases aI
  let(c,ah):=J.ok.has x (.inl aI);let(fQ,z):=J.cell x c ah;refine wpAny_storeName_cell J.ok.kind aI ah z (λh' qh aB=>?_);let(m6,Xn,aiG):=id z;refine h {s with heap:=h' } (J.ok,J.os,J.bare,(λb o e n ae ai=>?_,λb o e n ae ai=>?_,J.base.free,λb o e ai=>?_,J.base.mD,J.base.kS,J.base.mK),(m,aL.sameBut aB (dB (qm x c ah)),λj y jv az aE b7=>?_),λy eT e=>?_,J.free,J.iS,λp aq=>?_,tracked (m6,Xn,J.iS x c ah) aB,by simpa using J.len) (c,aB,.inr ah)
  .exact (aB.2 b (fM (ij (dO e) (J.ok.qL x c LU ah)))).trans (J.base.keep b o e n ae ai)
  .let(aX,az):=J.base.slot b o e n ae ai;exact(aX,(aB.2 b (fM (ij (dO e) (J.ok.qL x c LU ah)))).trans az)
  .let(dY,az):=J.base.there b o e ai;exact(dY,(aB.2 b (fM (ij (dO e) (J.ok.qL x c LU ah)))).trans az)
  .by_cases aZ:j=i
   .subst aZ;rw[ao]at az;cases az;rw[rg zX]at aE;cases aE;exact(u,r,.inr (.inl aI,c,ah,qh))
   .rw[tT (dB aZ)]at aE;let(ig,dE,q):=aw j y jv az aE b7;refine(ig,dE,?_);rcases q with q|⟨k,eT,e,z'⟩
    .exact .inl q
    .refine .inr (k,eT,e,z'.sameBut aB ?_);rintro rfl;exact aZ (JT bc az (J.ok.inj _ _ _ e ah ▸ ao))
  .by_cases Rf:eT=c
   .subst Rf;exact(_,qh)
   .let(d0,dF):=J.cell y eT e;exact(d0,dF.sameBut aB Rf)
  .let(e,n,ne,hJ,d):=J.pin p aq;refine((aB.2 p.1 ?_).trans e,n,ne,hJ,d);intro q;rw[q,Xn]at e;have du:m6=p.2:=d6 e;exact d fQ (by rw[<- du];exact aiG)
def Ef{A:Around}{x:Str}(J:Inv X ab σ H s)(bc:X.N.Nodup)(ao:X.N[i]?\x)(ai:Loc X.env.scope x)(r:bN v u)
  (h:∀s',Inv X ab (σ.set i (some v)) H s'->Q ⟨⟩ s') (hf:X.fn x=true\/X.env.scope.names.lookup x\.local:=by first|exact .inl rfl|exact .inr rfl|assumption):wpAny M A (storeName X.env x u) Q E s:=
 XT J bc ao ai r (λs' jZ _=>h s' jZ) hf
def Inv.w2(J:Inv X ab σ H s)(aW:s'.os=s.os)(u:gn (hn X.stack) ch H I s.heap s'.heap)(bf:eG X.prog X.w I s'.heap)(a0:AllBare s'.gens)
  (oz:∀b∈ch,(b∈X.ex\/↥X.fB<=b)/\b≠X.env.locals/\(∀x c,X.env.cells.lookup x\c->c≠b)/\∀p∈X.d8++ab,p.1≠b):Inv X ab σ I s':=by
 let(h',g',d',t',dY):=s';have e:dY=s.os:=aW;subst e;exact J.call (g':=g') (t':=t') (d':=d') u bf a0 oz
end
abbrev dG:=Value->Option Addr->ar->Prop
abbrev St:=List (Option V)
abbrev cz:=V->ar->Prop
abbrev TE:=St->ar->cz->Prop
abbrev TT:=St->ar->(Bool->ar->Prop)->Prop
abbrev eE:=St->ar->(List V->ar->Prop)->Prop
structure g4 where
 cp:St->ar->Prop
 lG:cz
 b3:St->ar->Prop:=λ_ _=>False
 eX:St->ar->Prop:=λ_ _=>False
abbrev ea:=g4->St->ar->Prop
def gX(X:a6)(ab:List (Addr×Obj))(σ:St)(Q:cz)(u:Value)(s':Shared):Prop:=∃v I,Inv X ab σ I s'/\bN v u/\Q v I
def eo{X:a6}{ab:List (Addr×Obj)}{σ:St}{Q:cz}{u:Value}{s':Shared}{C:Prop}(h:gX X ab σ Q u s')(k:∀v I,Inv X ab σ I s'->bN v u->Q v I->C):C:=by
 let(v,I,J,r,q):=h;exact k v I J r q
def Dt(X:a6)(ab:List (Addr×Obj))(σ:St)(Q:Bool->ar->Prop)(b:Bool)(s':Shared):Prop:=∃I,Inv X ab σ I s'/\Q b I
def aoY(X:a6)(ab:List (Addr×Obj))(σ:St)(Q:List V->ar->Prop)(us:List Value)(s':Shared):Prop:=∃vs I,Inv X ab σ I s'/\bW vs us/\Q vs I
def iR(X:a6)(ab:List (Addr×Obj))(D:g4)(f:Flow)(s':Shared):Prop:=
 match f with
 | .next=>∃aT I,Inv X ab aT I s'/\D.cp aT I
 | .brk=>∃aT I,Inv X ab aT I s'/\D.b3 aT I
 | .cont=>∃aT I,Inv X ab aT I s'/\D.eX aT I
 | .ret u=>∃v aT I,Inv X ab aT I s'/\bN v u/\D.lG v I
def bw(X:a6)(e:Expr)(t:TE):Prop:=
 ∀(ab:List (Addr×Obj)) (s:Shared) (σ:St) (H:ar) (Q:cz),Inv X ab σ H s->t σ H Q->wpAny (model X.prog X.w) X.A (eval e X.env) (gX X ab σ Q) X.df s
def h6(X:a6)(e:Expr)(t:TT):Prop:=
 ∀(ab:List (Addr×Obj)) (s:Shared) (σ:St) (H:ar) (Q:Bool->ar->Prop),Inv X ab σ H s->t σ H Q->wpAny (model X.prog X.w) X.A (isTrue e X.env (eval e X.env)) (Dt X ab σ Q) X.df s
def f5(X:a6)(e:Expr)(t:TT):Prop:=
 ∀(whole:Sem Value) (ab:List (Addr×Obj)) (s:Shared) (σ:St) (H:ar) (Q:Bool->ar->Prop),Inv X ab σ H s->t σ H Q->wpAny (model X.prog X.w) X.A (isTrue e X.env whole) (Dt X ab σ Q) X.df s
def f5.pt{e:Expr}{t:TT}(h:f5 X e t):h6 X e t:=h _
def da(X:a6)(aK:List Expr)(t:eE):Prop:=
 ∀(pos:Pos) (ab:List (Addr×Obj)) (s:Shared) (σ:St) (H:ar) (Q:List V->ar->Prop),Inv X ab σ H s->t σ H Q->wpAny (model X.prog X.w) X.A (spliced (backTo pos (starEach aK X.env))) (aoY X ab σ Q) X.df s
def gv(X:a6)(st:Stmt)(t:ea):Prop:=
 ∀(ab:List (Addr×Obj)) (s:Shared) (σ:St) (H:ar) (D:g4),Inv X ab σ H s->t D σ H->wpAny (model X.prog X.w) X.A (exec st X.env) (iR X ab D) X.df s
def g9(X:a6)(st:List Stmt)(t:ea):Prop:=
 ∀(ab:List (Addr×Obj)) (s:Shared) (σ:St) (H:ar) (D:g4),Inv X ab σ H s->t D σ H->wpAny (model X.prog X.w) X.A (execs st X.env) (iR X ab D) X.df s
def bG{t:Sem α}{A:Around}(h:wpAny M A t Q E s)(aV:∀a s,Q a s->jI a s):wpAny M A t jI E s:=wpAny_mono h aV λ_ _ x=>x
section
variable{X:a6}
def sj(H:ar)(Q:cz):Option (Option V)->Prop
 |some (some v)=>Q v H
 |_=>False
def SR(H:ar)(Q:cz)(v:V):sj H Q (some (some v))=Q v H:=rfl
theorem sj.out:∀{o:Option (Option V)},sj H Q o->∃v,o\(some v)/\Q v H
 |some (some v),h=>(v,rfl,h)
 |some none,h=>h.elim
 |none,h=>h.elim
def anB(H:ar)(Q:cz)(o:Option (Option V)):sj H Q o=∃v,o\(some v)/\Q v H:=propext (sj.out,λ⟨_,e,h⟩=>e ▸ h)
def gg(x:V)(k:Int->Prop):Prop:=match x with
 | .int i=>k i
 |_=>False
def Sd(i:Int)(k:Int->Prop):gg (.int i) k=k i:=rfl
theorem gg.out{x:V}{k:Int->Prop}(h:gg x k):∃i,x=.int i/\k i:=by
 cases x with
 |int i=>exact(i,rfl,h)
 |_=>exact h.elim
def alx(x:V)(k:Int->Prop):gg x k=∃i,x=.int i/\k i:=propext (gg.out,λ⟨_,e,h⟩=>e ▸ h)
def kP(x:V)(k:Bool->Prop):Prop:=match x with
 | .bE i=>k i
 |_=>False
def PY(i:Bool)(k:Bool->Prop):kP (.bE i) k=k i:=rfl
theorem kP.out{x:V}{k:Bool->Prop}(h:kP x k):∃i,x=.bE i/\k i:=by
 cases x with
 |bE i=>exact(i,rfl,h)
 |_=>exact h.elim
def aio(x:V)(k:Bool->Prop):kP x k=∃i,x=.bE i/\k i:=propext (kP.out,λ⟨_,e,h⟩=>e ▸ h)
def eV(x:V)(k:Addr->Prop):Prop:=match x with
 | .ref i=>k i
 |_=>False
def Ra(i:Addr)(k:Addr->Prop):eV ⇑i k=k i:=rfl
theorem eV.out{x:V}{k:Addr->Prop}(h:eV x k):∃i,x=⇑i/\k i:=by
 cases x with
 |ref i=>exact(i,rfl,h)
 |_=>exact h.elim
def ahd(x:V)(k:Addr->Prop):eV x k=∃i,x=⇑i/\k i:=propext (eV.out,λ⟨_,e,h⟩=>e ▸ h)
def mI(xs:List V)(k:V->Prop):Prop:=match xs with
 |[y]=>k y
 |_=>False
def Tp(y:V)(k:V->Prop):mI [y] k=k y:=rfl
theorem mI.out:∀{xs:List V} {k:V->Prop},mI xs k->∃y,xs=[y]/\k y
 |[y],_,h=>(y,rfl,h)
 |[],_,h=>h.elim
 |_::_::_,_,h=>h.elim
def ant(xs:List V)(k:V->Prop):mI xs k=∃y,xs=[y]/\k y:=propext (mI.out,λ⟨_,e,h⟩=>e ▸ h)
def AQ(i:Nat):TE:=λσ H Q=>sj H Q σ[i]?
def t2(v:V):TE:=λ_ H Q=>Q v H
def amM{x:Str}(bc:X.N[i]?\x)(aM:DS X.env.scope x)(hd:(x==("__debug__":Str))=false:=by decide)(lL:(x==("__classdict__":Str))=false:=by decide):bw X (.Name x pos) (AQ i):=by
 intro ab s σ H Q J h;let(v,e,h):=sj.out h;let(m,aL,aw):=J.loc;let(u,r,l):=aw i x v bc e aM;have fin:gX X ab σ Q u s:=(v,H,J,r,h);rcases l with⟨aI,hm⟩|⟨aI,c,ah,B8⟩
 .exact wpAny_Name (wpAny_loadName_local J.ok.kind aI aL hm fin) hd
 .rcases aI with aI|aI
  .exact wpAny_Name (wpAny_loadName_cell J.ok.kind aI ah B8 fin) hd
  .exact wpAny_Name (wpAny_loadName_free J.ok.kind aI ah B8 fin lL) hd
def aS{i j pos}:bw X (.Constant (.int i) j pos) (t2 (.int i)):=λ_ _ _ H _ J h=>wpAny_Constant_int (.int i,H,J.tok _,(_,rfl),h)
def hA{b j pos}:bw X (.Constant (.bool b) j pos) (t2 (.bE b)):=λ_ _ _ H _ J h=>Constant_bool (.bE b,H,J,rfl,h)
def wZ{j pos}:bw X (.Constant .none j pos) (t2 .b4):=λ_ _ _ H _ J h=>Constant_none (.b4,H,J,rfl,h)
def Db{x j pos}:bw X (.Constant (.str x) j pos) (t2 (.str x)):=λ_ _ _ H _ J h=>WW (.str x,H,J.tok _,(_,rfl),h)
def hI(X:a6)(x:Str):Prop:=X.env.kindOf x\.globalImplicit
def qR{x:Str}(J:Inv X ab σ H s)(a0:hI X x)(hm:X.av x\u)(h:Q u s)
  (hd:(x==("__debug__":Str))=false:=by decide):wpAny (model X.prog X.w) X.A (eval (.Name x pos) X.env) Q E s:=
 ae5 J.ok.kind a0 (Calls.loadGlobal_global (by rw[J.ok.glob];exact J.mod.glob.keeps J.b3) hm h) hd
def qu{x:Str}(J:Inv X ab σ H s)(a0:hI X x)(hm:X.av x=none)(aM:bootBuiltins x\u)(h:Q u s)
  (aL:x≠"__name__":=by decide) (hd:(x==("__debug__":Str))=false:=by decide):wpAny (model X.prog X.w) X.A (eval (.Name x pos) X.env) Q E s:=by
 let(jU,af,aj):=J.mod.blt;exact ae5 J.ok.kind a0 (Calls.loadGlobal_builtin (by rw[J.ok.glob];exact J.mod.glob.keeps J.b3) hm (by rw[J.ok.blt];exact af.keeps J.b3) ((aj x aL).trans aM) h) hd
def gN{x:Str}(a0:hI X x)(hm:X.av x\u)(r:bN v u)(hd:(x==("__debug__":Str))=false:=by decide):bw X (.Name x pos) (t2 v):=
 λ_ _ _ H _ J h=>qR J a0 hm (v,H,J,r,h) hd
variable{a b:Expr}{a4 cy:TE}{pos:Pos}
def QI(X:a6)(op:CmpOp)(a b:Expr)(t:TE):Prop:=
 ∀(ab:List (Addr×Obj)) (s:Shared) (σ:St) (H:ar) (Q:cz),Inv X ab σ H s->t σ H Q ->
  wpAny (model X.prog X.w) X.A (eval a X.env) (λv dj=>wpAny (model X.prog X.w) X.A (eval b X.env) (λu d1=>wpAny (model X.prog X.w) X.A (compareOp op v u) (gX X ab σ Q) X.df d1) X.df dj) X.df s
def aiM(b:Expr)(h:op≠.In)(aj:op≠.NotIn):behindInMarks op b=false:=by
 have az:(op==CmpOp.In)=false:=by cases op <;> first|rfl|exact absurd rfl h
 have aE:(op==ahQ)=false:=by cases op <;> first|rfl|exact absurd rfl aj
 cases b <;> simp[behindInMarks,az,aE]
def DV(t:TE):TT:=λσ H Q=>t σ H λx H1=>kP x λc=>Q c H1
def Qj{t:TE}(h:QI X op a b t)(af:behindInMarks op b=false:=by first|exact aiM _ ∅ ∅|rfl):h6 X (.Compare a [op] [b] pos) (DV t):=by
 intro ab s σ H Q J hw;refine wpAny_isTrue_Compare1 (bG (h ab s σ H _ J hw) λv s1 af=>bG af λu s2 aj=>bG aj λc s3 cm=>eo cm λx H1 aU bX bM=>?_) af;let(d,rfl,q):=kP.out bM;cases bX;exact wpAny_truthy_bool (H1,aU,q)
def jS{e:Expr}{t:TE}(h:bw X e t)(he:∀whole,isTrue e X.env whole=(do let v <- whole;standAt e.pos;holding [v] (truthy v)):=by intro _;rfl):h6 X e (DV t):=by
 intro ab s σ H Q J hw;refine isTrue_plain (bG (h ab s σ H _ J hw) λv s1 cm=>eo cm λx H1 aU bX bM=>?_) (he _);let(d,rfl,q):=kP.out bM;cases bX;exact wpAny_truthy_bool (H1,aU,q)
variable{me DT:TT}{rest:List Expr}
def NW(t u:TT):TT:=λσ H Q=>t σ H λc H1=>if c=true then u σ H1 Q else Q false H1
def M0(t u:TT):TT:=λσ H Q=>t σ H λc H1=>if c=true then Q true H1 else u σ H1 Q
def L6(t:TT):TT:=λσ H Q=>t σ H λc H1=>Q (!c) H1
theorem u4(aJ:h6 X a me):f5 X (.BoolOp .And [a] pos) me:=by
 intro Ad ab s σ H Q J h;refine isTrue_and (bG (aJ ab s σ H Q J h) λc s1 e=>?_);cases c with
 |true=>exact isTrue_and_nil e
 |false=>exact e
theorem pF(aJ:h6 X a me):f5 X (.BoolOp .Or [a] pos) me:=by
 intro Ad ab s σ H Q J h;refine isTrue_or (bG (aJ ab s σ H Q J h) λc s1 e=>?_);cases c with
 |false=>exact isTrue_or_nil e
 |true=>exact e
theorem wB(aJ:h6 X a me)(ae:f5 X (.BoolOp .And (b::rest) pos) DT):f5 X (.BoolOp .And (a::b::rest) pos) (NW me DT):=by
 intro Ad ab s σ H Q J h;refine isTrue_and (bG (aJ ab s σ H _ J h) λc s1 ck=>?_);let(H1,aU,bM):=ck;cases c with
 |true=>exact ae Ad ab s1 σ H1 Q aU bM
 |false=>exact(H1,aU,bM)
theorem ph(aJ:h6 X a me)(ae:f5 X (.BoolOp .Or (b::rest) pos) DT):f5 X (.BoolOp .Or (a::b::rest) pos) (M0 me DT):=by
 intro Ad ab s σ H Q J h;refine isTrue_or (bG (aJ ab s σ H _ J h) λc s1 ck=>?_);let(H1,aU,bM):=ck;cases c with
 |true=>exact(H1,aU,bM)
 |false=>exact ae Ad ab s1 σ H1 Q aU bM
def Fk(aJ:h6 X a me):h6 X (.UnaryOp .Not a pos) (L6 me):=by
 intro ab s σ H Q J h;exact isTrue_not (aJ ab s σ H (λc H1=>Q (!c) H1) J h)
def HQ(a4 cy:TE):TE:=λσ H Q=>a4 σ H λx H1=>kP x λc=>if c=true then cy σ H1 Q else Q (.bE false) H1
def Jq(a4 cy:TE):TE:=λσ H Q=>a4 σ H λx H1=>kP x λc=>if c=true then Q (.bE true) H1 else cy σ H1 Q
def wA{op}{t:TE}(h:bw X a t):bw X (.BoolOp op [a] pos) t:=λab s σ H Q J hw=>BoolOp_one (h ab s σ H Q J hw)
theorem Lo(aJ:bw X a a4)(ae:bw X (.BoolOp .And (b::rest) pos) cy):bw X (.BoolOp .And (a::b::rest) pos) (HQ a4 cy):=by
 intro ab s σ H Q J h;refine BoolOp_and (bG (aJ ab s σ H _ J h) λv s1 cm=>eo cm λx H1 aU bX bM=>?_);let(c,rfl,hk):=kP.out bM;cases bX;refine wpAny_truthy_bool ?_;cases c with
 |true=>exact ae ab s1 σ H1 Q aU hk
 |false=>exact(.bE false,H1,aU,rfl,hk)
theorem JC(aJ:bw X a a4)(ae:bw X (.BoolOp .Or (b::rest) pos) cy):bw X (.BoolOp .Or (a::b::rest) pos) (Jq a4 cy):=by
 intro ab s σ H Q J h;refine BoolOp_or (bG (aJ ab s σ H _ J h) λv s1 cm=>eo cm λx H1 aU bX bM=>?_);let(c,rfl,hk):=kP.out bM;cases bX;refine wpAny_truthy_bool ?_;cases c with
 |false=>exact ae ab s1 σ H1 Q aU hk
 |true=>exact(.bE true,H1,aU,rfl,hk)
def MD(t:TT)(a4 cy:TE):TE:=λσ H Q=>t σ H λc H1=>if c=true then a4 σ H1 Q else cy σ H1 Q
theorem Ev(ah:h6 X c me)(aJ:bw X a a4)(ae:bw X b cy):bw X (.IfExp c a b pos) (MD me a4 cy):=by
 intro ab s σ H Q J h;refine wpAny_IfExp (bG (ah ab s σ H _ J h) λd s1 ck=>?_);let(H1,aU,bM):=ck;cases d with
 |true=>exact aJ ab s1 σ H1 Q aU bM
 |false=>exact ae ab s1 σ H1 Q aU bM
end
def aH(K:a')(H:ar)(a:Addr)(xs:List V):Prop:=
 lS H a (.lst xs) \/
  ∃(o:Obj) (a5:Array Value) (n:Nat),K.lookup a\o/\o.cls=.type "list"/\o.dict=none/\o.data=.seq a5 n/\a5.size<=sizeLine/\bW xs a5.toList
def b1(K:a')(H:ar)(a:Addr)(xs:List V):Prop:=
 lS H a (.tup xs) \/
  ∃(o:Obj) (a5:Array Value) (n:Nat),K.lookup a\o/\o.cls=.type "tuple"/\o.data=.seq a5 n/\a5.size<=sizeLine/\bW xs a5.toList
noncomputable def agw:Value->Option V
 | .none=>some .b4
 | .bool b=>some (.bE b)
 | .int i _=>some (.int i)
 | .str x _=>some (.str x)
 | .bytes b _=>some (.kL b)
 | .float b _=>some (.uP b)
 | .ref a=>some (.ref a)
 | .type n=>some (.ty n)
 |_=>none
theorem bN.abs{x:V}(r:bN x u):agw u\x:=by
 cases x with
 |b4=>cases r;rfl
 |bE _=>cases r;rfl
 |int _=>let(t,rfl):=r;rfl
 |str _=>let(t,rfl):=r;rfl
 |kL _=>let(t,rfl):=r;rfl
 |uP _=>let(t,rfl):=r;rfl
 |ref _=>cases r;rfl
 |ty _=>cases r;rfl
def bN.inj{x y:V}(r:bN x u)(q:bN y u):x=y:=d6 (r.abs.symm.trans q.abs)
theorem bW.inj:∀{xs ys:List V} {us:List Value},bW xs us->bW ys us->xs=ys
 |_,_,_,.nil,.nil=>rfl
 |_,_,_,.cons r t,.cons dE t'=>by rw[r.inj dE,bW.inj t t']
section
variable{X:a6}{ab:List (Addr×Obj)}{σ:St}{H:ar}{s:Shared}{a:Addr}{xs ys:List V}
def aH.of{K:a'}(h:H a\(.lst xs)):aH K H a xs:=.inl (.inl h)
def b1.of{K:a'}(h:H a\(.tup xs)):b1 K H a xs:=.inl (.inl h)
def Inv.list(J:Inv X ab σ H s)(h:aH X.K H a xs):∃a5:List Value,bW xs a5/\PlainL s.heap a a5.toArray/\↑xs<=sizeLine:=by
 rcases h with h|⟨o,a5,n,aI,ah,hd,aB,ax,r⟩
 .let(z,a5,n,r,e):=h.ok J.bf;exact(a5,r,(_,n,e,rfl,rfl,rfl),z)
 .refine (a5.toList,r,(o,n,J.es a o aI,ah,hd,by simpa using aB),?_);have e:=↑r;simp only[l2]at e;omega
def Inv.tuple(J:Inv X ab σ H s)(h:b1 X.K H a xs):∃a5:List Value,bW xs a5/\IsTup s.heap a a5.toArray/\↑xs<=sizeLine:=by
 rcases h with h|⟨o,a5,n,aI,ah,aB,ax,r⟩
 .let(z,a5,r,p):=h.ok J.bf;exact(a5,r,p,z.1)
 .refine (a5.toList,r,(o,J.es a o aI,ah,n,by simpa using aB),?_);have e:=↑r;simp only[l2]at e;omega
def Inv.zF(J:Inv X ab σ H s)(h:aH X.K H a xs)(h':aH X.K H a ys):xs=ys:=by
 let(a5,r,(o,n,e,_,_,d),_):=J.list h;let(its',dE,(dY,fK,bZ,_,_,d'),_):=J.list h';rw[e]at bZ;cases bZ;rw[d]at d';injection d' with cU _;have:a5=its':=by simpa using congrArg amr cU
 subst this;exact r.inj dE
def Inv.Oh(J:Inv X ab σ H s)(h:b1 X.K H a xs)(h':b1 X.K H a ys):xs=ys:=by
 let(a5,r,(o,e,_,n,d),_):=J.tuple h;let(its',dE,(dY,bZ,_,fK,d'),_):=J.tuple h';rw[e]at bZ;cases bZ;rw[d]at d';injection d' with cU _;have:a5=its':=by simpa using congrArg amr cU
 subst this;exact r.inj dE
end
noncomputable abbrev a6.iH(X:a6)(E:Value->Shared->Prop):a6:={X with df:=E}
noncomputable abbrev a6.xy(X:a6):a6:=X.iH λ_ _=>False
theorem a6.Ok.iH{X:a6}(ok:X.Ok)(E:Value->Shared->Prop):(X.iH E).Ok:=
 (ok.mod,ok.kind,ok.glob,ok.blt,ok.above,ok.inj,ok.has,ok.qL,ok.hd,ok.frames,ok.rn,ok.uO,ok.bs,ok.j6,ok.qj,ok.qG,ok.iZ,ok.kA)
def a6.Ok.nR{X:a6}{E:Value->Shared->Prop}(ok:(X.iH E).Ok):X.Ok:=
 (ok.mod,ok.kind,ok.glob,ok.blt,ok.above,ok.inj,ok.has,ok.qL,ok.hd,ok.frames,ok.rn,ok.uO,ok.bs,ok.j6,ok.qj,ok.qG,ok.iZ,ok.kA)
section
variable{X:a6}{ab:List (Addr×Obj)}{σ:St}{H:ar}{s:Shared}{E:Value->Shared->Prop}
theorem Inv.iH(J:Inv X ab σ H s)(E:Value->Shared->Prop):Inv (X.iH E) ab σ H s:=(J.ok.iH E,J.os,J.bare,J.base,J.loc,J.cell,J.free,J.iS,J.pin,J.bf,J.len)
theorem Inv.nR(J:Inv (X.iH E) ab σ H s):Inv X ab σ H s:=(J.ok.nR,J.os,J.bare,J.base,J.loc,J.cell,J.free,J.iS,J.pin,J.bf,J.len)
theorem iR.nR(h:iR (X.iH E) ab D f s'):iR X ab D f s':=by
 cases f with
 |next=>let(aT,I,J,q):=h;exact(aT,I,J.nR,q)
 |brk=>let(aT,I,J,q):=h;exact(aT,I,J.nR,q)
 |cont=>let(aT,I,J,q):=h;exact(aT,I,J.nR,q)
 |ret u=>let(v,aT,I,J,r,q):=h;exact(v,aT,I,J.nR,r,q)
theorem g9.xy{st:List Stmt}{t:ea}(h:g9 X.xy st t):g9 X st t:=λab s σ H D J hw=>
 wpAny_mono (h ab s σ H D (J.iH _) hw) (λ_ _ q=>q.nR) λ_ _ z=>ky z
end
section
variable{X:a6}{st:Stmt}{rest:List Stmt}{t u:ea}{e:Expr}{bI:TE}{pos:Pos}
def g7:ea:=λD σ H=>D.cp σ H
noncomputable def rW:Nat:=0
noncomputable def oG:Nat:=rW
noncomputable def CR:Nat:=oG
noncomputable def ad':Nat:=CR
noncomputable def aoB:Nat:=ad'
noncomputable def adh:Nat:=aoB
noncomputable def HN:Nat:=adh
noncomputable def aab:Nat:=HN
noncomputable def RH:Nat:=aab
noncomputable def adN:Nat:=RH
noncomputable def amJ:Nat:=adN
noncomputable def aai:Nat:=amJ
noncomputable def aqF:Nat:=aai
def Nm(t u:ea):ea:=λD σ H=>(λ_:Nat=>t {D with cp:=u D} σ H) aqF
def c7:g9 X [] g7:=λ_ _ σ H _ J h=>wpAny_execs_nil (σ,H,J,h)
theorem aN(af:gv X st t)(aj:g9 X rest u):g9 X (st::rest) (Nm t u):=by
 intro ab s σ H D J h;refine wpAny_execs_cons (bG (af ab s σ H {D with cp:=u D} J h) λf s1 q=>?_);cases f with
 |next=>
  let(aT,I,jZ,q):=q;exact aj ab s1 aT I D jZ q
 |ret v=>exact q
 |brk=>exact q
 |cont=>exact q
theorem aY(af:gv X st t):g9 X [st] t:=by
 intro ab s σ H D J h;refine wpAny_execs_cons (bG (af ab s σ H D J h) λf s1 q=>?_);cases f with
 |next=>exact wpAny_execs_nil q
 |ret v=>exact q
 |brk=>exact q
 |cont=>exact q
def Inv.quiet(J:Inv X ab σ H s):interactive X.env=false:=by simp[interactive,J.ok.kind]
def Gy(bI:TE):ea:=λD σ H=>bI σ H λ_ H1=>D.cp σ H1
def eu(he:bw X e bI)(aB:swapsWith e none pos.line X.env=pure false:=by rfl):gv X (.Expr e pos) (Gy bI):=by
 intro ab s σ H D J h;exact wpAny_Expr_any (bG (he ab s σ H _ J h) λv s1 cm=>eo cm λx H1 aU bX bM=>(σ,H1,aU,bM)) J.quiet aB
def CZ(bI:TE):ea:=λD σ H=>bI σ H D.lG
def bR(he:bw X e bI):gv X (.Return (some e) pos) (CZ bI):=by
 intro ab s σ H D J h;exact wpAny_Return_some (bG (he ab s σ H _ J h) λv s1 cm=>eo cm λx H1 aU bX bM=>(x,σ,H1,aU,bX,bM))
def Ki:ea:=λD _ H=>D.lG .b4 H
def al_:gv X (.Return none pos) Ki:=λ_ _ σ H _ J h=>wpAny_Return_none (.b4,σ,H,J,rfl,h)
def Hi(c:TT)(t u:ea):ea:=λD σ H=>c σ H λb H1=>if b=true then t D σ H1 else u D σ H1
theorem c0(ah:h6 X c de)(aJ:g9 X a t)(ae:g9 X b u):gv X (.If c a b pos) (Hi de t u):=by
 intro ab s σ H D J h;refine wpAny_If (bG (ah ab s σ H _ J h) λd s1 ck=>?_);let(H1,aU,bM):=ck;cases d with
 |true=>exact aJ ab s1 σ H1 D aU bM
 |false=>exact ae ab s1 σ H1 D aU bM
def GP:ea:=λ_ _ _=>False
def lH:gv X st GP:=λ_ _ _ _ _ _ h=>h.elim
end
abbrev gr:=V->St->ar->(St->ar->Prop)->Prop
abbrev ue:=List V->St->ar->(St->ar->Prop)->Prop
def nr(X:a6)(yX:Expr)(t:gr):Prop:=
 ∀(ab:List (Addr×Obj)) (s:Shared) (σ:St) (H:ar) (v:V) (u:Value) (Q:St->ar->Prop),Inv X ab σ H s->bN v u->t v σ H Q ->
  wpAny (model X.prog X.w) X.A (assign yX X.env u) (λ_ s'=>∃aT I,Inv X ab aT I s'/\Q aT I) X.df s
def xd(X:a6)(iX:List Expr)(t:ue):Prop:=
 ∀(ab:List (Addr×Obj)) (s:Shared) (σ:St) (H:ar) (vs:List V) (us:List Value) (Q:St->ar->Prop),Inv X ab σ H s->bW vs us->t vs σ H Q ->
  wpAny (model X.prog X.w) X.A (assignInOrder ((assignEach iX X.env).map (·.2)) us) (λ_ s'=>∃aT I,Inv X ab aT I s'/\Q aT I) X.df s
abbrev GS:=V->V->V->ar->(ar->Prop)->Prop
def PW(X:a6)(t:GS):Prop:=
 ∀(ab:List (Addr×Obj)) (s:Shared) (σ:St) (H:ar) (o i v:V) (di jq u:Value) (Q:ar->Prop),Inv X ab σ H s->bN o di->bN i jq->bN v u->t o i v H Q ->
  wpAny (model X.prog X.w) X.A (setItem di jq u) (λ_ s'=>∃I,Inv X ab σ I s'/\Q I) X.df s
section
variable{X:a6}{pos:Pos}
def gu(i:Nat):gr:=λv σ H Q=>Q (σ.set i (some v)) H
def SB{x:Str}(bc:X.N.Nodup)(ao:X.N[i]?\x)(ai:Loc X.env.scope x)(hf:X.fn x=true\/X.env.scope.names.lookup x\.local:=by first|exact .inl rfl|exact .inr rfl|assumption):nr X (.Name x pos) (gu i):=by
 intro ab s σ H v u Q J r h;exact wpAny_assign_Name (Ef J bc ao ai r (λs' jZ=>(_,H,jZ,h)) hf)
def y6:ue:=λvs σ H Q=>vs=[]/\Q σ H
def s7(t:gr)(u:ue):ue:=λvs σ H Q=>∃v r,vs=v::r/\t v σ H λaT I=>u r aT I Q
def jd:xd X [] y6:=by
 intro ab s σ H vs us Q J r h;let(e,h):=h;subst e;cases r;exact assignInOrder_nil (σ,H,J,h)
theorem eb{e:Expr}{t:gr}(af:nr X e t)(aj:xd X aK u)
  (aB:(assignEach (e::aK) X.env).map (·.2)=assign e X.env::(assignEach aK X.env).map (·.2):=by rfl):xd X (e::aK) (s7 t u):=by
 intro ab s σ H vs us Q J r h;let(v,atm,az,h):=h;subst az;cases r with
 |cons r iC=>
  rw[aB];refine assignInOrder_cons (bG (af ab s σ H _ _ _ J r h) λ_ s1 ck=>?_);let(h8,H1,aU,bM):=ck;exact aj ab s1 h8 H1 _ _ Q aU iC bM
def u'(K:a')(n:Nat)(t:ue):gr:=λv σ H Q=>∃a xs,v=⇑a/\b1 K H a xs/\↑xs=n/\t xs σ H Q
set_option tactic.hygienic true in
def alV{k:Nat}{t:ue}(ah:X.calm=true)(h:xd X aK t)
  (aL:↑(assignEach aK X.env)=n:=by rfl) (gJ:(assignEach aK X.env).findIdx? (·.1)=none:=by rfl):nr X (.Tuple aK k pos) (u' X.K n t):=by
 intro ab s σ H v u Q J r hw;let(a,xs,az,aF,aw,hw):=hw;subst az;cases r;let(a5,cf,cV,ax):=J.tuple aF;refine assign_Tuple_tuple (J.ok.hd ah) cV (by simp[aL,<- aw,cf.length]) gJ λh' ai=>?_
 have aU:Inv X ab σ H {s with heap:=h' }:=J.kept (t':=s.toks) λb o e=>ai b o (fM (dO e)) e
 exact h ab _ σ H xs _ Q aU (by simpa using cf) hw
def Jc(to BJ:TE)(t:GS):gr:=λv σ H Q=>to σ H λo H1=>BJ σ H1 λi ay=>t o i v ay λbq=>Q σ bq
def vr{to BJ:TE}{t:GS}(aW:bw X o to)(ao:bw X i BJ)(aB:PW X t)
  (aJ:∀v,assign (.Subscript o i pos) X.env v=(do
   let di <- holding [v] (eval o X.env)
   let jq <- holding [v,di] (eval i X.env)
   standAt pos
   holding [v,di,jq] (setItem di jq v)
   release [v,di,jq] []):=by intro _;rfl):nr X (.Subscript o i pos) (Jc to BJ t):=by
 intro ab s σ H v u Q J r h;rw[aJ];refine wpAny_bind (wpAny_holding (bG (aW ab s σ H _ J h) λdi s1 cm=>eo cm λx H1 aU bX bM=>?_));refine wpAny_bind (wpAny_holding (bG (ao ab s1 σ H1 _ aU bM) λjq s2 cm=>eo cm λy ay bK c4 cP=>?_));refine wpAny_bind (wpAny_standAt (wpAny_bind (wpAny_holding (bG (aB ab s2 σ ay x y v di jq u _ bK bX c4 r cP) λ_ s3 ck=>?_))));let(bq,eA,eC):=ck;exact wpAny_release (σ,bq,eA,eC)
def uN(bI:TE)(g:gr):ea:=λD σ H=>bI σ H λx H1=>g x σ H1 D.cp
def mr{cZ e:Expr}(he:bw X e bI)(a0:nr X cZ g)(aB:swapsWithSole [cZ] e pos.line X.env=pure false:=by rfl)(hw:swappedStores [cZ] e X.env=pure none:=by rfl)
  (af:(assignEach [cZ] X.env).map (·.2)=[assign cZ X.env]:=by rfl):gv X (.Assign [cZ] e pos) (uN bI g):=by
 intro ab s σ H D J h;refine wpAny_Assign_stores (bG (he ab s σ H _ J h) λv s1 cm=>eo cm λx H1 aU bX bM=>?_) aB hw;rw[af];exact bG (a0 ab s1 σ H1 x v _ aU bX bM) λ_ s2 q=>q
def K_{x:Str}{e:Expr}(bc:X.N.Nodup)(ao:X.N[i]?\x)(ai:Loc X.env.scope x)(he:bw X e bI)(aB:swapsWith e (some (.Name x pos')) pos.line X.env=pure false:=by rfl)(hf:X.fn x=true\/X.env.scope.names.lookup x\.local:=by first|exact .inl rfl|exact .inr rfl|assumption) :
  gv X (.Assign [.Name x pos'] e pos) (uN bI (gu i)):=by
 intro ab s σ H D J h;refine wpAny_Assign_Name (bG (he ab s σ H _ J h) λv s1 cm=>eo cm λy H1 aU bX bM=>?_) aB;exact Ef aU bc ao ai bX (λs2 bK=>(_,H1,bK,bM)) hf
def Oc(c:TT)(cy:ea):ea:=λD σ H=>∃W:Nat->St->ar->Prop,(∃m,W m σ H)/\∀m σ H,W m σ H ->
 c σ H λb H1=>if b=true then ∃N:St->ar->Prop,(∀aT I,N aT I->∃dV,dV<m/\W dV aT I)/\cy {D with cp:=N,eX:=N,b3:=D.cp} σ H1 else D.cp σ H1
theorem Y7(aq:PassesOwn (model X.prog X.w) X.A X.env X.df)(ah:h6 X c de)(ae:g9 X body cy):gv X (.While c body [] pos) (Oc de cy):=by
 intro ab s σ H D J h;let(W,(m0,l_),turn):=h;refine wpAny_While (codeAny_whileLoop (λn s'=>∃aT I,Inv X ab aT I s'/\W n aT I) ?_ m0 (σ,H,J,l_));intro n s1 (h8,H1,aU,c_);refine wpAny_passesOwn aq (bG (ah ab s1 h8 H1 _ aU (turn n h8 H1 c_)) λb s2 ck=>?_);let(ay,bK,cP):=ck;cases b with
 | true=>
  let(N,bc,cP):=cP;rw[if_pos rfl];refine wpAny_passesOwn aq (bG (ae ab s2 h8 ay _ bK cP) λf s3 eC=>?_);cases f with
  |next=>
   let(iO,bq,eA,dh):=eC;let(dV,hm,g6):=bc iO bq dh;exact(dV,hm,iO,bq,eA,g6)
  |cont=>
   let(iO,bq,eA,dh):=eC;let(dV,hm,g6):=bc iO bq dh;exact(dV,hm,iO,bq,eA,g6)
  |brk=>exact eC
  |ret v=>exact eC
 |false=>
  rw[if_neg gZ];exact wpAny_execs_nil (h8,ay,bK,cP)
end
structure iE where
 go:Nat->ar->Prop
 qM:Nat->ar->V->ar->Prop
 stop:Nat->ar->Prop
def h2(X:a6)(ab:List (Addr×Obj))(H:ar)(b:Addr):Prop:=
 H b=none/\b≠X.env.locals/\b∉X.aR/\(b∈X.ex\/↥X.fB<=b)/\(∀x c,X.env.cells.lookup x\c->c≠b)/\∀p∈X.d8++ab,p.1≠b
def Inv.mv(J:Inv X ab σ H s)(ae:↥s<=b)(aL:I b=none):h2 X ab I b:=by
 refine(aL,C8 (ij J.lt ae),J.UR ae,.inr (cH J.rf ae),λx c e z=>?_,λp aq z=>?_)
 .let(v,q):=J.cell x c e;exact absurd (ij q.lt (by rw[z];exact ae)) (qW _)
 .exact absurd (ij (dO (J.pin p aq).1) (by rw[z];exact ae)) (qW _)
structure pv(P:Program)(w:World)(K:a')(cZ:Expr)(cb:iE)(bQ:List Addr)(it:Addr)(fT:Nat->Heap->Prop):Prop where
 mem:it∈bQ
 obj:∀i h,fT i h->∀b∈bQ,∃o,h.get? b\o/\∀v,o.data≠.cell v
 keep:∀i h h',fT i h->(∀b∈bQ,∀o,h.get? b\o->h'.get? b\o)->fT i h'
 item:∀(X:a6),X.prog=P->X.w=w->X.K=K->X.calm=true->∀(i:Nat) (ab:List (Addr×Obj)) (s:Shared) (σ:St) (H:ar) (E:Value->Shared->Prop),Inv X ab σ H s->(∀b∈bQ,h2 X ab H b)->fT i s.heap->cb.go i H ->
  wpAny (model P w) X.A (pyNext ⇑it) (λr s1=>∃u,r\u /\
   wpAny (model P w) X.A (letOwnedTupleGo cZ ⇑it u) (λ_ s2=>∃x I,Inv X ab σ I s2/\bN x u/\cb.qM i H x I/\fT (i+1) s2.heap/\∀b∈bQ,I b=none) E s1) E s
 done:∀(X:a6),X.prog=P->X.w=w->X.K=K->X.calm=true->∀(i:Nat) (ab:List (Addr×Obj)) (s:Shared) (σ:St) (H:ar) (E:Value->Shared->Prop),Inv X ab σ H s->(∀b∈bQ,h2 X ab H b)->fT i s.heap->cb.stop i H ->
  wpAny (model P w) X.A (pyNext ⇑it) (λr s1=>r=none/\Inv X ab σ H s1) E s
 self:∀(A:Around) (i:Nat) (s:Shared) (Q:Value->Shared->Prop) (E:Value->Shared->Prop),fT i s.heap->Q ⇑it s->wpAny (model P w) A (pyIter ⇑it) Q E s
abbrev TI:=St->ar->(iE->ar->Prop)->Prop
def US(X:a6)(ab:List (Addr×Obj))(σ:St)(cZ:Expr)(R:iE->ar->Prop)(EO:Value)(s2:Shared):Prop:=
 ∃(it:Addr) (bQ:List Addr) (fT:Nat->Heap->Prop) (cb:iE) (I:ar),EO=⇑it/\Inv X ab σ I s2/\pv X.prog X.w X.K cZ cb bQ it fT/\fT 0 s2.heap/\(∀b∈bQ,h2 X ab I b)/\R cb I
def l9(X:a6)(cZ iter:Expr)(d3:TI):Prop:=
 ∀(ab:List (Addr×Obj)) (s:Shared) (σ:St) (H:ar) (R:iE->ar->Prop),Inv X ab σ H s->d3 σ H R ->
  wpAny (model X.prog X.w) X.A (eval iter X.env) (λv s1=>wpAny (model X.prog X.w) X.A (pyIter v) (US X ab σ cZ R) X.df s1) X.df s
theorem wG {A:Around} {it:Addr} (aW:s.heap.get? it\o) (ah:o.cls=.type n) (hd:o.data=.fields vs)
    (aL:["enumerate","zip","dict_itemiterator","dict_reverseitemiterator","odict_iterator","itertools.zip_longest","itertools.pairwise"].contains n=false) (aV:Q ⟨⟩ s):wpAny M A (letOwnedTupleGo cZ ⇑it u) Q E s:=by
  unfold letOwnedTupleGo;cases cZ <;> first
    |exact wpAny_pure aV
    |(cases u <;> first
        |exact wpAny_pure aV
        | (refine wpAny_bind (wpAny_load aW ?_)
           rw[ah,hd];show wpAny M A (if(["enumerate","zip","dict_itemiterator","dict_reverseitemiterator","odict_iterator","itertools.zip_longest","itertools.pairwise"].contains n&&vs[0]? == some (rawInt _))=true then _ else _) Q E s;rw[if_neg (by intro h;rw[aL,tU]at h;cases h)];exact wpAny_pure aV))
noncomputable def oX(K:a')(a:Addr):iE:=
 (λi H=>∃xs x,aH K H a xs/\xs[i]?\x,λi H x I=>I=H/\∀xs,aH K H a xs->xs[i]?\x,λi H=>∃xs,aH K H a xs/\↑xs<=i)
noncomputable def BE(K:a')(a:Addr):iE:=
 (λi H=>∃xs x,b1 K H a xs/\xs[i]?\x,λi H x I=>I=H/\∀xs,b1 K H a xs->xs[i]?\x,λi H=>∃xs,b1 K H a xs/\↑xs<=i)
noncomputable def kY(lo:Int)(n:Nat):iE:=(λi _=>i<n,λi H x I=>I=H/\x=.int (lo+i),λi _=>n<=i)
def agc{w:World}{K:a'}(a it:Addr):pv P w K cZ (oX K a) [it] it (λi h=>h.IsListIter it a i)where
 mem:=by simp
 obj:=λi h st b ae=>by
  have e:b=it:=by simpa using ae
  subst e;let(o,e,c,d):=st;exact(o,e,λv z=>by rw[d]at z;cases z)
 keep:=λi h h' st k=>st.at λo e=>k it (by simp) o e
 item:=by
  intro X d9 hw eS ah i ab s σ H E J hf st a0;subst d9 hw eS;let(xs,x,aF,ai):=a0;let(a5,cf,p,ax):=J.list aF;let(u,bx,ed):=cf.get ai;let(f0,f1,f2,eP,f4,fA):=hf it (by simp);refine wpAny_pyNext_list_item st p.isList (x:=u) (by simpa using bx) λh' jR hs=>?_
  have aU:Inv X ab σ H {s with heap:=h' }:=J.turned (t':=s.toks) (λb o ae e=>(hs.2 b ae).trans e) f0 f1 eP f4 fA;let(o,e,c,d):=id jR;exact(u,rfl,wG (s:={s with heap:=h' }) e c d ∅ (x,H,aU,ed,(rfl,λys bg=>by rw[J.zF bg aF];exact ai),jR,λb ae=>(hf b ae).1))
 done:=by
  intro X d9 hw eS ah i ab s σ H E J hf st a0;subst d9 hw eS;let(xs,aF,ai):=a0;let(a5,cf,p,ax):=J.list aF;let(f0,f1,f2,eP,f4,fA):=hf it (by simp);have aw:=↑cf;exact wpAny_pyNext_list_end (J.ok.hd ah) st p.isList (by simp;omega) λh' dc=>(rfl,J.turned (t':=s.toks) (λb o ae e=>dc b o ae e) f0 f1 eP f4 fA)
 self:=λ_ _ _ _ _ st h=>wpAny_pyIter_listiter st h
def aiY{w:World}{K:a'}(a it:Addr):pv P w K cZ (BE K a) [it] it (λi h=>h.IsTupleIter it a i)where
 mem:=by simp
 obj:=λi h st b ae=>by
  have e:b=it:=by simpa using ae
  subst e;let(o,e,c,d):=st;exact(o,e,λv z=>by rw[d]at z;cases z)
 keep:=λi h h' st k=>st.at λo e=>k it (by simp) o e
 item:=by
  intro X d9 hw eS ah i ab s σ H E J hf st a0;subst d9 hw eS;let(xs,x,aF,ai):=a0;let(a5,cf,p,ax):=J.tuple aF;let(u,bx,ed):=cf.get ai;let(f0,f1,f2,eP,f4,fA):=hf it (by simp);refine wpAny_pyNext_tuple_item st (show s.heap.IsTuple a a5.toArray from p) (x:=u) (by simpa using bx) λh' jR hs=>?_
  have aU:Inv X ab σ H {s with heap:=h' }:=J.turned (t':=s.toks) (λb o ae e=>(hs.2 b ae).trans e) f0 f1 eP f4 fA;let(o,e,c,d):=id jR;exact(u,rfl,wG (s:={s with heap:=h' }) e c d ∅ (x,H,aU,ed,(rfl,λys bg=>by rw[J.Oh bg aF];exact ai),jR,λb ae=>(hf b ae).1))
 done:=by
  intro X d9 hw eS ah i ab s σ H E J hf st a0;subst d9 hw eS;let(xs,aF,ai):=a0;let(a5,cf,p,ax):=J.tuple aF;let(f0,f1,f2,eP,f4,fA):=hf it (by simp);have aw:=↑cf;exact wpAny_pyNext_tuple_end (J.ok.hd ah) st (show s.heap.IsTuple a a5.toArray from p) (by simp;omega) λh' dc=>(rfl,J.turned (t':=s.toks) (λb o ae e=>dc b o ae e) f0 f1 eP f4 fA)
 self:=λ_ _ _ _ _ st h=>wpAny_pyIter_tupleiter st h
def ai5{w:World}{K:a'}(it:Addr)(lo:Int)(n:Nat):pv P w K cZ (kY lo n) [it] it (λi h=>IsRangeIter h it (lo+(i:Nat)*1) ((n:Int)-(i:Nat)) 1)where
 mem:=by simp
 obj:=λi h st b ae=>by
  have e:b=it:=by simpa using ae
  subst e;exact(_,st,λv z=>by
   have z':Gd _=IY v:=z;cases z')
 keep:=λi h h' st k=>k it (by simp) _ st
 item:=by
  intro X d9 hw eS ah i ab s σ H E J hf st a0;subst d9 hw eS;let(f0,f1,f2,eP,f4,fA):=hf it (by simp);have W:=abQ (prog:=X.prog) (w:=X.w) (J.ok.hd ah) it lo 1 n;refine W.item i s _ _ a0 st λv h' cB aM jR kb=>?_
  let(t,rfl):=aM;have aU:Inv X ab σ H {s with heap:=h',toks:=cB}:=J.turned (λb o ae e=>kb b o (by simpa using ae) e) f0 f1 eP f4 fA;refine(_,rfl,wG (s:={s with heap:=h',toks:=cB}) (n:="range_iterator") jR rfl rfl ∅ (.int (lo+i),H,aU,(t,?_),(rfl,rfl),jR,λb ae=>(hf b ae).1));rw[ap3]
 done:=by
  intro X d9 hw eS ah i ab s σ H E J hf st a0;subst d9 hw eS;let(f0,f1,f2,eP,f4,fA):=hf it (by simp);exact wpAny_pyNext_range_end (J.ok.hd ah) st (by have:n<=i:=a0;omega) λh' dc=>(rfl,J.turned (t':=s.toks) (λb o ae e=>dc b o ae e) f0 f1 eP f4 fA)
 self:=λ_ _ _ _ _ st h=>wpAny_pyIter_rangeiter st h
section
variable{X:a6}{cZ:Expr}
def HM(K:a')(dp:TE):TI:=λσ H R=>dp σ H λx H1=>eV x λa=>(∃xs,aH K H1 a xs)/\R (oX K a) H1
def Kv(K:a')(dp:TE):TI:=λσ H R=>dp σ H λx H1=>eV x λa=>(∃xs,b1 K H1 a xs)/\R (BE K a) H1
def e5(aw:bw X l dp):l9 X cZ l (HM X.K dp):=by
 intro ab s σ H R J h;refine bG (aw ab s σ H _ J h) λv s1 cm=>eo cm λx H1 aU bX bM=>?_
 let(a,e,(xs,aF),q):=eV.out bM;subst e;cases bX;let(a5,cf,p,ax):=aU.list aF;refine wpAny_pyIter_list p.isList ?_;refine(↥s1,[↥s1],_,_,H1,rfl,aU.kept (t':=s1.toks) λb o e=>dX _ e,agc a _,(_,e7 _ rfl,rfl,rfl),λb ae=>?_,q);have e:b=↥s1:=by simpa using ae
 subst e;exact aU.mv (b0 _) (aU.bf.fresh (b0 _))
def Xb(aw:bw X l dp):l9 X cZ l (Kv X.K dp):=by
 intro ab s σ H R J h;refine bG (aw ab s σ H _ J h) λv s1 cm=>eo cm λx H1 aU bX bM=>?_
 let(a,e,(xs,aF),q):=eV.out bM;subst e;cases bX;let(a5,cf,p,ax):=aU.tuple aF;refine wpAny_pyIter_tuple (show s1.heap.IsTuple a a5.toArray from p) ?_;refine(↥s1,[↥s1],_,_,H1,rfl,aU.kept (t':=s1.toks) λb o e=>dX _ e,aiY a _,(_,e7 _ rfl,rfl,rfl),λb ae=>?_,q);have e:b=↥s1:=by simpa using ae
 subst e;exact aU.mv (b0 _) (aU.bf.fresh (b0 _))
def Tf{ab:List (Addr×Obj)}{σ:St}{H:ar}{s:Shared}{R:iE->ar->Prop}{E:Value->Shared->Prop}{lo ao:Int}{t u v:Tok}{cB:Nat}(J:Inv X ab σ H s)(af:-(2 ^ 62)<=lo)(aj:lo<2 ^ 62)(a_:-(2 ^ 62)<=ao)(b':ao<2 ^ 62)
  (q:R (kY lo (ao-lo).toNat) H):wpAny (model X.prog X.w) X.A (pyIter (.ref ↥s)) (US X ab σ cZ R) E {s with heap:=s.heap.push {cls:=.type "range",data:=.fields #[.int lo t,.int ao u,.int 1 v]},toks:=cB}:=by
 refine wpAny_pyIter_range (aa0 ..) (small_one af aj a_ b') ?_;have aU:Inv X ab σ H {s with heap:=s.heap.push {cls:=.type "range",data:=.fields #[.int lo t,.int ao u,.int 1 v]},toks:=cB}:=J.kept λb o e=>dX _ e
 refine((s.heap.push {cls:=.type "range",data:=.fields #[.int lo t,.int ao u,.int 1 v]}).objs.size,[(s.heap.push {cls:=.type "range",data:=.fields #[.int lo t,.int ao u,.int 1 v]}).objs.size],_,_,H,rfl,
  aU.kept (t':=cB) λb o e=>dX _ e,ai5 _ lo (ao-lo).toNat,?_,λb ae=>?_,q)
 .have az:lo+((0:Nat):Int)*1=lo:=by simp
  have aE:(((ao-lo).toNat:Nat):Int)-((0:Nat):Int)=J7 lo ao 1:=by rw[rangeSize_one];split <;> omega
  show IsRangeIter _ _ (lo+((0:Nat):Int)*1) ((((ao-lo).toNat:Nat):Int)-((0:Nat):Int)) 1;rw[az,aE];exact e7 _ rfl
 .have e:b=(s.heap.push {cls:=.type "range",data:=.fields #[.int lo t,.int ao u,.int 1 v]}).objs.size:=by simpa using ae
  subst e;exact aU.mv (b0 _) (aU.bf.fresh (b0 _))
def Ug(a4:eE):TI:=λσ H R=>a4 σ H λvs H1=>mI vs λx=>gg x λj=>-(2 ^ 62)<=j/\j<2 ^ 62/\R (kY 0 j.toNat) H1
def Pc(a4:eE):TI:=λσ H R=>a4 σ H λvs H1=>∃i j:Int,vs=[.int i,.int j]/\(-(2 ^ 62)<=i/\i<2 ^ 62/\-(2 ^ 62)<=j/\j<2 ^ 62)/\R (kY i (j-i).toNat) H1
theorem lb{a:Expr}{a4:eE}{p pos:Pos}(a0:hI X "range")(hm:X.av "range"=none)(aJ:da X [a] a4)(aB:starEach [a] X.env=[(p'p false (eval a X.env))]:=by rfl):l9 X cZ (.Call (.Name "range" p) [a] [] pos) (Ug a4):=by
 intro ab s σ H R J h;refine Call_ (qu J a0 hm boot_range (vO (bG (aJ pos ab s σ H _ J h) λus s1 ck=>?_) aB rfl));let(vs,H1,aU,bX,bM):=ck;let(ade,aau,hk):=mI.out bM;let(j,Yy,aq0,cP,q):=gg.out hk;have e:=aau.trans (congrArg (λz=>[z]) Yy);subst e;cases bX with
 |cons r iC=>
  cases iC;let(t,rfl):=r;exact call_range_1 (Tf aU () () aq0 cP (by simpa using q))
theorem KV{p pos:Pos}(a0:hI X "range")(hm:X.av "range"=none)(aJ:da X [a,b] a4)(aB:starEach [a,b] X.env=[(p'p false (eval a X.env)),(p'p false (eval b X.env))]:=by rfl)(fH:starEach [b] X.env=[(p'p false (eval b X.env))]:=by rfl) :
  l9 X cZ (.Call (.Name "range" p) [a,b] [] pos) (Pc a4):=by
 intro ab s σ H R J h;refine Call_ (qu J a0 hm boot_range (vO (bG (aJ pos ab s σ H _ J h) λus s1 ck=>?_) (by rw[aB,fH]) (by rw[fH];rfl)));let(vs,H1,aU,bX,bM):=ck;let(i,j,e,(bM,cP,eC,lD),q):=bM;subst e;cases bX with
 | cons r iC=>
  cases iC with
  |cons dE iC=>
   cases iC;let(t,rfl):=r;let(t',rfl):=dE;exact call_range_2 (Tf aU bM cP eC lD q)
def OO(d3:TI)(g:gr)(cy:ea):ea:=λD σ H=>d3 σ H λcb H1=>∃W:Nat->Nat->St->ar->Prop,(∃m,W 0 m σ H1)/\∀i m σ H,W i m σ H ->
 (cb.stop i H/\D.cp σ H)\/(cb.go i H/\∃N:St->ar->Prop,(∀aT I,N aT I->∃dV,dV<m/\W (i+1) dV aT I)/\∀x I,cb.qM i H x I->g x σ I λc8 ay=>cy {D with cp:=N,eX:=N,b3:=D.cp} c8 ay)
noncomputable def TD(bQ:List Addr)(h:Heap):List (Addr×Obj):=bQ.filterMap λb=>(h.get? b).map λo=>(p'p b o)
def Fo{h:Heap}(ae:b∈bQ)(e:h.get? b\o):(p'p b o)∈TD bQ h:=aqL.mpr (b,ae,by rw[e];rfl)
theorem abP{h:Heap}{p:Addr×Obj}(aq:p∈TD bQ h):p.1∈bQ/\h.get? p.1\p.2:=by
 let(b,ae,e):=aqL.mp aq;cases q:h.get? b with
 |none=>rw[q]at e;cases e
 |some o=>
  rw[q]at e;have bZ:(p'p b o)=p:=d6 e;subst bZ;exact(ae,q)
def Inv.pinned(J:Inv X ab σ H s)(hf:∀b∈bQ,h2 X ab H b)(aW:∀b∈bQ,∃o,s.heap.get? b\o/\∀v,o.data≠.cell v):Inv X (ab++TD bQ s.heap) σ H s:=
 J.Ac λp aq=>(il.mp aq).elim (λz=>J.pin p (p6 _ z)) λz=>by
  let(ae,e):=abP z;let(f0,f1,f2,_):=hf p.1 ae;let(o,bZ,d):=aW p.1 ae;rw[e]at bZ;cases bZ;exact(e,f0,f1,f2,d)
def Inv.B7(J:Inv X (ab++pl) σ H s):Inv X ab σ H s:=J.Ac λp aq=>J.pin p (p6 _ (Uo _ aq))
theorem eF(aq:PassesOwn (model X.prog X.w) X.A X.env X.df)(ah:X.calm=true)(ao:l9 X cZ iter d3)(a0:nr X cZ g)(ae:g9 X body cy)
  (aB:∀x,foldedSetIterable iter X.env x=pure x:=by intro _;rfl):gv X (.For cZ iter body [] pos) (OO d3 g cy):=by
 intro ab s σ H D J h;refine wpAny_For (bG (ao ab s σ H _ J h) λv s1 af=>bG af λEO s2 aj=>?_) aB;let(it,bQ,fT,cb,ay,e,bK,T,rG,f2,W,(m0,l_),turn):=aj;subst e;have stat:∀{I:ar},(∀b∈bQ,I b=none)->∀b∈bQ,h2 X ab I b:=λaL b ae=>(aL b ae,(f2 b ae).2)
 refine codeAny_forLoop_any (λn s'=>∃i aT I,Inv X ab aT I s'/\fT i s'.heap/\(∀b∈bQ,I b=none)/\W i n aT I) ?_ m0 (0,σ,ay,bK,rG,λb ae=>(f2 b ae).1,l_);intro n s3 (i,iO,bq,eA,Xr,PS,g6);rcases turn i n iO bq g6 with⟨stop,wJ⟩|⟨go,N,bc,step⟩
 .refine wpAny_passesOwn aq (bG (T.done X rfl rfl rfl ah i ab s3 iO bq X.df eA (stat PS) Xr stop) λr s4 ck=>?_);let(au,jT):=ck;subst au;exact wpAny_execs_nil (iO,bq,jT,wJ)
 .refine wpAny_passesOwn aq (bG (T.item X rfl rfl rfl ah i ab s3 iO bq X.df eA (stat PS) Xr go) λr s4 ck=>?_);let(u,au,b'):=ck;subst au;refine wpAny_passesOwn aq (bG b' λ_ s5 ck=>?_);let(x,cQ,y8,IH,J8,sF,MX):=ck;have Ln:=y8.pinned (stat MX) (T.obj _ _ sF);refine wpAny_passesOwn aq (bG (a0 _ s5 iO cQ x u _ Ln IH (step x cQ J8)) λ_ jr ck=>?_);let(nd,eQ,mV,L4):=ck;refine wpAny_passesOwn aq (bG (ae _ jr nd eQ _ mV L4) λf ma n6=>?_);have again:∀{k0:St} {hN:ar},Inv X (ab++TD bQ s5.heap) k0 hN ma->N k0 hN->∃m,m<n/\∃i aT I,Inv X ab aT I ma/\fT i ma.heap/\(∀b∈bQ,I b=none)/\W i m aT I:=λ{k0 hN} ku p'=>by
   let(dV,hm,KG):=bc k0 hN p';refine(dV,hm,i+1,k0,hN,ku.B7,T.keep _ _ _ sF λb ae o e=>(ku.pin (p'p b o) (p6 _ (p6 _ (Fo ae e)))).1,λb ae=>?_,KG);let(o,e,d):=T.obj _ _ sF b ae;exact(ku.pin (p'p b o) (p6 _ (p6 _ (Fo ae e)))).2.1
  cases f with
  |next=>let(k0,hN,ku,p'):=n6;exact again ku p'
  |cont=>let(k0,hN,ku,p'):=n6;exact again ku p'
  |brk=>let(k0,hN,ku,n6):=n6;exact(k0,hN,ku.B7,n6)
  |ret v=>let(dw,k0,hN,ku,afi,n6):=n6;exact(dw,k0,hN,ku.B7,afi,n6)
end
def acw{K:a'}{a:Addr}{xs:List V}{g:gr}{cy:ea}{D:g4}{σ:St}{H:ar}(Pv:Nat->St->ar->Prop)(h0:Pv 0 σ H)(aw:∀i σ H,i<=↑xs->Pv i σ H->aH K H a xs)
  (aB:∀i x σ H,xs[i]?\x->Pv i σ H->g x σ H λc8 ay=>cy {D with cp:=Pv (i+1),eX:=Pv (i+1),b3:=D.cp} c8 ay) (hd:∀σ H,Pv ↑xs σ H->D.cp σ H) :
  ∃W:Nat->Nat->St->ar->Prop,(∃m,W 0 m σ H)/\∀i m σ H,W i m σ H ->
   ((oX K a).stop i H/\D.cp σ H)\/((oX K a).go i H/\∃N:St->ar->Prop,(∀aT I,N aT I->∃dV,dV<m/\W (i+1) dV aT I)/\∀x I,(oX K a).qM i H x I->g x σ I λc8 ay=>cy {D with cp:=N,eX:=N,b3:=D.cp} c8 ay):=by
 refine(λi m σ H=>m=↑xs-i/\i<=↑xs/\Pv i σ H,(↑xs,by simp,gx _,h0),?_);intro i m σ H (rfl,ao,p);have q:=aw i σ H ao p;by_cases cD:i<↑xs
 .refine .inr ((xs,xs[i],q,by simp[cD]),Pv (i+1),λaT I sz=>(↑xs-(i+1),(),rfl,cD,sz),λx I y=>?_);let(e,y):=y;subst e;exact aB i x σ _ (y xs q) p
 .have e:i=↑xs:=()
  subst e;exact .inl ((xs,q,b0 _),hd σ H p)
def akN{lo:Int}{n:Nat}{g:gr}{cy:ea}{D:g4}{σ:St}{H:ar}(Pv:Nat->St->ar->Prop)(h0:Pv 0 σ H)
  (aB:∀i σ H,i<n->Pv i σ H->g (.int (lo+i)) σ H λc8 ay=>cy {D with cp:=Pv (i+1),eX:=Pv (i+1),b3:=D.cp} c8 ay) (hd:∀σ H,Pv n σ H->D.cp σ H) :
  ∃W:Nat->Nat->St->ar->Prop,(∃m,W 0 m σ H)/\∀i m σ H,W i m σ H ->
   ((kY lo n).stop i H/\D.cp σ H)\/((kY lo n).go i H/\∃N:St->ar->Prop,(∀aT I,N aT I->∃dV,dV<m/\W (i+1) dV aT I)/\∀x I,(kY lo n).qM i H x I->g x σ I λc8 ay=>cy {D with cp:=N,eX:=N,b3:=D.cp} c8 ay):=by
 refine(λi m σ H=>m=n-i/\i<=n/\Pv i σ H,(n,by simp,gx _,h0),?_);intro i m σ H (rfl,ao,p);by_cases cD:i<n
 .refine .inr (cD,Pv (i+1),λaT I sz=>(n-(i+1),(),rfl,cD,sz),λx I y=>?_);let(e,y):=y;subst e y;exact aB i σ _ cD p
 .have e:i=n:=()
  subst e;exact .inl (b0 _,hd σ H p)
abbrev e9:=V->V->ar->cz->Prop
def gV(X:a6)(f:Value->Value->Sem Value)(r:e9):Prop:=
 ∀(ab:List (Addr×Obj)) (s:Shared) (σ:St) (H:ar) (x y:V) (v u:Value) (Q:cz),Inv X ab σ H s->bN x v->bN y u->r x y H Q ->
  wpAny (model X.prog X.w) X.A (f v u) (gX X ab σ Q) X.df s
def Gq(X:a6)(f:Value->Sem Value)(r:V->ar->cz->Prop):Prop:=
 ∀(ab:List (Addr×Obj)) (s:Shared) (σ:St) (H:ar) (x:V) (v:Value) (Q:cz),Inv X ab σ H s->bN x v->r x H Q ->
  wpAny (model X.prog X.w) X.A (f v) (gX X ab σ Q) X.df s
def lh(X:a6)(f:Value)(r:List V->ar->cz->Prop):Prop:=
 ∀(ab:List (Addr×Obj)) (s:Shared) (σ:St) (H:ar) (xs:List V) (us:List Value) (Q:cz),Inv X ab σ H s->bW xs us->r xs H Q ->
  wpAny (model X.prog X.w) X.A (call f us) (gX X ab σ Q) X.df s
def aqW(X:a6)(r:V->ar->(Bool->ar->Prop)->Prop):Prop:=
 ∀(ab:List (Addr×Obj)) (s:Shared) (σ:St) (H:ar) (x:V) (v:Value) (Q:Bool->ar->Prop),Inv X ab σ H s->bN x v->r x H Q ->
  wpAny (model X.prog X.w) X.A (truthy v) (Dt X ab σ Q) X.df s
def sJ(r:e9)(a4 cy:TE):TE:=λσ H Q=>a4 σ H λx H1=>cy σ H1 λy ay=>r x y ay Q
def LF(r:V->ar->cz->Prop)(a4:TE):TE:=λσ H Q=>a4 σ H λx H1=>r x H1 Q
def sY(C:Int->Int->Prop)(g:Int->Int->V):e9:=λx y H Q=>gg x λi=>gg y λj=>C i j/\Q (g i j) H
def pT(g:Int->Int->V):e9:=λx y H Q=>gg x λi=>gg y λj=>Q (g i j) H
def BY(g:Int->V):V->ar->cz->Prop:=λx H Q=>gg x λi=>Q (g i) H
section
variable{X:a6}{a b c:Expr}{a4 cy de:TE}{pos:Pos}
def LL(aJ:bw X a a4)(ae:bw X b cy){ab:List (Addr×Obj)}{s:Shared}{σ:St}{H:ar}{R:V->V->ar->Prop}(J:Inv X ab σ H s)
  (h:a4 σ H λx H1=>cy σ H1 λy ay=>R x y ay) {Q:Value->Shared->Prop} {f:Value->Value->Sem Value}
  (hf:∀v u s2 x y ay,Inv X ab σ ay s2->bN x v->bN y u->R x y ay->wpAny (model X.prog X.w) X.A (f v u) Q X.df s2) :
  wpAny (model X.prog X.w) X.A (eval a X.env) (λv dj=>wpAny (model X.prog X.w) X.A (eval b X.env) (λu d1=>wpAny (model X.prog X.w) X.A (f v u) Q X.df d1) X.df dj) X.df s:=by
 refine bG (aJ ab s σ H _ J h) λv s1 cm=>eo cm λx H1 aU bX bM=>?_
 refine bG (ae ab s1 σ H1 _ aU bM) λu s2 cm=>eo cm λy ay bK c4 cP=>?_
 exact hf v u s2 x y ay bK bX c4 cP
def bk{op:Operator}{r:e9}(aW:gV X (binaryOp op) r)(aJ:bw X a a4)(ae:bw X b cy):bw X (.BinOp a op b pos) (sJ r a4 cy):=by
 intro ab s σ H Q J h;exact wpAny_BinOp (LL aJ ae J h λv u s2 x y ay bK bh bu q=>aW ab s2 σ ay x y v u Q bK bh bu q)
def Rh(aW:Gq X (unaryOp op) r)(aJ:bw X a a4):bw X (.UnaryOp op a pos) (LF r a4):=by
 intro ab s σ H Q J h;exact UnaryOp_ (bG (aJ ab s σ H _ J h) λv s1 cm=>eo cm λx H1 aU bX bM=>aW ab s1 σ H1 x v Q aU bX bM)
def Cf{f:Value->Value->Sem Value}{C:Int->Int->Prop}{g:Int->Int->Int}
  (rule:∀(i j:Int) (t u:Tok) (s:Shared) (Q:Value->Shared->Prop) (E:Value->Shared->Prop),C i j->Q (.int (g i j) s.toks) {s with toks:=s.toks+1}->wpAny (model X.prog X.w) X.A (f (.int i t) (.int j u)) Q E s) :
  gV X f (sY C λi j=>.int (g i j)):=by
 intro ab s σ H x y v u Q J bh bu h;let(i,rfl,hK):=gg.out h;let(j,rfl,ah,q):=gg.out hK;let(t,rfl):=bh;let(t',rfl):=bu;exact rule i j t t' s _ _ ah (.int (g i j),H,J.tok _,(_,rfl),q)
def Zp{f:Value->Value->Sem Value}{g:Int->Int->Int}
  (rule:∀(i j:Int) (t u:Tok) (s:Shared) (Q:Value->Shared->Prop) (E:Value->Shared->Prop),Q (.int (g i j) s.toks) {s with toks:=s.toks+1}->wpAny (model X.prog X.w) X.A (f (.int i t) (.int j u)) Q E s) :
  gV X f (pT λi j=>.int (g i j)):=by
 intro ab s σ H x y v u Q J bh bu h;let(i,rfl,hK):=gg.out h;let(j,rfl,q):=gg.out hK;let(t,rfl):=bh;let(t',rfl):=bu;exact rule i j t t' s _ _ (.int (g i j),H,J.tok _,(_,rfl),q)
def Ja{f:Value->Value->Sem Value}{g:Int->Int->Bool}
  (rule:∀(i j:Int) (t u:Tok) (s:Shared) (Q:Value->Shared->Prop) (E:Value->Shared->Prop),Q (.bool (g i j)) s->wpAny (model X.prog X.w) X.A (f (.int i t) (.int j u)) Q E s) :
  gV X f (pT λi j=>.bE (g i j)):=by
 intro ab s σ H x y v u Q J bh bu h;let(i,rfl,hK):=gg.out h;let(j,rfl,q):=gg.out hK;let(t,rfl):=bh;let(t',rfl):=bu;exact rule i j t t' s _ _ (.bE (g i j),H,J,rfl,q)
def am7(i j:Int):Prop:=0<j/\j<1073741824
def aap(i j:Int):Prop:=0<=j/\j<=1000000/\i.natAbs<2 ^ 64
def oP(i j:Int):Prop:=(-(2 ^ 64)<i/\i<2 ^ 64)\/(-(2 ^ 64)<j/\j<2 ^ 64)
def oP.ok(h:oP i j):IntMulOk i j:=by
 rcases h with⟨af,aj⟩|⟨af,aj⟩
 .exact .of_left (intBits_le_64 af aj)
 .exact .of_right (intBits_le_64 af aj)
def dd:gV X (binaryOp .Add) (pT λi j=>.int (i+j)):=Zp λ_ _ _ _ _ _ _ q=>add_int q
def ih:gV X (binaryOp .Sub) (pT λi j=>.int (i-j)):=Zp λ_ _ _ _ _ _ _ q=>sub_int q
def s8:gV X (binaryOp .Mult) (sY oP λi j=>.int (i*j)):=Cf λ_ _ _ _ _ _ _ ah q=>mul_int q ah.ok
def agl:gV X (binaryOp .FloorDiv) (sY am7 λi j=>.int (i / j)):=Cf λi j _ _ _ _ _ ah q=>by
 have af:(0:Int)<j:=ah.1;have aj:j<1073741824:=ah.2;exact floordiv_int () (by rw[Int.fdiv_eq_ediv_of_nonneg i ()];exact q) (.inl (ana ()))
def iu:gV X (binaryOp .Mod) (sY (λ_ j=>0<j) λi j=>.int (i%j)):=Cf λi j _ _ _ _ _ ah q=>by
 have af:(0:Int)<j:=ah;exact mod_int' () (by rw[Int.fmod_eq_emod_of_nonneg i ()];exact q)
def ZC:gV X (binaryOp .Pow) (sY aap λi j=>.int (i ^ j.toNat)):=Cf λ_ _ _ _ _ _ _ ah q=>pow_int_small ah.1 ah.2.1 ah.2.2 q
def abr{f:Value->Sem Value}{g:Int->Int}
  (rule:∀(i:Int) (t:Tok) (s:Shared) (Q:Value->Shared->Prop) (E:Value->Shared->Prop),Q (.int (g i) s.toks) {s with toks:=s.toks+1}->wpAny (model X.prog X.w) X.A (f (.int i t)) Q E s) :
  Gq X f (BY λi=>.int (g i)):=by
 intro ab s σ H x v Q J bh h;let(i,rfl,q):=gg.out h;let(t,rfl):=bh;exact rule i t s _ _ (.int (g i),H,J.tok _,(_,rfl),q)
def RI:Gq X (unaryOp .USub) (BY λi=>.int (-i)):=abr λ_ _ _ _ _ q=>neg_int q
end
noncomputable def H3:V->V->Bool
 | .b4,.b4=>true|.b4,.int _=>true|.int _,.b4=>true|.b4,.bE _=>true|.bE _,.b4=>true|.b4,.str _=>true|.str _,.b4=>true
 | .int _,.int _=>true|.bE _,.bE _=>true|.str _,.str _=>true|.kL _,.kL _=>true
 | .int _,.str _=>true|.str _,.int _=>true|.bE _,.str _=>true|.str _,.bE _=>true
 |_,_=>false
def FC:e9:=λx y H Q=>H3 x y=true/\Q (.bE (decide (x=y))) H
def J_:e9:=λx y H Q=>H3 x y=true/\Q (.bE (!decide (x=y))) H
def NY:decide (V.int i=V.int j)=(i==j):=by
 rw[mQ];simp
def Qm:decide (V.bE i=V.bE j)=(i==j):=by
 rw[mQ];simp
def Zl:decide (V.str i=V.str j)=(i==j):=by
 rw[mQ];simp
def Un:decide (V.kL i=V.kL j)=(i.toList==j.toList):=by
 rw[mQ];cases i;cases j;simp
section
variable{X:a6}{a b c:Expr}{a4 cy de:TE}{pos:Pos}
def fl{k jb:Bool}(J:Inv X ab σ H s)(q:Q (.bE k) H)(e:k=jb):gX X ab σ Q (.bool jb) s:=by
 subst e;exact(.bE k,H,J,rfl,q)
theorem eZ:gV X (compareOp .Eq) FC:=by
 intro ab s σ H x y v u Q J bh bu h;let(aB,q):=h;cases x with
 |b4=>
  cases bh;cases y with
  |b4=>cases bu;exact arx (fl J q (by simp))
  |bE j=>cases bu;exact arv (fl J q (by simp))
  |int j=>let(t',rfl):=bu;exact asu (fl J q (by simp))
  |str j=>let(t',rfl):=bu;exact ar1 (fl J q (by simp))
  |_=>exact absurd (show false=true from aB) gZ
 |bE i=>
  cases bh;cases y with
  |b4=>cases bu;exact asA (fl J q (by simp))
  |bE j=>cases bu;exact eq_bool (fl J q Qm)
  |str j=>let(t',rfl):=bu;exact asW (fl J q (by simp))
  |_=>exact absurd (show false=true from aB) gZ
 |int i=>
  let(t,rfl):=bh;cases y with
  |b4=>cases bu;exact arN (fl J q (by simp))
  |int j=>let(t',rfl):=bu;exact eq_int (fl J q NY)
  |str j=>let(t',rfl):=bu;exact asY (fl J q (by simp))
  |_=>exact absurd (show false=true from aB) gZ
 |str i=>
  let(t,rfl):=bh;cases y with
  |b4=>cases bu;exact atk (fl J q (by simp))
  |bE j=>cases bu;exact arZ (fl J q (by simp))
  |int j=>let(t',rfl):=bu;exact asn (fl J q (by simp))
  |str j=>let(t',rfl):=bu;exact eq_str (fl J q Zl)
  |_=>exact absurd (show false=true from aB) gZ
 |kL i=>
  let(t,rfl):=bh;cases y with
  |kL j=>let(t',rfl):=bu;exact PySem.W.eq_bytes (fl J q Un)
  |_=>exact absurd (show false=true from aB) gZ
 |_=>cases y <;> exact absurd (show false=true from aB) gZ
theorem js:gV X (compareOp .NotEq) J_:=by
 intro ab s σ H x y v u Q J bh bu h;let(aB,q):=h;cases x with
 |b4=>
  cases bh;cases y with
  |b4=>cases bu;exact as1 (fl J q (by simp))
  |bE j=>cases bu;exact asO (fl J q (by simp))
  |int j=>let(t',rfl):=bu;exact ars (fl J q (by simp))
  |str j=>let(t',rfl):=bu;exact ard (fl J q (by simp))
  |_=>exact absurd (show false=true from aB) gZ
 |bE i=>
  cases bh;cases y with
  |b4=>cases bu;exact atj (fl J q (by simp))
  |bE j=>cases bu;exact ne_bool (fl J q (congrArg not Qm))
  |str j=>let(t',rfl):=bu;exact asJ (fl J q (by simp))
  |_=>exact absurd (show false=true from aB) gZ
 |int i=>
  let(t,rfl):=bh;cases y with
  |b4=>cases bu;exact arh (fl J q (by simp))
  |int j=>let(t',rfl):=bu;exact ne_int (fl J q (congrArg not NY))
  |str j=>let(t',rfl):=bu;exact ar_ (fl J q (by simp))
  |_=>exact absurd (show false=true from aB) gZ
 |str i=>
  let(t,rfl):=bh;cases y with
  |b4=>cases bu;exact aq' (fl J q (by simp))
  |bE j=>cases bu;exact arA (fl J q (by simp))
  |int j=>let(t',rfl):=bu;exact asa (fl J q (by simp))
  |str j=>let(t',rfl):=bu;exact ne_str (fl J q (congrArg not Zl))
  |_=>exact absurd (show false=true from aB) gZ
 |kL i=>
  let(t,rfl):=bh;cases y with
  |kL j=>let(t',rfl):=bu;exact PySem.W.ne_bytes (fl J q (congrArg not Un))
  |_=>exact absurd (show false=true from aB) gZ
 |_=>cases y <;> exact absurd (show false=true from aB) gZ
def qv:gV X (compareOp .Lt) (pT λi j=>.bE (decide (i<j))):=Ja λ_ _ _ _ _ _ _ q=>lt_int q
def aeV:gV X (compareOp .LtE) (pT λi j=>.bE (decide (i<=j))):=Ja λ_ _ _ _ _ _ _ q=>le_int q
def qb:gV X (compareOp .Gt) (pT λi j=>.bE (decide (j<i))):=Ja λ_ _ _ _ _ _ _ q=>gt_int q
def apC:gV X (compareOp .In) (λx y H Q=>∃i j,x=.str i/\y=.str j/\Q (.bE (!(m' j i 0 ↑j 1).isEmpty)) H):=by
 intro ab s σ H x y v u Q J bh bu h;let(i,j,rfl,rfl,q):=h;let(t,rfl):=bh;let(t',rfl):=bu;exact in_str (fl J q rfl)
theorem X2:gV X (compareOp .IsNot) (λx y H Q=>y=.b4/\Q (.bE (!decide (x=.b4))) H):=by
 intro ab s σ H x y v u Q J bh bu h;let(rfl,q):=h;cases bu;refine isnot_none_gen (fl J q ?_);cases x <;> first
  |(cases bh;rfl)
  |(let(t,rfl):=bh;rfl)
def ct(b:Expr)(h:op≠.In:=by decide)(aj:op≠.NotIn:=by decide):behindInMarks op b=false:=by
 have az:(op==CmpOp.In)=false:=by cases op <;> first|rfl|exact absurd rfl h
 have aE:(op==ahQ)=false:=by cases op <;> first|rfl|exact absurd rfl aj
 cases b <;> simp[behindInMarks,az,aE]
def h9(aW:gV X (compareOp op) r)(aJ:bw X a a4)(ae:bw X b cy)(hm:behindInMarks op b=false):bw X (.Compare a [op] [b] pos) (sJ r a4 cy):=by
 intro ab s σ H Q J h;exact wpAny_Compare1 (LL aJ ae J h λv u s2 x y ay bK bh bu q=>aW ab s2 σ ay x y v u Q bK bh bu q) hm
def Me(t:TE):TT:=λσ H Q=>t σ H λx I=>kP x λk=>Q k I
def cS(aW:gV X (compareOp op) r)(aJ:bw X a a4)(ae:bw X b cy)(hm:behindInMarks op b=false):h6 X (.Compare a [op] [b] pos) (Me (sJ r a4 cy)):=by
 intro ab s σ H Q J h;refine wpAny_isTrue_Compare1 (bG (aJ ab s σ H _ J h) λv s1 cm=>eo cm λx H1 aU bX bM=>bG (ae ab s1 σ H1 _ aU bM) λu s2 ⟨y,ay,bK,c4,cP⟩=>
  bG (aW ab s2 σ ay x y v u _ bK bX c4 cP) λc s3 cm=>eo cm λz bq eA kc hk=>?_) hm
 let(k,e,eC):=kP.out hk;subst e;cases kc;exact wpAny_truthy_bool (bq,eA,eC)
def O5(K:a')(x:V)(H:ar)(k:Bool):Prop:=
 match x with
 | .b4=>k=false
 | .bE b=>k=b
 | .int i=>k=(i != 0)
 | .str y=>↑y<=sizeLine/\k=((↑y:Int) != 0)
 | .kL y=>y.size<=sizeLine/\k=((y.size:Int) != 0)
 | .ref p=>(∃xs,aH K H p xs/\k = !xs.isEmpty)\/(∃xs,b1 K H p xs/\k = !xs.isEmpty)\/∃kvs,H p\(.bL kvs)/\k = !kvs.isEmpty
 |_=>False
def aqw(r:e1 kvs vs):(!vs.isEmpty) = !kvs.isEmpty:=by
 cases r <;> rfl
def S2{a5:List Value}(r:bW xs a5):(!a5.toArray.isEmpty) = !xs.isEmpty:=by
 cases r <;> simp
def sH:(sizeLine:Nat)<2 ^ 63:=by rw[sizeLine_eq];decide
theorem aar:aqW X (λx H Q=>∃k,O5 X.K x H k/\Q k H):=by
 intro ab s σ H x v Q J bh h;let(k,e,q):=h;have aw:=sH;have aB:sizeLine=16777216:=sizeLine_eq;cases x with
 |b4=>
  cases bh;have bZ:k=false:=e;subst bZ;exact truthy_none (H,J,q)
 |bE b=>
  cases bh;have bZ:k=b:=e;subst bZ;exact wpAny_truthy_bool (H,J,q)
 |int i=>
  let(t,rfl):=bh;have bZ:k=(i != 0):=e;subst bZ;exact PySem.P.truthy_int (H,J,q)
 |str y=>
  let(t,rfl):=bh;let(bg,bZ):↑y<=sizeLine/\k=((↑y:Int) != 0):=e;subst bZ;exact PySem.P.truthy_str () (H,J.tok _,q)
 |kL y=>
  let(t,rfl):=bh;let(bg,bZ):y.size<=sizeLine/\k=((y.size:Int) != 0):=e;subst bZ;exact PySem.W.truthy_bytes () (H,J.tok _,q)
 |ref p=>
  cases bh;have bZ:(∃xs,aH X.K H p xs/\k = !xs.isEmpty)\/(∃xs,b1 X.K H p xs/\k = !xs.isEmpty)\/∃kvs,H p\(.bL kvs)/\k = !kvs.isEmpty:=e;rcases bZ with⟨xs,ai,bZ⟩|⟨xs,ai,bZ⟩|⟨kvs,ai,bZ⟩
  .subst bZ;let(a5,r,pl,ax):=J.list ai;have hlen:=↑r;exact wpAny_truthy_list pl.isList (by simp only[d2];omega) (H,J.tok _,by rw[S2 r];exact q)
  .subst bZ;let(a5,r,pl,ax):=J.tuple ai;have hlen:=↑r;exact truthy_tuple pl (by simp only[d2];omega) (H,J.tok _,by rw[S2 r];exact q)
  .subst bZ;let(ax,e6,vs,r,m):↑kvs<=sizeLine/\(p==sysModules)=false/\∃vs,e1 kvs vs/\s.heap.DictOf (hh X.prog X.w) p vs:=J.bf p _ ai;have hlen:↑kvs=↑vs:=GF r;exact wpAny_truthy_dict e6 m () (H,J.tok _,by rw[aqw r];exact q)
 |_=>exact(show False from e).elim
def Fv(aJ:bw X a a4)(he:∀whole,isTrue a X.env whole=(do let v <- whole;standAt a.pos;holding [v] (truthy v))) :
  h6 X a (λσ H Q=>a4 σ H λx I=>∃k,O5 X.K x I k/\Q k I):=by
 intro ab s σ H Q J h;exact isTrue_plain (bG (aJ ab s σ H _ J h) λv s1 cm=>eo cm λx H1 aU bX bM=>aar ab s1 σ H1 x v Q aU bX bM) (he _)
def fv:gV X (binaryOp .Add) (λx y H Q=>∃i j,x=.str i/\y=.str j/\↑i+↑j<=sizeLine/\Q (.str (i++j)) H):=by
 intro ab s σ H x y v u Q J bh bu h;let(i,j,rfl,rfl,ax,q):=h;let(t,rfl):=bh;let(t',rfl):=bu;exact add_str (λt' cB=>(.str (i++j),H,J.tok _,(_,rfl),q)) ax
theorem k1{x:V}(r:bW [x] us):∃u,us=[u]/\bN x u:=by
 cases r with
 |cons bX c4=>cases c4;exact(_,rfl,bX)
theorem XL{x y:V}(r:bW [x,y] us):∃u fQ,us=[u,fQ]/\bN x u/\bN y fQ:=by
 cases r with
 |cons bX c4=>
  cases c4 with
  |cons kc yJ=>cases yJ;exact(_,_,rfl,bX,kc)
def JP(ah:X.calm=true):lh X (.builtin "max") (λxs H Q=>∃i j,xs=[.int i,.int j]/\Q (.int (if j>i then j else i)) H):=by
 intro ab s σ H xs us Q J r h;let(i,j,rfl,q):=h;let(u,fQ,rfl,(t,rfl),(t',rfl)):=XL r;refine max_two_ints (J.ok.hd ah) λh' cB k=>(_,H,J.kept k,?_,q)
 by_cases aZ:j>i
 .rw [if_pos aZ,if_pos aZ];exact(_,rfl)
 .rw [if_neg aZ,if_neg aZ];exact(_,rfl)
def ak3(ah:X.calm=true):lh X (.builtin "min") (λxs H Q=>∃i j,xs=[.int i,.int j]/\Q (.int (if j<i then j else i)) H):=by
 intro ab s σ H xs us Q J r h;let(i,j,rfl,q):=h;let(u,fQ,rfl,(t,rfl),(t',rfl)):=XL r;refine min_two_ints (J.ok.hd ah) λh' cB k=>(_,H,J.kept k,?_,q)
 by_cases aZ:j<i
 .rw [if_pos aZ,if_pos aZ];exact(_,rfl)
 .rw [if_neg aZ,if_neg aZ];exact(_,rfl)
def lR:lh X (.type "str") (λxs H Q=>∃i,xs=[.int i]/\i.natAbs.log2<1920/\Q (.str (toString i)) H):=by
 intro ab s σ H xs us Q J r h;let(i,rfl,ax,q):=h;let(u,rfl,t,rfl):=k1 r;exact PySem.P.str_of_int ax (.str _,H,J.tok _,(_,rfl),q)
end
structure sU(h:Heap)(x ak C:Addr)(dQ:Str->Option Value):Prop where
 obj:h.get? x\(uf C ak)
 ns:h.Ns1 ak dQ
 ne:ak≠x
set_option tactic.hygienic true in
def Kn{h:Heap}(n:h.Ns1 ak dQ):∃od,h.get? ak\od/\∀name,Hx name od\(dQ name):=by
 let(o,aK,ep,aW,hd,aI,_,hm):=n;refine(o,aW,λname=>?_);have e:=hm name;unfold nsFind findBy at e;rw[<- Z0]at e;unfold Hx;rw[hd];dsimp only;split
 .rename_i y q;rw[q]at e;exact congrArg some e
 .rename_i q;rw[q]at e;have a:aK.toList.any (·.refKey)=false:=by
   rw[LD];intro y bg;let(z,t,Hg):=aI y (ajB.mp bg);simp[DictEntry.refKey,Hg]
  have mE:¬aK.toList.any (·.refKey)=true:=by rw[a];exact gZ
  rw[if_neg mE];exact congrArg some e
def sU.look{h:Heap}{x ak C:Addr}(J:sU h x ak C dQ):∃od,wc h x (uf C ak) C (some od)/\∀name,Hx name od\(dQ name):=
 let⟨od,aW,aw⟩:=Kn J.ns
 (od,(J.obj,rfl,rfl,aW),aw)
section
variable{prog:Program}{w:World}{A:Around}{E:Value->Shared->Prop}{s:Shared}{K:a'}{x ak C f:Addr}{dQ:Str->Option Value}{name:Str}{v:Value}
def aix(X:K.In s.heap)(J:sU s.heap x ak C dQ)(a0:MH K C name=true)(cG:EB K C=true)
  (aJ:dM K ⇑C name\none) (aM:dQ name\v) (tQ:aaI v=true) (h:Q v {s with toks:=s.toks+1}) :
  wpAny (model prog w) A (getAttr ⇑x name expr) Q E s:=by
 let(od,cb,aw):=J.look;exact PySem.W.get_value X cb (V4 a0).1 (PySem.W.findObj_own cG aJ rfl (by rw[aw,aM])) tQ h
def ap_(X:K.In s.heap)(J:sU s.heap x ak C dQ)(a0:MH K C name=true)
  (hf:dM K ⇑C name\(some ⇑f)) (cV:L7 K ⇑f=true) (aM:dQ name=none) (h:Q (p'p (⇑f) [⇑x]) s) :
  wpAny (model prog w) A (getMethod ⇑x name pl) Q E s:=by
 let(od,cb,aw):=J.look;exact PySem.W.method_fn X cb (V4 a0).1 (V4 a0).2 hf (beq_iff_eq.mp cV) (by show(Hx name od).map (·.isSome)\false;rw[aw,aM];rfl) h
def ahb{ns:List Str}(X:K.In s.heap)(J:sU s.heap x ak C dQ)
  (aB:dM K ⇑C "__setattr__"\(some (.builtin "object.__setattr__"))) (aq:apx K C=true) (cV:Sw K C name\none) (cG:EB K C=true)
  (hw:Dc dQ ns) (hsz:↑ns<=sizeLine)
  (h:∀h',sU h' x ak C (λy=>if y=name then some v else dQ y)->wu ak s.heap h'->Q ⟨⟩ {s with heap:=h',toks:=s.toks+2}) :
  wpAny (model prog w) A (setAttr ⇑x name v) Q E s:=by
 let(od,cb,aw):=J.look;refine QM X cb aB (PySem.W.osa_open (s:={s with toks:=s.toks+1}) (r:=none) X cb aq cV λb=>?_);let(cd,ah,m7):=tX cG;have ai:s.heap.get? x\(⇑C,some ak,.plain,#[]):=J.obj;refine wpAny_bind (wpAny_pure (wpAny_bind (wpAny_bind (wpAny_loadPart ai (wpAny_bind (RU (s:={s with toks:=s.toks+1}) (MG X ah) ?_))))));rw[m7];refine wpAny_pure (a:=some ak) (wpAny_bind (wpAny_pure (wpAny_bind ?_)));refine wpAny_nsSet1 (s:={s with toks:=s.toks+1}) J.ns λh' q1 fH=>?_
 let(YJ,Tz,Qp,vF,xG,lB):=q1.count (Y3 name v hw);refine wpAny_bind (wpAny_lookBehind vF (by rw[xG];exact pastItsLine_dict (cH lB (by rw[gw];omega))) ?_);exact wpAny_pure (h _ ((fH.2 _ (dB J.ne)).trans J.obj,q1,J.ne) fH)
def ans(X:K.In s.heap)(hm:ai4 K C=true)
  (ao:dM K ⇑C "__init__"\(some ⇑f)) (hf:QK K ⇑f\(.type "function"))
  (h:codeAny (model prog w) (A.under (.builtin "type.__call__" (⇑C::vs,kw))) (.call ⇑f (⇑(↥s+1)::vs,kw)) (aqC (↥s+1) R)
   {s with heap:=(s.heap.push ka).push (uf C ↥s)}) :
  codeAny (model prog w) A (.call ⇑C (vs,kw)) R s:=by
 let(cG,g,d,t,os):=s;exact PySem.W.make_core (PySem.W.makes_of X hm) (FG X ao) (λself=>ah9 X self hf) (.inl rfl) h
end
noncomputable def dz(f:Str)(v:V):List (Str×V)->List (Str×V)
 |[]=>[(p'p f v)]
 |(g,x)::r=>if g=f then(p'p g v)::r else(p'p g x)::dz f v r
theorem Nd(f g:Str)(v:V):∀aR:List (Str×V),(dz f v aR).lookup g=if g=f then some v else aR.lookup g
 |[]=>by
  show mA g [(p'p f v)]=_;by_cases h:g=f
  .have ae:(g==f)=true:=beq_iff_eq.mpr h;simp only[mA,ae,if_pos h]
  .have ae:(g==f)=false:=beq_eq_false_iff_ne.mpr h;simp only[mA,ae,if_neg h]
 | (k,x)::r=>by
  have b9:=Nd f g v r;rw[show dz f v ((p'p k x)::r)=(if k=f then(p'p k v)::r else(p'p k x)::dz f v r)from rfl];by_cases aI:k=f
  .rw[if_pos aI];by_cases h:g=k
   .have ae:(g==k)=true:=beq_iff_eq.mpr h;simp only[mA,ae,if_pos (h.trans aI)]
   .have ae:(g==k)=false:=beq_eq_false_iff_ne.mpr h;simp only[mA,ae,if_neg (λe:g=f=>h (e.trans aI.symm))]
  .rw[if_neg aI];by_cases h:g=k
   .have ae:(g==k)=true:=beq_iff_eq.mpr h;simp only[mA,ae,if_neg (λe:g=f=>aI (h.symm.trans e))]
   .have ae:(g==k)=false:=beq_eq_false_iff_ne.mpr h;simp only[mA,ae];exact b9
theorem xp(f:Str)(v:V):∀aR:List (Str×V),f∈(dz f v aR).map (·.1)/\∀g,g∈aR.map (·.1)->g∈(dz f v aR).map (·.1)
 |[]=>(by simp[dz],λg h=>by simp at h)
 | (k,x)::r=>by
  let(uk,yA):=xp f v r;rw[show dz f v ((p'p k x)::r)=(if k=f then(p'p k v)::r else(p'p k x)::dz f v r)from rfl];by_cases aI:k=f
  .rw [if_pos aI];subst aI;exact(by simp,λg h=>by simpa using h)
  .rw[if_neg aI];refine(?_,λg h=>?_)
   .rw [dZ];exact fS _ uk
   .rw[dZ]at h⊢;rcases cT.mp h with e|e
    .exact cT.mpr (.inl e)
    .exact fS _ (yA g e)
theorem Km(f:Str)(v:V):∀aR:List (Str×V),↑(dz f v aR)<=↑aR+1
 |[]=>by simp[dz]
 |(k,x)::r=>by
  have b9:=Km f v r;rw[show dz f v ((p'p k x)::r)=(if k=f then(p'p k v)::r else(p'p k x)::dz f v r)from rfl];by_cases aI:k=f
  .rw [if_pos aI,gw,gw];omega
  .rw [if_neg aI,gw,gw];omega
theorem iG.some_of(r:iG (some v) o):∃u,o\u/\bN v u:=by
 cases o with
 |none=>exact(show False from r).elim
 |some u=>exact(u,rfl,r)
theorem iG.none_of(r:iG none o):o=none:=by
 cases o with
 |none=>rfl
 |some u=>exact(show False from r).elim
theorem agp(r:bN v u):aaI u=true:=by
 cases v with
 |b4=>cases(show u=ik from r);rfl
 |bE b=>cases(show u=lM b from r);rfl
 |int i=>let(t,e):=(show ∃t,u=lJ i t from r);cases e;rfl
 |str x=>let(t,e):=(show ∃t,u=qF x t from r);cases e;rfl
 |kL b=>let(t,e):=(show ∃t,u=Jj b t from r);cases e;rfl
 |uP b=>let(t,e):=(show ∃t,u=IJ b t from r);cases e;rfl
 |ref a=>cases(show u=dm a from r);rfl
 |ty n=>cases(show u=rr n from r);rfl
section
variable{P:Program}{w:World}{H I:ar}{h h':Heap}{a C ak:Addr}{aR oR:List (Str×V)}
def Gg(bf:eG P w H h)(e:H a\(.ins C ak aR)):∃dQ,sU h a ak C dQ/\(∀f,iG (aR.lookup f) (dQ f))/\Dc dQ (aR.map (·.1))/\↑aR<=1000/\H ak\(.own a):=by
 let(d,z,ne,b_,dQ,n,r,q):=(show eh P w H h a (.ins C ak aR)from bf a _ e);exact(dQ,(b_,n,ne),r,q,z,d)
end
structure gh(K:a')(C:Addr):Prop where
 aiK:MH K C nN=true
 hd:EB K C=true
 po:apx K C=true
 hC:dM K ⇑C "__setattr__"\(some (.builtin "object.__setattr__"))
def gh.get{K:a'}(c:gh K C)(f:Str):MH K C f=true:=c.aiK
def cY(K:a')(C:Addr)(f:Str):Prop:=dM K ⇑C f\none
def cY.aoN{K:a'}(n:cY K C f):Sw K C f\none:=by
 unfold Sw;rw[show dM K ⇑C f\none from n];rfl
structure hj(K:a')(C:Addr)(m:Str)(f:Addr):Prop where
 at_:dM K ⇑C m\(some ⇑f)
 fn:L7 K ⇑f=true
 bt:q9 K ⇑f=true
section
variable{X:a6}{ab:List (Addr×Obj)}{σ:St}{H:ar}{s:Shared}{a C ak:Addr}{aR:List (Str×V)}{f:Str}{v:V}{A:Around}{E:Value->Shared->Prop}
def Ob(J:Inv X ab σ H s)(e:H a\(.ins C ak aR))(c:gh X.K C)(n:cY X.K C f)(l:aR.lookup f\v)
  (h:∀u s',Inv X ab σ H s'->bN v u->Q u s'):wpAny (model X.prog X.w) A (getAttr ⇑a f b) Q E s:=by
 let(dQ,O,r,_,_,_):=Gg J.bf e;let(u,bx,ed):=iG.some_of (v:=v) (o:=dQ f) (by rw[<- l];exact r f);exact aix J.es O (c.get f) c.hd n bx (agp ed) (h u _ (J.tok _) ed)
def Cc(J:Inv X ab σ H s)(e:H a\(.ins C ak aR))(c:gh X.K C)(k:hj X.K C m g)(l:aR.lookup m=none)
  (h:Q (p'p (⇑g) [⇑a]) s):wpAny (model X.prog X.w) A (getMethod ⇑a m pl) Q E s:=by
 let(dQ,O,r,_,_,_):=Gg J.bf e;have aL:dQ m=none:=iG.none_of (by rw[<- l];exact r m);exact ap_ J.es O (c.get m) k.at_ k.fn aL h
def Rb(J:Inv X ab σ H s)(e:H a\(.ins C ak aR))(c:gh X.K C)(n:cY X.K C f)(aw:↑aR<1000)(bu:bN y u)
  (h:∀s',Inv X ab σ (upd H a (.ins C ak (dz f y aR))) s'->Q ⟨⟩ s'):wpAny (model X.prog X.w) A (setAttr ⇑a f u) Q E s:=by
 let(dQ,O,r,d3,_,aW):=Gg J.bf e;have ax:↑(aR.map (·.1))<=sizeLine:=by rw[a9,sizeLine_eq];omega
 refine ahb J.es O c.hC c.po n.aoN c.hd d3 ax λh' JF hs=>h _ ?_
 have hd:∃o,h'.get? ak\o:=let⟨o,_,_,bZ,_⟩:=JF.ns;(o,bZ);refine J.write (x:=a) (e:=ak) (by rw[e];exact kB) (.inr aW) (λb q ae z=>(hs.2 b ae).trans z) hd ?_;refine(by rw[aO O.ne];exact aW,?_,O.ne,JF.obj,_,JF.ns,λg=>?_,λg a0=>?_)
 .have:=Km f y aR;omega
 .show iG ((dz f y aR).lookup g) (if g=f then some u else dQ g);rw[Nd];by_cases q:g=f
  .rw [if_pos q,if_pos q];exact bu
  .rw [if_neg q,if_neg q];exact r g
 .by_cases q:g=f
  .rw [q];exact(xp f y aR).1
  .refine (xp f y aR).2 g (d3 g λz=>a0 ?_);show(if g=f then some u else dQ g)=none;rw[if_neg q];exact z
def Inv.made(J:Inv X ab σ H s):Inv X ab σ (upd (upd H ↥s (.own (↥s+1))) (↥s+1) (.ins C ↥s []))
  {s with heap:=(s.heap.push ka).push (uf C ↥s)}:=by
 have az:(s.heap.push ka).get? ↥s\ka:=e7 s.heap rfl;have aE:((s.heap.push ka).push (uf C ↥s)).get? (↥s+1)\(uf C ↥s):=by
  have:=e7 (s.heap.push ka) (o:=uf C ↥s) rfl;rwa[xY]at this
 have b7:(s.heap.push ka).Ns ↥s (λ_=>none):=(ka,#[],_,az,rfl,(λe he=>absurd he (by simp)),λ_=>rfl);have aU:=J.laid (a:=↥s) (o:=.own (↥s+1)) (h':=s.heap.push ka) (t':=s.toks) (λb u q=>dX _ q) (b0 _) (_,az);refine aU.laid (a:=↥s+1) (o:=.ins C ↥s []) (t':=s.toks) (λb u q=>dX _ q) (Dy (xY _ _)) ?_;have ne:↥s≠↥s+1:=fM (TA _);refine(by rw[aO ne,aP],gx _,ne,aE,λ_=>none,(ak6 b7).at λo q=>dX _ q,λ_=>kB,λy bg=>absurd rfl bg)
def GT{prog:Program}{w:World}{env:Env}{e:Expr}(ae:attributeBase e f env (eval e env)=eval e env)
  (h:wpAny (model prog w) A (eval e env) (λo dj=>wpAny (model prog w) A (getAttr o f true) Q E dj) E s):wpAny (model prog w) A (eval (.Attribute e f pos) env) Q E s:=
 Attribute_any_ h (by rw[arm_eval_Attribute,ae])
end
def ix(K:a')(H:ar)(a:Addr)(f:Str)(v:V):Prop:=∃C ak aR,H a\(.ins C ak aR)/\gh K C/\cY K C f/\aR.lookup f\v
def G9(K:a')(a4:TE)(f:Str):TE:=λσ H Q=>a4 σ H λx H1=>eV x λa=>∃v,ix K H1 a f v/\Q v H1
def Rp(K:a')(a4 eH:TE)(f:Str):ea:=λD σ H=>eH σ H λy H1=>a4 σ H1 λx ay=>eV x λa=>∃C ak aR,ay a\(.ins C ak aR)/\gh K C/\cY K C f/\↑aR<1000 /\
 D.cp σ (upd ay a (.ins C ak (dz f y aR)))
def RX(X:a6)(op:Operator)(rd:V->V->ar->cz->Prop):Prop:=
 ∀(ab:List (Addr×Obj)) (s:Shared) (σ:St) (H:ar) (x y:V) (u v:Value) (Q:cz),Inv X ab σ H s->bN x u->bN y v->rd x y H Q->wpAny (model X.prog X.w) X.A (inplaceOp op u v) (gX X ab σ Q) X.df s
def UQ(K:a')(a4 eH:TE)(rd:V->V->ar->cz->Prop)(f:Str):ea:=λD σ H=>a4 σ H λx H1=>∃a C ak aR v,x=⇑a/\H1 a\(.ins C ak aR)/\gh K C/\cY K C f/\aR.lookup f\v /\
 eH σ H1 λy ay=>rd v y ay λz bq=>∃fc oR,bq a\(.ins C fc oR)/\↑oR<1000/\D.cp σ (upd bq a (.ins C fc (dz f z oR)))
section
variable{X:a6}{o e value:Expr}{f:Str}{pos pos' Ai:Pos}{a4 eH:TE}
def dJ(he:bw X e a4)(ae:attributeBase e f X.env (eval e X.env)=eval e X.env):bw X (.Attribute e f pos) (G9 X.K a4 f):=by
 intro ab s σ H Q J h;refine GT ae (bG (he ab s σ H _ J h) λu s1 cm=>eo cm λx H1 aU bh hk=>?_);let(a,ex,v,(C,ak,aR,cK,c,n,l),q):=eV.out hk;subst ex;obtain rfl:u=dm a:=bh;exact Ob aU cK c n l λig s2 bK ed=>(v,H1,bK,ed,q)
def h1(aJ:bw X o a4)(aM:bw X value eH)(aB:swapsWith value (some (.Attribute o f pos')) pos.line X.env=pure false):gv X (.Assign [.Attribute o f pos'] value pos) (Rp X.K a4 eH f):=by
 intro ab s σ H D J h;refine plainObj_wpAny_Assign_Attribute (bG (aM ab s σ H _ J h) λu s1 cm=>eo cm λy H1 aU bu q=>bG (aJ ab s1 σ H1 _ aU q) λdi s2 cm=>eo cm λx ay bK bh hk=>?_) aB;let(a,ex,C,ak,aR,cK,c,n,l,cP):=eV.out hk;subst ex;obtain rfl:di=dm a:=bh;exact Rb bK cK c n l bu λs3 eA=>(σ,_,eA,cP)
def alz{rd:V->V->ar->cz->Prop}(aJ:bw X o a4)(aM:bw X value eH)(apD:RX X op rd):gv X (.AugAssign (.Attribute o f Ai) op value pos) (UQ X.K a4 eH rd f):=by
 intro ab s σ H D J h;refine wpAny_AugAssign_AttributeAny (bG (aJ ab s σ H _ J h) λdi s1 ck=>?_);let(x,H1,aU,bh,a,C,ak,aR,v,ex,cK,c,n,l,q):=ck;subst ex;obtain rfl:di=dm a:=bh;refine Ob aU cK c n l λu s2 bK ed=>bG (aM ab s2 σ H1 _ bK q) λg6 s3 cm=>eo cm λy ay eA bu eC=>bG (apD ab s3 σ ay v y u g6 _ eA ed bu eC) λwC s4 ck=>?_
 let(z,bq,jT,ZA,fc,oR,JZ,afE,lD):=ck;exact Rb jT JZ c n afE ZA λs5 y8=>(σ,_,y8,lD)
def Hz:V->V->ar->cz->Prop:=λx y H Q=>∃i j,x=.int i/\y=.int j/\Q (.int (i+j)) H
def ag8:RX X .Add Hz:=by
 intro ab s σ H x y u v Q J bh bu (i,j,rfl,rfl,q);let(t,rfl):=(show ∃t,u=lJ i t from bh);let(t',rfl):=(show ∃t',v=lJ j t' from bu);exact asH (.int (i+j),H,J.tok _,(_,rfl),q)
end
section
variable{X:a6}{ab:List (Addr×Obj)}{σ:St}{H:ar}{s:Shared}{A:Around}{E:Value->Shared->Prop}{Q:Value->Shared->Prop}{c:Value}{b:Bool}
inductive n2(K:a')(H:ar):V->Value->Prop where
 |b4:n2 K H .b4 (.type "NoneType")
 |bE (x:Bool):n2 K H (.bE x) (.type "bool")
 |int (i:Int):n2 K H (.int i) (.type "int")
 |str (x:Str):n2 K H (.str x) (.type "str")
 |uP (x:UInt64):n2 K H (.uP x) (.type "float")
 |lst {a:Addr} {xs:List V} (e:H a\(.lst xs)):n2 K H (.ref a) (.type "list")
 |eO {a:Addr} {o:Obj} {xs:List V} (e:H a\(.eO o (.lst xs))):n2 K H (.ref a) (.type "list")
 |tup {a:Addr} {xs:List V} (e:H a\(.tup xs)):n2 K H (.ref a) (.type "tuple")
 |bL {a:Addr} {kvs:List (Key×V)} (e:H a\(.bL kvs)):n2 K H (.ref a) (.type "dict")
 |kC {a:Addr} {kvs:List (List Key×V)} (e:H a\(.kC kvs)):n2 K H (.ref a) (.type "dict")
 | ins {a C ak:Addr} {aR:List (Str×V)} (e:H a\(.ins C ak aR)) (cl:gh K C) (aJ:dM K (.ref C) "__class__"\(some (.builtin "object.__class__")))
   (aL:u7 K (.builtin "object.__class__") "__get__"\(some (.builtin "getset_descriptor.__get__"))) (qI:I9 K (.builtin "object.__class__")\true)
   (hm:xl K C (.type "object")\true):n2 K H ⇑a ⇑C
end
structure eJ(k:Nat)(A:Around):Prop where
 hd:A.handled=none
 fh:A.depth+3*k+5<recursionLimit
 un:A.units+16*k+200<cLine
def eJ.mono{j k:Nat}{A:Around}(r:eJ k A)(h:j<=k):eJ j A:=(r.hd,by have:=r.fh;omega,by have:=r.un;omega)
theorem eJ.deeper{k:Nat}{A:Around}(r:eJ (k+1) A)(env:Env):eJ k (A.deeper env):=
 (r.hd,by have:=r.fh;show A.depth+1+3*k+5<_;omega,by have:=r.un;show A.units+3+16*k+200<_;omega)
def amz{A:Around}:(A.under (.builtin "type.__call__" (⇑C::us,kw))).depth=A.depth+1:=by
 first|rfl|simp[WU,Code.weight,Code.isCreation,Code.isGuard,Code.isCaller,ajy,WJ,guardIds]
def acf{A:Around}:(A.under (.builtin "type.__call__" (⇑C::us,kw))).units=A.units+1:=by
 first|rfl|simp[WU,Code.cUnits,ajy,WJ]
def eJ.make{k:Nat}{A:Around}(r:eJ (k+1) A)(C:Addr)(us:List Value)(kw:List (Str×Value)):eJ k (A.under (.builtin "type.__call__" (⇑C::us,kw))):=
 (r.hd,by have:=r.fh;rw[amz];omega,by have:=r.un;rw[acf];omega)
theorem eJ.depth{k:Nat}{A:Around}(r:eJ k A):A.depth<recursionLimit:=by have:=r.fh;omega
theorem eJ.units{k:Nat}{A:Around}(r:eJ k A):A.units+64<cLine:=by have:=r.un;omega
def vb:eE:=λ_ H Q=>Q [] H
def wS(a4:TE)(iQ:eE):eE:=λσ H Q=>a4 σ H λx H1=>iQ σ H1 λxs ay=>Q (x::xs) ay
section
variable{X:a6}{e:Expr}{aK:List Expr}{bI:TE}{t:eE}{pos:Pos}
def aA:da X [] vb:=λ_ _ _ _ H Q J h=>ang ([],H,J,.nil,h)
def ag(aJ:bw X e bI)(au:da X aK t)(aB:starEach (e::aK) X.env=(p'p false (eval e X.env))::starEach aK X.env:=by rfl):da X (e::aK) (wS bI t):=by
 intro pos ab s σ H Q J h;rw[aB];show wpAny _ _ (spliced ((p'p false (eval e X.env))::backTo pos (starEach aK X.env))) _ _ s;refine aha (bG (aJ ab s σ H _ J h) λu s1 cm=>eo cm λx H1 aU bX bM=>?_);exact bG (au pos ab s1 σ H1 _ aU bM) λus s2 ⟨xs,ay,bK,c4,cP⟩=>(x::xs,ay,bK,.cons bX c4,cP)
def NI(t:eE):TE:=λσ H Q=>t σ H λxs H1=>↑xs<=sizeLine/\∀p,H1 p=none->Q ⇑p (upd H1 p (.tup xs))
def JK(t:eE):TE:=λσ H Q=>t σ H λxs H1=>↑xs<=sizeLine/\∀p,H1 p=none->Q ⇑p (upd H1 p (.lst xs))
def kr{fN}(h:da X aK t):bw X (.Tuple aK fN pos) (NI t):=by
 intro ab s σ H Q J aF;refine wpAny_Tuple_spliced (bG (h pos ab s σ H _ J aF) λus s1 ⟨xs,H1,aU,r,z,q⟩=>(by rw[<- ↑r];exact z,?_));have hf:H1 ↥s1=none:=aU.bf.fresh (b0 _);refine(.ref ↥s1,upd H1 ↥s1 (.tup xs),aU.laid (t':=s1.toks) (λb u e=>dX _ e) (b0 _) ?_,rfl,q _ hf);exact((z,_,e7 _ rfl,rfl),us,r,(_,e7 _ rfl,rfl,_,rfl))
def fE(h:da X aK t):bw X (.List aK pos) (JK t):=by
 intro ab s σ H Q J aF;refine wpAny_List_spliced (bG (h pos ab s σ H _ J aF) λus s1 ⟨xs,H1,aU,r,z,q⟩=>(by rw[<- ↑r];exact z,?_));have hf:H1 ↥s1=none:=aU.bf.fresh (b0 _);refine(.ref ↥s1,upd H1 ↥s1 (.lst xs),aU.laid (t':=s1.toks) (λb u e=>dX _ e) (b0 _) ?_,rfl,q _ hf);exact(z,us,0,r,e7 _ rfl)
end
abbrev bH:=List V->ar->cz->dG->Prop
abbrev hP:=List Env->ar->Shared->dG->Value->Shared->Prop
structure nC(P:Program)(w:World)(K:a')(av:Str->Option Value)(base:Heap)(A:Around)(outer:List Env)(s:Shared)(H:ar):Prop where
 frames:A.frames\outer
 mod:Mod K av base
 bs:∀b o,base.get? b\o->s.heap.get? b\o/\H b=none
 j6:base.objs.size<=↥s
 iZ:s.heap.FunFrames base outer
 kA:∀b∈hn outer,H b=none
 bf:eG P w H s.heap
 bare:AllBare s.gens
def GC(outer:List Env)(P:Program)(w:World)(H:ar)(s:Shared)(Q:cz)(u:Value)(s':Shared):Prop:=
 ∃v I,s'.os=s.os/\AllBare s'.gens/\gn (hn outer) [] H I s.heap s'.heap/\eG P w I s'.heap/\bN v u/\Q v I
def ML(CX:hP)(outer:List Env)(P:Program)(w:World)(H:ar)(s:Shared)(Q:cz)(E:dG)(r:Result)(s':Shared):Prop:=
 match r with
 | .ok (.ret u)=>GC outer P w H s Q u s'
 | .ok _=>False
 | .error e=>CX outer H s E e s'
structure bD(P:Program)(w:World)(K:a')(av:Str->Option Value)(base:Heap)(CX:hP)(k:Nat)(f:Addr)(fd:FuncData)(ps:List Str)(sp:bH):Prop where
 len:∀vs H Q E,sp vs H Q E->↑vs=↑ps
 run:∀(A:Around) (outer:List Env) (s:Shared) (H:ar) (args:Args) (us:List Value) (vs:List V) (Q:cz) (E:dG),eJ k A->nC P w K av base A outer s H->BindsTo s fd args (ps.zip us)->bW vs us->sp vs H Q E ->
  codeAny (model P w) A (.call ⇑f args) (ML CX outer P w H s Q E) s
theorem bD.mono{w:World}{K:a'}{av:Str->Option Value}{base:Heap}{j k:Nat}{fd:FuncData}(F:bD P w K av base CX j f fd ps sp)(h:j<=k) :
  bD P w K av base CX k f fd ps sp:=(F.len,λA outer s H args us vs Q E au=>F.run A outer s H args us vs Q E (au.mono h))
def nC.make{w:World}{K:a'}{av:Str->Option Value}{base:Heap}{A:Around}{outer:List Env}(e:nC P w K av base A outer s H)(C:Addr)(us:List Value)(kw:List (Str×Value)) :
  nC P w K av base (A.under (.builtin "type.__call__" (⇑C::us,kw))) outer s H:=(by first|exact e.frames|(simpa[WU,Code.envs,WJ,pushEnvs]using e.frames),e.mod,e.bs,e.j6,e.iZ,e.kA,e.bf,e.bare)
section
variable{X:a6}{ab:List (Addr×Obj)}{σ:St}{H:ar}{s s':Shared}
def Inv.CS(J:Inv X ab σ H s):nC X.prog X.w X.K X.av X.base X.A X.stack s H:=
 (J.ok.frames,J.ok.mod,J.bs,cH J.ok.j6 J.rf,J.stack,J.A5,J.bf,J.bare)
def Inv.after(J:Inv X ab σ H s)(h:GC X.stack X.prog X.w H s Q u s'):gX X ab σ Q u s':=by
 let(v,I,os,bare,un,bf,r,q):=h;let(cG,g,d,t,Df):=s';obtain rfl:Df=s.os:=os;exact(v,I,J.call (h':=cG) (g':=g) (d':=d) (t':=t) (ch:=[]) un bf bare (λb z=>absurd z (by simp)),r,q)
end
def yl(sp:bH)(dvs:List V)(E:dG)(t:eE):TE:=λσ H Q=>t σ H λvs H1=>sp (vs++dvs) H1 Q E
def G2(C:Addr)(m:Str)(sp:bH)(dvs:List V)(E:dG)(a4:TE)(t:eE):TE:=λσ H Q=>a4 σ H λx H1=>eV x λa=>∃ak aR,H1 a\(.ins C ak aR)/\aR.lookup m=none /\
 t σ H1 λvs ay=>sp (x::(vs++dvs)) ay Q E
def FN(C:Addr)(sp:bH)(dvs:List V)(E:dG)(t:eE):TE:=λσ H Q=>t σ H λvs H1=>∀x ak,H1 x=none->H1 ak=none->ak≠x ->
 sp (⇑x::(vs++dvs)) (upd (upd H1 ak (.own x)) x (.ins C ak [])) (λv ay=>v=.b4/\Q ⇑x ay) E
def ac(K:a')(fd:FuncData)(ps:List Str)(ds:List Value):Prop:=
 ∀(s:Shared) (us:List Value),K.In s.heap->↑(us++ds)=↑ps->BindsTo s fd (us,[]) (ps.zip (us++ds))
def ac.all{K:a'}{fd:FuncData}(h:∀us:List Value,↑us=↑ps->bindArgs fd (us,[])=pure (ps.zip us)):ac K fd ps []:=λs us _ aw=>by
 rw[ow]at aw⊢;exact .of_eq (h us aw)
def mX(CX:hP)(X:a6)(E:dG):Prop:=∀(ab:List (Addr×Obj)) (σ:St) (H:ar) (s:Shared) (e:Value) (s':Shared),Inv X ab σ H s->CX X.stack H s E e s'->X.df e s'
section
variable{X:a6}{CX:hP}{k:Nat}{f C:Addr}{fd:FuncData}{ps:List Str}{sp:bH}{dvs:List V}{ds:List Value}{E:dG}{x m:Str}{p pos eR:Pos}{e o:Expr}{aK:List Expr}{a4:TE}{t:eE}
theorem x2(F:bD X.prog X.w X.K X.av X.base CX k f fd ps sp)(au:eJ k X.A)(ae:ac X.K fd ps ds)(hd:bW dvs ds)(ai:mX CX X E)
  (J:Inv X ab σ H s) (r:bW vs us) (h:sp (vs++dvs) H Q E):wpAny (model X.prog X.w) X.A (call ⇑f us) (gX X ab σ Q) X.df s:=by
 have c4:bW (vs++dvs) (us++ds):=r.append hd;have aw:↑(us++ds)=↑ps:=by rw[<- ↑c4];exact F.len _ _ _ _ h
 refine wpAny_call (codeAny_mono (F.run X.A X.stack s H (us,[]) (us++ds) (vs++dvs) Q E au J.CS (ae s us J.es aw) c4 h) λr s' aF=>?_);cases r with
 |error e=>exact ai ab σ H s e s' J aF
 |ok ec=>
  cases ec with
  |ret u=>exact J.after aF
  |next=>exact ky aF
  |brk=>exact ky aF
  |cont=>exact ky aF
def pM(F:bD X.prog X.w X.K X.av X.base CX k f fd ps sp)(au:eJ k X.A)(a0:hI X x)(hm:X.av x\⇑f)(aI:q9 X.K ⇑f=true)(ae:ac X.K fd ps ds)(hd:bW dvs ds)(ai:mX CX X E)
  (aJ:da X (e::aK) t) (fj:(x==("__debug__":Str))=false:=by decide) (he:starEach (e::aK) X.env=(p'p false (eval e X.env))::starEach aK X.env:=by rfl) (dI:(backTo pos (starEach aK X.env)).any (·.1)=false:=by rfl) :
  bw X (.Call (.Name x p) (e::aK) [] pos) (yl sp dvs E t):=by
 intro ab s σ H Q J h;refine wpAny_Call_Name_kw (qR J a0 hm ?_ fj);refine z_ (h₀:=X.base) J.ok.mod.rC aI (bG (aJ pos ab s σ H _ J h) λus s1 ⟨vs,H1,aU,r,q⟩=>(aU.es,?_)) he dI;exact x2 F au ae hd ai aU r q
def e0(he:bw X o a4)(c:gh X.K C)(hm:hj X.K C m f)(F:bD X.prog X.w X.K X.av X.base CX k f fd ps sp)(au:eJ k X.A)(ae:ac X.K fd ps ds)(hd:bW dvs ds)(ai:mX CX X E)(aJ:da X (e::aK) t)
  (gJ:starEach (e::aK) X.env=(p'p false (eval e X.env))::starEach aK X.env:=by rfl) (dI:(backTo pos (starEach aK X.env)).any (·.1)=false:=by rfl)
  (cV:eval (.Call (.Attribute o m eR) (e::aK) [] pos) X.env=(do
   let di <- eval o X.env
   standAt eR.atName
   let (f,first) <- holding [di] (getMethod di m pl)
   callWith pos f first (backTo pos (starEach (e::aK) X.env)) (backToKw pos (keywordEach [] X.env))):=by rfl) :
  bw X (.Call (.Attribute o m eR) (e::aK) [] pos) (G2 C m sp dvs E a4 t):=by
 intro ab s σ H Q J h;refine yL (pl:=pl) (bG (he ab s σ H _ J h) λu s1 cm=>eo cm λx H1 aU bh hk=>?_) cV;let(a,ex,ak,aR,cK,l,q):=eV.out hk;subst ex;obtain rfl:u=dm a:=bh;refine Cc aU cK c hm l ?_;refine z_ (first:=[⇑a]) (h₀:=X.base) J.ok.mod.rC hm.bt (bG (aJ pos ab s1 σ H1 _ aU q) λus s2 ⟨vs,ay,bK,r,cP⟩=>(bK.es,?_)) gJ dI;exact x2 (us:=⇑a::us) (vs:=⇑a::vs) F au ae hd ai bK (.cons rfl r) cP
def iL(he:bw X o a4)(c:gh X.K C)(hm:hj X.K C m f)(F:bD X.prog X.w X.K X.av X.base CX k f fd ps sp)(au:eJ k X.A)(ae:ac X.K fd ps ds)(hd:bW dvs ds)(ai:mX CX X E)
  (cV:eval (.Call (.Attribute o m eR) [] [] pos) X.env=(do
   let di <- eval o X.env
   standAt eR.atName
   let (f,first) <- holding [di] (getMethod di m pl)
   callWith pos f first (backTo pos (starEach [] X.env)) (backToKw pos (keywordEach [] X.env))):=by rfl) :
  bw X (.Call (.Attribute o m eR) [] [] pos) (G2 C m sp dvs E a4 vb):=by
 intro ab s σ H Q J h;refine yL (pl:=pl) (bG (he ab s σ H _ J h) λu s1 cm=>eo cm λx H1 aU bh hk=>?_) cV;let(a,ex,ak,aR,cK,l,q):=eV.out hk;subst ex;obtain rfl:u=dm a:=bh;refine Cc aU cK c hm l ?_;exact Uy (first:=[⇑a]) aU.es hm.bt (x2 (us:=[⇑a]) (vs:=[⇑a]) F au ae hd ai aU (.cons rfl .nil) q)
structure n8(K:a')(C f:Addr):Prop where
 makes:ai4 K C=true
 init:dM K ⇑C "__init__"\(some ⇑f)
 fn:L7 K ⇑f=true
 bt:q9 K ⇑C=true
theorem Ys(M:n8 X.K C f)(F:bD X.prog X.w X.K X.av X.base CX k f fd ps sp)(au:eJ (k+1) X.A)(ae:ac X.K fd ps ds)(hd:bW dvs ds)
  (ai:mX CX X E) (J:Inv X ab σ H s) (r:bW vs us)
  (h:∀x ak,H x=none->H ak=none->ak≠x->sp (⇑x::(vs++dvs)) (upd (upd H ak (.own x)) x (.ins C ak [])) (λv ay=>v=.b4/\Q ⇑x ay) E) :
  wpAny (model X.prog X.w) X.A (call ⇑C us) (gX X ab σ Q) X.df s:=by
 have aF:=h (↥s+1) ↥s (J.bf.fresh (uE _)) (J.bf.fresh (b0 _)) (fM (TA _));have bK:=Inv.made (C:=C) J;have c4:bW (V.ref (↥s+1)::(vs++dvs)) (dm (↥s+1)::(us++ds)):=.cons rfl (r.append hd);have aw:↑(dm (↥s+1)::us++ds)=↑ps:=by
  have e:=↑c4;rw[F.len _ _ _ _ aF]at e;exact e.symm
 refine wpAny_call (ans (f:=f) J.es M.makes M.init (beq_iff_eq.mp M.fn) (codeAny_mono (F.run _ X.stack _ _ (dm (↥s+1)::us,[]) (dm (↥s+1)::(us++ds)) _ _ E (au.make C us [])
  (bK.CS.make C us []) (ae _ (dm (↥s+1)::us) bK.es aw) c4 aF) λr s' r4=>?_))
 cases r with
 |error e=>exact ai ab σ _ _ e s' bK r4
 | ok ec=>
  cases ec with
  |ret u=>
   let(v,I,eA,cf,ev,eC):=bK.after r4;subst ev;exact(cf,(V.ref (↥s+1),I,eA,rfl,eC))
  |next=>exact ky r4
  |brk=>exact ky r4
  |cont=>exact ky r4
def sX(M:n8 X.K C f)(F:bD X.prog X.w X.K X.av X.base CX k f fd ps sp)(au:eJ (k+1) X.A)(a0:hI X x)(hm:X.av x\⇑C)(ae:ac X.K fd ps ds)(hd:bW dvs ds)(ai:mX CX X E)
  (aJ:da X (e::aK) t) (fj:(x==("__debug__":Str))=false:=by decide) (he:starEach (e::aK) X.env=(p'p false (eval e X.env))::starEach aK X.env:=by rfl) (dI:(backTo pos (starEach aK X.env)).any (·.1)=false:=by rfl) :
  bw X (.Call (.Name x p) (e::aK) [] pos) (FN C sp dvs E t):=by
 intro ab s σ H Q J h;refine wpAny_Call_Name_kw (qR J a0 hm ?_ fj);refine z_ (h₀:=X.base) J.ok.mod.rC M.bt (bG (aJ pos ab s σ H _ J h) λus s1 ⟨vs,H1,aU,r,q⟩=>(aU.es,?_)) he dI;exact Ys M F au ae hd ai aU r q
def aiW(M:n8 X.K C f)(F:bD X.prog X.w X.K X.av X.base CX k f fd ps sp)(au:eJ (k+1) X.A)(a0:hI X x)(hm:X.av x\⇑C)(ae:ac X.K fd ps ds)(hd:bW dvs ds)(ai:mX CX X E)
  (fj:(x==("__debug__":Str))=false:=by decide):bw X (.Call (.Name x p) [] [] pos) (FN C sp dvs E vb):=by
 intro ab s σ H Q J h;refine wpAny_Call_Name_kw (qR J a0 hm ?_ fj);exact Uy J.es M.bt (Ys (us:=[]) M F au ae hd ai J .nil h)
end
structure b2(N P:List Str)(sc:Scope):Prop where
 kind:sc.kind=.function
 co:sc.isCoroutine=false
 gen:sc.isGenerator=false
 aD:N.Nodup
 pre:N.take ↑P=P
 par:∀x∈P,sc.names.lookup x\.local\/sc.names.lookup x\.cell
 ao9:∀y∈sc.names,y.2≠.free
theorem Ol{kindOf:Str->Option NameKind}{x:Str}:∀{binds:List (Str×Value)} {m:Str->Option Value},(∀v,(p'p x v)∉binds)->bindL kindOf binds m x=m x
 |[],_,_=>rfl
 | (n,v)::r,m,h=>by
  unfold bindL;rw[Ol λw hw=>h w (fS _ hw)];split
  .have:x≠n:=by rintro rfl;exact h v lW
   simp[this]
  .rfl
theorem R1{kindOf:Str->Option NameKind}{x:Str}:∀{binds:List (Str×Value)} {m:Str->Option Value},(∀v,(p'p x v)∉binds)->bindC kindOf binds m x=m x
 |[],_,_=>rfl
 | (n,v)::r,m,h=>by
  unfold bindC;rw[R1 λw hw=>h w (fS _ hw)];split
  .rfl
  .have:x≠n:=by rintro rfl;exact h v lW
   simp[this]
theorem RF{kindOf:Str->Option NameKind}{x:Str}{v:Value}:∀{P:List Str} {vs:List Value} {i:Nat} {m:Str->Option Value},P.Nodup->P[i]?\x->vs[i]?\v->kindOf x\.local ->
  bindL kindOf (P.zip vs) m x\v
 |[],_,_,_,_,h,_,_=>by simp at h
 |_::_,[],_,_,_,_,h,_=>by simp at h
 |p::P,w::vs,0,m,aD,af,aj,aI=>by
  simp at af aj;subst af;subst aj;show bindL kindOf ((p'p p w)::P.zip vs) m p=_;unfold bindL;rw[Ol λv aM=>(sZ.mp aD).1 (OR aM).1,if_pos aI];simp
 |p::P,w::vs,i+1,m,aD,af,aj,aI=>by
  show bindL kindOf ((p'p p w)::P.zip vs) m x=_;unfold bindL;exact RF (i:=i) (sZ.mp aD).2 (by simpa using af) (by simpa using aj) aI
theorem Yt{kindOf:Str->Option NameKind}{x:Str}{v:Value}:∀{P:List Str} {vs:List Value} {i:Nat} {m:Str->Option Value},P.Nodup->P[i]?\x->vs[i]?\v->kindOf x≠some .local ->
  bindC kindOf (P.zip vs) m x\v
 |[],_,_,_,_,h,_,_=>by simp at h
 |_::_,[],_,_,_,_,h,_=>by simp at h
 |p::P,w::vs,0,m,aD,af,aj,aI=>by
  simp at af aj;subst af;subst aj;show bindC kindOf ((p'p p w)::P.zip vs) m p=_;unfold bindC;rw[R1 λv aM=>(sZ.mp aD).1 (OR aM).1,if_neg aI];simp
 |p::P,w::vs,i+1,m,aD,af,aj,aI=>by
  show bindC kindOf ((p'p p w)::P.zip vs) m x=_;unfold bindC;exact Yt (i:=i) (sZ.mp aD).2 (by simpa using af) (by simpa using aj) aI
noncomputable def start(N:List Str)(vs:List V):St:=vs.map some++ke (↑N-↑vs) none
noncomputable def n3(CX:hP)(P:Program)(w:World)(K:a')(av:Str->Option Value)(base:Heap)(N:List Str)(qual:Str)(scope:Scope)(f:Addr)(cd:Value)(A:Around)(outer:List Env)(s:Shared)(H:ar)(E:dG):a6 where
 prog:=P
 w:=w
 K:=K
 av:=av
 base:=base
 A:=A.deeper (envOfC qual scope ↥s f cd)
 N:=N
 fB:=s
 s9:=H
 env:=envOfC qual scope ↥s f cd
 outer:=outer
 stack:=envOfC qual scope ↥s f cd::outer
 ex:=[]
 calm:=true
 fn:=λ_=>true
 d8:=[]
 df:=λe s'=>wpAny (model P w) (A.deeper (envOfC qual scope ↥s f cd)) (leaving (envOfC qual scope ↥s f cd) e) (λ_ qt=>CX outer H s E e qt) (λbZ qt=>CX outer H s E bZ qt) s'
def Vv{sc:Scope}{n:Nat}{x:Str}(h:sc.names.lookup x\.cell):∃c,(cellsFrom n sc.names []).lookup x\c:=by
 have q:=ahX sc.names n [] (.inl h);exact ak0.mp q
theorem ahK{CX:hP}{P:Program}{w:World}{K:a'}{av:Str->Option Value}{base:Heap}{N ps:List Str}{qual:Str}{scope:Scope}{f:Addr}{cd:Value}{A:Around}{outer:List Env}{s s1:Shared}{H:ar}{E:dG}{us:List Value}{vs:List V}
  (S:b2 N ps scope) (hd:A.handled=none) (cR:nC P w K av base A outer s H) (aw:↑vs=↑ps) (r:bW vs us)
  (x:InCallC s ↥s (bindL (envOfC qual scope ↥s f cd).kindOf (ps.zip us) λ_=>none) (cellsFrom (↥s+1) scope.names []) (bindC (envOfC qual scope ↥s f cd).kindOf (ps.zip us) λ_=>none) s1) :
  Inv (n3 CX P w K av base N qual scope f cd A outer s H E) [] (start N vs) H s1:=by
 have dI:↑ps<=↑N:=by have:=congrArg nA S.pre;rw[fw]at this;omega
 let(af,cB,rfl,aI):=x.done;have wR:∀b:Addr,b∉(n3 CX P w K av base N qual scope f cd A outer s H E).ex:=λb z=>absurd (show b∈([]:List Addr)from z) (by simp)
 refine((cR.mod,S.kind,rfl,rfl,b0 _,λy z c af aj=>?_,λy bg=>?_,λy c _ h=>?_,λ_=>hd,Around.frames_deeper cR.frames,.inr (rfl,rfl),λb z=>absurd z (wR b),cR.bs,cR.j6,λb _ _=>wR b,λb z=>absurd z (wR b),cR.iZ,cR.kA),
  rfl,cR.bare,gn.kept aI,(_,x.toInCall.ns,λi y v af aj a_=>?_),λy c h=>(_,x.cell y c h),cR.bf.fresh (b0 _),λy c h=>?_,λp aq=>absurd (show p∈([]:List (Addr×Obj))from aq) (by simp),cR.bf.kept aI,?_)
 .exact name_of_addr x.apart (Du af) (Du aj)
 .have bg:scope.names.lookup y\.cell\/scope.names.lookup y\.free:=bg;rcases bg with bg|bg
  .exact Vv bg
  .exact absurd rfl (S.ao9 _ (Du bg))
 .exact sg (x.above y c (Du h))
 .have ao:i<↑vs:=by
   unfold start at aj;by_cases ao:i<↑vs
   .exact ao
   .rw [sS (by simpa using ao)]at aj;rw[Dn]at aj;split at aj <;> cases aj
  have aJ:vs[i]?\v:=by
   unfold start at aj;rw[sv (by simpa using ao),d7]at aj;cases e:vs[i]? with
   |none=>rw[e]at aj;cases aj
   |some a=>rw[e]at aj;cases aj;rfl
  let(u,bx,cf):=r.get aJ;have aq:ps[i]?\y:=by
   rw[<- S.pre,CG ()];exact af
  have OK:ps.Nodup:=by rw[<- S.pre];exact S.aD.sublist (List.take_sublist _ _)
  refine(u,cf,?_);rcases S.par y (cC aq)with k|k
  .exact .inl (k,RF OK aq bx k)
  .let(c,e):=Vv (n:=↥s+1) k;refine .inr (.inl k,c,e,?_);have q:=x.cell y c e;rw[Yt OK aq bx (by show scope.names.lookup y≠_;rw[k];decide)]at q;exact q
 .exact cR.bf.fresh (sg (x.above y c (Du h)))
 .unfold start;show _=↑N;rw[c',a9,kE];omega
theorem YL{w:World}{K:a'}{av:Str->Option Value}{base:Heap}{k:Nat}{name qual:Str}{E0 dC doc pm fG eX m6:Value}
 {N ps:List Str} (lk:K.lookup f\(m6,od,.func (w1 name qual params body scope E0 dC doc pm an fG eX),t9)) (lL:WM K fG qual=true) (S:b2 N ps scope)
    (len:∀vs H Q E,sp vs H Q E->↑vs=↑ps)
    (w0:∀(A:Around) (outer:List Env) (s:Shared) (H:ar) (vs:List V) (Q:cz) (E:dG),eJ k (A.deeper (envOfC qual scope ↥s f fG))->sp vs H Q E ->
      ∃t,g9 (n3 CX P w K av base N qual scope f fG A outer s H E) body t/\t {cp:=λ_ I=>Q .b4 I,lG:=Q} (start N vs) H) :
    bD P w K av base CX (k+1) f (w1 name qual params body scope E0 dC doc pm an fG eX) ps sp:=by
  refine(len,λA outer s H args us vs Q E au cR ae r ki=>?_);have aw:=len _ _ _ _ ki;have fe:K.In s.heap:=cR.mod.rC.keeps λb o e=>(cR.bs b o e).1
  have lim:s.heap.NoLimit:=cR.mod.nolimit.keeps λb o e=>(cR.bs b o e).1
  have ad9:∀y∈ps.zip us,scope.names.lookup y.1\.local\/(scope.names.lookup y.1\.cell/\((cellsFrom (↥s+1) scope.names []).lookup y.1).isSome=true):=λ⟨n,v⟩ bg=>by
    rcases S.par n (OR bg).1 with q|q
    · exact .inl q
    · exact .inr (q,ahX _ _ _ (.inl q))
  refine codeAny_call_function au.depth (fe _ _ lk) rfl S.co S.gen rfl (PySem.W.codeRec_of fe lL) (ae _ _ _ _ ?_);refine wpAny_newFunctionEnv_cells S.kind ad9 λenv he s1 x=>?_
  subst he;refine(lim.keeps x.toInCall.keep,codeAny_func ?_);let(t,cV,aF):=w0 A outer s H vs Q E (au.deeper _) ki;have J:Inv (n3 CX P w K av base N qual scope f fG A outer s H E) [] (start N vs) H s1:=ahK S au.hd cR aw r x;refine wpAny_mono (cV [] s1 (start N vs) H _ J aF) (λec s' aB=>?_) λe s' aB=>aB
  have fin:∀{aT:St} {I:ar} {v:V} {u:Value},Inv (n3 CX P w K av base N qual scope f fG A outer s H E) [] aT I s'->bN v u->Q v I->GC outer P w H s Q u s':=
    λ{aT I v u} cb cf q=>(v,I,cb.os,cb.bare,cb.base,cb.bf,cf,q)
  cases ec with
  | ret u=>
    let(v,aT,I,cb,cf,q):=aB;exact fin cb cf q
  | next=>
    let(aT,I,cb,q):=aB;exact fin (v:=V.b4) (u:=ik) cb rfl q
  | brk=>
    let(_,_,_,q):=aB;exact ky q
  | cont=>
    let(_,_,_,q):=aB;exact ky q
section
variable{X:a6}{x:Str}{p pos:Pos}{e:Expr}{aK:List Expr}{t:eE}{id T:String}{r:List V->ar->cz->Prop}
def Ek(r:List V->ar->cz->Prop)(t:eE):TE:=λσ H Q=>t σ H λvs H1=>r vs H1 Q
def f7(ah:lh X (.builtin id) r)(a0:hI X x)(hm:X.av x=none)(aM:bootBuiltins x\(.builtin id))(aJ:da X (e::aK) t)(aL:x≠"__name__":=by decide)(fj:(x==("__debug__":Str))=false:=by decide)
  (he:starEach (e::aK) X.env=(p'p false (eval e X.env))::starEach aK X.env:=by rfl) (dI:(backTo pos (starEach aK X.env)).any (·.1)=false:=by rfl):bw X (.Call (.Name x p) (e::aK) [] pos) (Ek r t):=by
 intro ab s σ H Q J h;refine wpAny_Call_Name_kw (qu J a0 hm aM ?_ aL fj);exact afJ (bG (aJ pos ab s σ H _ J h) λus s1 ⟨vs,H1,aU,bX,bM⟩=>ah ab s1 σ H1 vs us Q aU bX bM) he dI
def jo(ah:lh X (.type T) r)(a0:hI X x)(hm:X.av x=none)(aM:bootBuiltins x\(.type T))(aJ:da X (e::aK) t)(aL:x≠"__name__":=by decide)(fj:(x==("__debug__":Str))=false:=by decide)
  (he:starEach (e::aK) X.env=(p'p false (eval e X.env))::starEach aK X.env:=by rfl) (dI:(backTo pos (starEach aK X.env)).any (·.1)=false:=by rfl):bw X (.Call (.Name x p) (e::aK) [] pos) (Ek r t):=by
 intro ab s σ H Q J h;refine wpAny_Call_Name_kw (qu J a0 hm aM ?_ aL fj);exact vO (bG (aJ pos ab s σ H _ J h) λus s1 ⟨vs,H1,aU,bX,bM⟩=>ah ab s1 σ H1 vs us Q aU bX bM) he dI
end
end L2
namespace fx
open PySem PyProof.Rows
section
open PySem.SeqAt
open PySem.AutoSeq1 (wpAny_loadPart')
open PySem.MeetsSeq PySem.MeetsSeq2 PySem.MeetsSeq3
end
section
variable{prog:Program}{w:World}{A:Around}{E:Value->Shared->Prop}{s:Shared}
def anS{t b:Addr}(cV:IsTup s.heap t vs.toArray)(ae:IsTup s.heap b ws.toArray)(aM:vs≠[])
  (af:ws=[]->Q ⇑t s) (aj:ws≠[]->Q (.ref ↥s) {s with heap:=s.heap.push {cls:=.type "tuple",data:=.seq (vs++ws).toArray} })
  (hsz:↑vs+↑ws<=sizeLine):wpAny (model prog w) A (binaryOp .Add ⇑t ⇑b) Q E s:=by
 let((cls,c9,data,aX),aW,ah,n,hd):=id cV;let((asZ,PL,data2,Xy),D_,Yz,cg,hd2):=id ae;simp only at ah hd Yz hd2;subst ah hd Yz hd2;have e:vs.toArray++ws.toArray=(vs++ws).toArray:=by simp
 by_cases hw:ws=[]
 .exact concat_meets (_,aW,rfl) (_,D_,rfl) noFill_tuple_add seq_tuple_add aal abA (agY _ _)
   (tuple_addW1 t b vs.toArray ws.toArray n cg c9 PL aX Xy (by simpa using aM) (by simp[hw])) (aW,D_,af hw)
 .refine concat_meets (_,aW,rfl) (_,D_,rfl) noFill_tuple_add seq_tuple_add aal abA (agY _ _)
   (tuple_addW2 t b vs.toArray ws.toArray n cg c9 PL aX Xy (by simpa using aM) (by simpa using hw) (by rw[d2,d2];exact hsz)) (aW,D_,?_)
  rw[e];exact aj hw
noncomputable def c3(n d:Nat):Option Int->Nat
 |none=>d
 |some v=>if v<0 then(v+(n:Int)).toNat else min v.toNat n
def agT(n d:Nat):c3 n d none=d:=rfl
def abe(n d k:Nat):c3 n d (some (k:Int))=min k n:=by
 show(if(k:Int)<0 then((k:Int)+(n:Int)).toNat else min (k:Int).toNat n)=min k n;rw[if_neg (),pN]
theorem abl(n d:Nat)(hd:d<=n)(o:Option Int):c3 n d o<=n:=by
 cases o with
 |none=>exact hd
 |some v=>
  show(if v<0 then(v+(n:Int)).toNat else min v.toNat n)<=n;by_cases aM:v<0
  .rw [if_pos aM];omega
  .rw [if_neg aM];exact Nat.min_le_right _ _
def WV(v:Int)(n d:Nat):(if v<0 then max (v+(n:Int)) 0 else min v (n:Int))=((c3 n d (some v):Nat):Int):=by
 show(if v<0 then max (v+(n:Int)) 0 else min v (n:Int))=(((if v<0 then(v+(n:Int)).toNat else min v.toNat n):Nat):Int);by_cases aM:v<0
 .simp only[if_pos aM];omega
 .simp only[if_neg aM];omega
theorem akU(lo ao:Option Int)(n:Nat):R4 lo ao 1 (n:Int)=(p'p ((c3 n 0 lo:Nat):Int) ((c3 n n ao:Nat):Int)):=by
 have af:¬((1:Int)<0):=()
 unfold R4;simp only[af,if_false];refine Prod.ext ?_ ?_
 .cases lo with
  |none=>rfl
  |some v=>exact WV v n 0
 .cases ao with
  |none=>rfl
  |some v=>exact WV v n n
def ZL(i j:Nat):JS (i:Int) (j:Int) 1=j-i:=by
 unfold JS;have af:(1:Int)>0:=()
 simp only[af,if_true,aj3];split <;> omega
theorem Yo(p:IsPart v o)(h:Q o s):wpAny (model prog w) A (as7 v) Q E s:=by
 cases p with
 |none=>exact slicePart_none h
 |int i t=>exact slicePart_int h
def aiy{aX:Addr}{jJ jD:Value}{lo ao:Option Int}{n:Nat}{Q:Int×Int×Nat->Shared->Prop}(aB:s.heap.IsSliceOf aX jJ jD .none)(pl:IsPart jJ lo)(pu:IsPart jD ao)
  (h:Q (p'p ((c3 n 0 lo:Nat):Int) (p'p 1 (c3 n n ao-c3 n 0 lo))) s):wpAny (model prog w) A (apU ⇑aX (pure (n:Int))) Q E s:=by
 let(os,ze,kG,EU):=id aB;unfold apU as5;refine wpAny_bind (wpAny_bind (wpAny_field ze EU (x:=jJ) rfl (wpAny_bind (wpAny_field ze EU (x:=jD) rfl (wpAny_bind (wpAny_field ze EU (x:=.none) rfl (wpAny_pure ?_)))))));refine wpAny_bind (slicePart_none ?_);show wpAny _ _ (if((1:Int)==0)=true then _ else _) _ _ s;rw[if_neg ∅];refine wpAny_bind (Yo pl (wpAny_bind (Yo pu (wpAny_bind (wpAny_pure ?_)))));show wpAny _ _ (match R4 lo ao 1 (n:Int)with|(lo,ao)=>pure (p'p lo (p'p (1:Int) (JS lo ao 1)))) _ _ s;rw[akU lo ao n];show wpAny _ _ (pure (p'p ((c3 n 0 lo:Nat):Int) (p'p (1:Int) (JS ((c3 n 0 lo:Nat):Int) ((c3 n n ao:Nat):Int) 1)))) _ _ s;rw[ZL];exact wpAny_pure h
def ahP(xs:Array Value)(i k:Nat):((el k).filterMap λ(m:Nat)=>xs[((i:Int)+(m:Int)*1).toNat]?).toArray=((xs.toList.drop i).take k).toArray:=by
 have e:(λ(m:Nat)=>xs[((i:Int)+(m:Int)*1).toNat]?)=λm=>xs[i+m]?:=by
  funext m;have:((i:Int)+(m:Int)*1).toNat=i+m:=()
  rw[this]
 rw[e];have:=pick_run xs i k;rw[List.filterMap_map]at this;have aE:((λx=>xs[x]?) ∘ λx=>i+x)=λm=>xs[i+m]?:=rfl
 rw[aE]at this;rw[this]
theorem ahL{t aX:Addr}{items:Array Value}{jJ jD:Value}{lo ao:Option Int}{Q:Value->Shared->Prop}(cV:IsTup s.heap t items)(aB:s.heap.IsSliceOf aX jJ jD .none)(pl:IsPart jJ lo)(pu:IsPart jD ao)
  (hw:¬(c3 items.size 0 lo=0/\c3 items.size items.size ao=items.size))
  (h:Q (.ref ↥s) {s with heap:=s.heap.push {cls:=.type "tuple",data:=.seq ((items.toList.drop (c3 items.size 0 lo)).take (c3 items.size items.size ao-c3 items.size 0 lo)).toArray} })
  (hsz:items.size<=sizeLine):wpAny (model prog w) A (getItem ⇑t ⇑aX) Q E s:=by
 have AK:sizeOk (.seq ((items.toList.drop (c3 items.size 0 lo)).take (c3 items.size items.size ao-c3 items.size 0 lo)).toArray):=by
  show((items.toList.drop (c3 items.size 0 lo)).take (c3 items.size items.size ao-c3 items.size 0 lo)).toArray.size<=sizeLine;rw[d2,fw,ac3,l2];omega
 have aZ:c3 items.size items.size ao<=items.size:=abl _ _ (b0 _) ao;let(os,ze,kG,EU):=id aB;have ahN:s.TypeIs ⇑aX "slice":=(os,ze,kG);unfold getItem
 try with_reducible refine wpAny_holding ?_
 first|refine wpAny_bind (wpAny_pure ?_)|skip
 refine wpAny_bind (wpAny_sequenceKey cV.typeIs ∅ ?_);refine wpAny_bind (wpAny_callSpecial?_slot (name:=aa "__getitem__") cV.typeIs Xs
  (wpAny_call_entry Xs cV.typeIs entry_tuple_getitem ?_ (args_tuple_getitem _ _)))
 show wpAny _ _ (asj ⇑t >>= _) _ _ s;refine wpAny_bind (tupleItemsOf_ cV ?_);refine wpAny_bind (wpAny_typeOf ahN ?_);rw[if_pos ∅];refine wpAny_bind (aiy aB pl pu ?_);have sr:¬((((c3 items.size 0 lo:Nat):Int)==0&&(1:Int)==1&&(c3 items.size items.size ao-c3 items.size 0 lo)==items.size)=true):=by
  intro q;rw[jt,jt]at q;have bM:((c3 items.size 0 lo:Nat):Int)=0:=eq_of_beq q.1.1;have cP:c3 items.size items.size ao-c3 items.size 0 lo=items.size:=eq_of_beq q.2;exact hw ((),())
 show wpAny _ _ (if(((c3 items.size 0 lo:Nat):Int)==0&&(1:Int)==1&&(c3 items.size items.size ao-c3 items.size 0 lo)==items.size)=true then _ else _) _ _ s;rw[if_neg sr,ahP]
 first
  |exact wpAny_bind (m:=Gm _) (wpAny_newObj_type (wpAny_pure (_,rfl,wpAny_pure h)) AK)
  |exact wpAny_bind (m:=Gm _) (wpAny_newObj_type (wpAny_bind (wpAny_pure (wpAny_pure (_,rfl,wpAny_pure h)))) AK)
  |exact wpAny_bind (wpAny_bind (m:=Gm _) (wpAny_newObj_type (wpAny_pure (wpAny_pure (_,rfl,wpAny_pure h))) AK))
  |exact wpAny_bind (wpAny_bind (m:=Gm _) (wpAny_newObj_type (wpAny_pure (_,rfl,wpAny_pure h)) AK))
end
end fx
namespace L2
open PySem PySem.Spec PyProof.Rows
abbrev yf:=St->ar->(Option Int->ar->Prop)->Prop
def BD(X:a6)(e:Option Expr)(t:yf):Prop:=
 ∀(ab:List (Addr×Obj)) (s:Shared) (σ:St) (H:ar) (Q:Option Int->ar->Prop),Inv X ab σ H s->t σ H Q ->
  wpAny (model X.prog X.w) X.A (evalPart e X.env) (λu s'=>∃o I,Inv X ab σ I s'/\IsPart u o/\Q o I) X.df s
def NP:yf:=λ_ H Q=>Q none H
def Lb(t:TE):yf:=λσ H Q=>t σ H λx H1=>gg x λi=>Q (some i) H1
theorem amy{ns:List Int}:∀{us:List Value},bW (ns.map V.int) us->IntsAre us ns:=by
 induction ns with
 |nil=>intro us r;rw[gI]at r;cases r;exact .nil
 | cons n ns b9=>
  intro us r;rw[dZ]at r;cases r with
  |cons bX c4=>
   let(t,e):=bX;subst e;exact .cons n t (b9 c4)
section
variable{X:a6}{e:Expr}{bI:TE}{lo ao:Option Expr}{dp ja:yf}{pos dR:Pos}
def s6:BD X none NP:=by
 intro ab s σ H Q J h;rw[evalPart_none];exact wpAny_pure (none,H,J,.none,h)
def tC(h:bw X e bI):BD X (some e) (Lb bI):=by
 intro ab s σ H Q J hw;rw[evalPart_some];refine bG (h ab s σ H _ J hw) λu s1 cm=>eo cm λx H1 aU bX bM=>?_
 let(i,rfl,q):=gg.out bM;let(t,rfl):=bX;exact(some i,H1,aU,.int i t,q)
def DZ(X:a6)(r:V->Option Int->Option Int->ar->cz->Prop):Prop:=
 ∀(ab:List (Addr×Obj)) (s:Shared) (σ:St) (H:ar) (x:V) (v jJ jD:Value) (lo ao:Option Int) (aX:Addr) (Q:cz),Inv X ab σ H s->bN x v->s.heap.IsSliceOf aX jJ jD .none->IsPart jJ lo->IsPart jD ao->r x lo ao H Q ->
  ∃T id,typeLookup (.type T) "__getitem__"=pure (some (.builtin id))/\s.TypeIs v T/\wpAny (model X.prog X.w) X.A (getItem v ⇑aX) (gX X ab σ Q) X.df s
def KU(r:V->Option Int->Option Int->ar->cz->Prop)(bI:TE)(dp ja:yf):TE:=λσ H Q=>bI σ H λx H1=>dp σ H1 λl ay=>ja σ ay λu bq=>r x l u bq Q
def tE(au:DZ X r)(he:bw X e bI)(aw:BD X lo dp)(bx:BD X ao ja):bw X (.Subscript e (.Slice lo ao none dR) pos) (KU r bI dp ja):=by
 intro ab s σ H Q J h;refine Subscript_ (bG (he ab s σ H _ J h) λv s1 cm=>eo cm λx H1 aU bX bM=>?_);refine wpAny_Slice (bG (aw ab s1 σ H1 _ aU bM) λjJ s2 ⟨l,ay,bK,pl,cP⟩=>bG (bx ab s2 σ ay _ bK cP) λjD s3 ck=>?_);let(u,bq,eA,pu,eC):=ck;rw[evalPart_none];refine wpAny_pure ?_;have jT:Inv X ab σ bq {s3 with heap:=s3.heap.push {cls:=.type "slice",data:=.fields #[jJ,jD,.none]} }:=eA.kept (t':=s3.toks) λb b_ q=>dX _ q
 let(T,id,dN,cV,a0):=au ab {s3 with heap:=s3.heap.push {cls:=.type "slice",data:=.fields #[jJ,jD,.none]} } σ bq x v jJ jD l u ↥s3 Q jT bX (ara ..) pl pu eC;show wpAny (model X.prog X.w) X.A (subscriptTail e (.Slice lo ao none dR) v (.ref ↥s3)) (gX X ab σ Q) X.df {s3 with heap:=s3.heap.push {cls:=.type "slice",data:=.fields #[jJ,jD,.none]} };exact tail_any (ops:=[.ref ↥s3,v]) cV dN a0 (by with_unfolding_all rfl)
noncomputable def k_(xs:List V)(lo ao:Option Int):List V:=(xs.drop (fx.c3 ↑xs 0 lo)).take (fx.c3 ↑xs ↑xs ao-fx.c3 ↑xs 0 lo)
def Rz(xs:List V)(lo ao:Option Int):↑(k_ xs lo ao)<=↑xs:=by
 unfold k_;rw[fw,ac3];omega
def Y5(K:a'):V->Option Int->Option Int->ar->cz->Prop:=λx lo ao H Q=>∃a xs,x=⇑a/\b1 K H a xs /\
 ¬(fx.c3 ↑xs 0 lo=0/\fx.c3 ↑xs ↑xs ao=↑xs)/\∀p,H p=none->Q ⇑p (upd H p (.tup (k_ xs lo ao)))
def ZJ:DZ X (Y5 X.K):=by
 intro ab s σ H x v jJ jD lo ao aX Q J bh aB pl pu h;let(a,xs,rfl,ai,hw,q):=h;cases bh;let(a5,r,cV,ax):=J.tuple ai;have hlen:a5.toArray.size=↑xs:=by rw[d2];exact r.length.symm
 refine("tuple",_,Xs.lookup,cV.typeIs,?_);refine fx.ahL cV aB pl pu (by rw[hlen];exact hw) ?_ (by rw[hlen];exact ax);rw[hlen];refine(.ref ↥s,_,J.laid (t':=s.toks) (o:=.tup (k_ xs lo ao)) (λb b_ q=>dX _ q) (b0 _) ?_,rfl,q _ (J.bf.fresh (b0 _)));exact((cH (Rz xs lo ao) ax,_,e7 _ rfl,rfl),_,(r.drop (fx.c3 ↑xs 0 lo)).take (fx.c3 ↑xs ↑xs ao-fx.c3 ↑xs 0 lo),ajP _ _)
def Yd(K:a'):e9:=λx y H Q=>∃a b xs ys,x=⇑a/\y=⇑b/\b1 K H a xs/\b1 K H b ys/\xs≠[]/\↑xs+↑ys<=sizeLine /\
 (ys=[]->Q ⇑a H)/\(ys≠[]->∀p,H p=none->Q ⇑p (upd H p (.tup (xs++ys))))
theorem bW.Nv(r:bW xs us):us=[]↔xs=[]:=by
 cases r with
 |nil=>simp
 |cons _ _=>simp
def TU:gV X (binaryOp .Add) (Yd X.K):=by
 intro ab s σ H x y v u Q J bh bu h;let(a,b,xs,ys,rfl,rfl,aJ,ae,ai,ax,bM,cP):=h;cases bh;cases bu;let(a5,bX,dD,_):=J.tuple aJ;let(q2,c4,dR,_):=J.tuple ae;refine fx.anS dD dR (λz=>ai (bX.Nv.mp z)) (λz=>(⇑a,H,J,rfl,bM (c4.Nv.mp z))) (λz=>?_) (by rw[<- ↑bX,<- ↑c4];exact ax);refine(.ref ↥s,_,J.laid (t':=s.toks) (o:=.tup (xs++ys)) (λb b_ q=>dX _ q) (b0 _) ?_,rfl,cP (λw=>z (c4.Nv.mpr w)) _ (J.bf.fresh (b0 _)));exact((by rw[c'];exact ax,_,e7 _ rfl,rfl),_,bX.append c4,ajP _ _)
end
noncomputable def pn(n:Nat)(i:Int):Option Nat:=if 0<=i then(if i<n then some i.toNat else none)else if -(n:Int)<=i then some (i+n).toNat else none
noncomputable def eD{α:Type}(xs:List α)(i:Int):Option α:=(pn ↑xs i).bind λj=>xs[j]?
def RW(h:pn n i\j):seqIndex? i n\j/\j<n/\-(n:Int)<=i/\i<n:=by
 unfold pn at h;by_cases h0:0<=i
 .rw[if_pos h0]at h;by_cases af:i<n
  .rw [if_pos af]at h;have e:i.toNat=j:=d6 h;exact(by rw[seqIndex_of h0 af,e],(),(),af)
  .rw [if_neg af]at h;cases h
 .rw[if_neg h0]at h;by_cases af:-(n:Int)<=i
  .rw [if_pos af]at h;have e:(i+n).toNat=j:=d6 h;exact(by rw[seqIndex_neg () af,e],(),af,())
  .rw [if_neg af]at h;cases h
theorem I6(h:eD xs i\v):∃j,seqIndex? i ↑xs\j/\xs[j]?\v/\j<↑xs/\-(↑xs:Int)<=i/\i<↑xs:=by
 unfold eD at h;cases e:pn ↑xs i with
 |none=>rw[e]at h;cases h
 |some j=>
  rw[e]at h;let(af,aj,a_,b'):=RW e;exact(j,af,h,aj,a_,b')
def cO{α:Type}{xs:List α}{j:Nat}{v:α}(h:xs[j]?\v):eD xs (j:Int)\v:=by
 have aZ:j<↑xs:=(cv.mp h).1;have e:pn ↑xs (j:Int)\j:=by
  unfold pn;rw[if_pos (),if_pos ()];simp
 unfold eD;rw[e];exact h
def UZ(b:Expr):Prop:=∀o i,subscripted b false o i=operate [o,i] (getItem o i)
def Ae(X:a6)(r:e9):Prop:=
 ∀(value slice:Expr) (ab:List (Addr×Obj)) (s:Shared) (σ:St) (H:ar) (x y:V) (v u:Value) (Q:cz),Inv X ab σ H s->bN x v->bN y u->r x y H Q ->
  subscripted slice false v u=operate [v,u] (getItem v u)->wpAny (model X.prog X.w) X.A (subscriptTail value slice v u) (gX X ab σ Q) X.df s
def nv(X:a6)(id:String)(r:V->List V->ar->cz->Prop):Prop:=
 ∀(ab:List (Addr×Obj)) (s:Shared) (σ:St) (H:ar) (x:V) (xs:List V) (v:Value) (us:List Value) (Q:cz),Inv X ab σ H s->bN x v->bW xs us->r x xs H Q ->
  wpAny (model X.prog X.w) X.A (call (.builtin id) (v::us)) (gX X ab σ Q) X.df s
section
variable{X:a6}{a b:Expr}{a4 cy:TE}{pos:Pos}
def akc(au:Ae X r)(aJ:bw X a a4)(ae:bw X b cy)(aB:UZ b):bw X (.Subscript a b pos) (sJ r a4 cy):=by
 intro ab s σ H Q J h;exact Subscript_ (LL aJ ae J h λv u s2 x y ay bK bh bu q=>au a b ab s2 σ ay x y v u Q bK bh bu q (aB _ _))
def MY(K:a'):e9:=λx y H Q=>eV x λp=>∃xs,gg y λi=>aH K H p xs/\∃v,eD xs i\v/\Q v H
def K1(K:a'):e9:=λx y H Q=>eV x λp=>∃xs,gg y λi=>b1 K H p xs/\∃v,eD xs i\v/\Q v H
def Lc:e9:=λx y H Q=>∃z i c,x=.str z/\y=.int i/\↑z<=sizeLine/\eD z.cps.toList i\c/\Q (.str ⟨#[c]⟩) H
def dA:Ae X (MY X.K):=by
 intro value slice ab s σ H x y v u Q J bh bu h aB;let(p,rfl,xs,hK):=eV.out h;let(i,rfl,aF,z,he,q):=gg.out hK;cases bh;let(t,rfl):=bu;let(a5,r,pl,ax):=J.list aF;let(j,af,aj,a_,b',dn):=I6 he;let(w,l8,lP):=r.get aj;have aw:=↑r;have aL:=sH;have fin:gX X ab σ Q w s:=(z,H,J,lP,q);by_cases h0:0<=i
 .have aZ:i.toNat=j:=by
   rw[seqIndex_of h0 dn]at af;exact d6 af
  exact item_listR pl.isList h0 () (by rw[aZ];simpa using l8) fin aB
 .have aZ:(i+(a5.toArray.size:Int)).toNat=j:=by
   rw[seqIndex_neg () b']at af;rw[d2,<- aw];exact d6 af
  exact subscriptTail_builtinR (x:=w) pl.isList.typeIs slot_list_getitem.lookup
   (wpAny_getItem_list_neg (Q:=λr s'=>r=w/\gX X ab σ Q r s') pl.isList () (by rw[d2] <;> omega) () (by rw[aZ];simpa using l8) (rfl,fin)) aB
def dT:Ae X (K1 X.K):=by
 intro value slice ab s σ H x y v u Q J bh bu h aB;let(p,rfl,xs,hK):=eV.out h;let(i,rfl,aF,z,he,q):=gg.out hK;cases bh;let(t,rfl):=bu;let(a5,r,pl,ax):=J.tuple aF;let(j,af,aj,a_,b',dn):=I6 he;let(w,l8,lP):=r.get aj;have aw:=↑r;have aL:=sH;have fin:gX X ab σ Q w s:=(z,H,J,lP,q);exact subscriptTail_builtinR (x:=w) pl.typeIs slot_tuple_getitem.lookup
  (getItem_tuple (j:=j) (Q:=λr s'=>r=w/\gX X ab σ Q r s') pl () () (by rw[d2,<- aw];exact af) (by simpa using l8) (rfl,fin)) aB
def Fs:Ae X Lc:=by
 intro value slice ab s σ H x y v u Q J bh bu h aB;let(z,i,c,rfl,rfl,ax,he,q):=h;let(t,rfl):=bh;let(t',rfl):=bu;let(j,af,aj,a_,b',dn):=I6 he;have aw:↑z.cps.toList=↑z:=by simp[n5]
 rw[aw]at af b' dn;have aL:=sH;exact tail_any (typeIs_str s z t) slot_str_getitem.lookup (getItem_str (c:=c) (by
  have az:decide (i < -(2 ^ 63:Int))=false:=decide_eq_false ();have aE:decide (i≥2 ^ 63)=false:=decide_eq_false ();rw[az,aE,J0]) (by rw[af];simpa using aj) (.str ⟨#[c]⟩,H,J.tok _,(_,rfl),q)) aB
def aeF(a5:List Value)(n j:Nat)(u:Value):tx (·.setIfInBounds j u) {cls:=.type "list",data:=.seq a5.toArray n}={cls:=.type "list",data:=.seq (a5.set j u).toArray n}:=by
 simp[tx]
theorem Inv.lst{p:Addr}(J:Inv X ab σ H s)(h:H p\(.lst xs)) :
  ∃(a5:List Value) (n:Nat),bW xs a5/\s.heap.get? p=some {cls:=.type "list",data:=.seq a5.toArray n}/\↑xs<=sizeLine:=by
 let(z,a5,n,r,e):=J.bf p _ h;exact(a5,n,r,e,z)
def Inv.agf{p:Addr}{a5 its':List Value}(J:Inv X ab σ H s)(h:H p\(.lst xs))
  (aW:s.heap.get? p=some {cls:=.type "list",data:=.seq a5.toArray n}) (hf:f {cls:=.type "list",data:=.seq a5.toArray n}={cls:=.type "list",data:=.seq its'.toArray fK}) (r:bW ys its') (ax:↑ys<=sizeLine) (t:Nat) :
  Inv X ab σ (upd H p (.lst ys)) {s with heap:=s.heap.update p f,toks:=t}:=by
 have e:(s.heap.update p f).get? p=some {cls:=.type "list",data:=.seq its'.toArray fK}:=by
  rw[nG f aW (by rw[hf] <;> rfl),hf]
 refine J.write (x:=p) (e:=p) (by rw[h];trivial) (.inl rfl) (λb u ae q=>(kn _ _ (dB ae)).trans q) (_,e) ?_;exact(ax,its',fK,r,e)
def Lr:V->V->V->ar->(ar->Prop)->Prop:=λo i v H Q=>eV o λp=>∃xs,gg i λk=>H p\(.lst xs)/\∃j,pn ↑xs k\j/\Q (upd H p (.lst (xs.set j v)))
def u9:PW X Lr:=by
 intro ab s σ H o i v di jq u Q J eK yP cf h;let(p,rfl,xs,hK):=eV.out h;let(k,rfl,aq,j,aZ,q):=gg.out hK;cases eK;let(t,rfl):=yP;let(a5,n,r,aW,ax):=J.lst aq;let(af,aj,a_,b'):=RW aZ;have aw:=↑r;have aL:=sH;have jZ:Inv X ab σ (upd H p (.lst (xs.set j v))) {s with heap:=s.heap.update p (tx (·.setIfInBounds j u))}:=
  J.agf aq aW (aeF a5 n j u) (r.set cf j) (by rw[DF];exact ax) s.toks
 by_cases h0:0<=k
 .have aI:k.toNat=j:=by
   rw[seqIndex_of h0 b']at af;exact d6 af
  exact PySem.W.ki_setAt aW h0 () (by rw[d2,<- aw];exact b') (by rw[aI];exact(_,jZ,q))
 .have aI:(k+(a5.toArray.size:Int)).toNat=j:=by
   rw[seqIndex_neg () a_]at af;rw[d2,<- aw];exact d6 af
  exact PySem.W.ki_setBack aW () (by rw[d2,<- aw];exact a_) () (by rw[aI];exact(_,jZ,q))
theorem ac7(lo ao:Option Int)(n:Nat):(sliceBounds lo ao none n).1=((fx.c3 n 0 lo:Nat):Int)/\(sliceBounds lo ao none n).2.1=((fx.c3 n n ao:Nat):Int)/\(sliceBounds lo ao none n).2.2=1:=by
 refine(?_,?_,rfl)
 .cases lo with
  |none=>simp[sliceBounds,fx.c3]
  |some i=>
   simp only[sliceBounds,fx.c3,ahv,(∅:(1:Int)>0),if_true];by_cases h:i<0
   .simp only[h,if_true] <;> omega
   .simp only[h,if_false] <;> omega
 .cases ao with
  |none=>simp[sliceBounds,fx.c3]
  |some i=>
   simp only[sliceBounds,fx.c3,ahv,(∅:(1:Int)>0),if_true];by_cases h:i<0
   .simp only[h,if_true] <;> omega
   .simp only[h,if_false] <;> omega
def amm(a5:List Value)(lo ao:Option Int):slicePick a5.toArray lo ao none=((a5.drop (fx.c3 ↑a5 0 lo)).take (fx.c3 ↑a5 ↑a5 ao-fx.c3 ↑a5 0 lo)).toArray:=by
 let(af,aj,a_):=ac7 lo ao a5.toArray.size;unfold slicePick;rw[af,aj,a_];simp only[sliceRange_one,pick_run,d2] <;> rfl
def KO(K:a'):V->Option Int->Option Int->ar->cz->Prop:=λx lo ao H Q=>∃a xs,x=⇑a/\aH K H a xs/\∀p,H p=none->Q ⇑p (upd H p (.lst (k_ xs lo ao)))
def H6:DZ X (KO X.K):=by
 intro ab s σ H x v jJ jD lo ao aX Q J bh aB pl pu h;let(a,xs,rfl,ai,q):=h;cases bh;let(a5,r,cV,ax):=J.list ai;have hlen:=↑r;refine("list",_,slot_list_getitem.lookup,cV.isList.typeIs,?_);refine wpAny_getItem_list_slice cV.isList aB pl pu .none (by simp) ?_ (by rw[d2] <;> omega);rw[amm,<- hlen];refine(.ref ↥s,_,J.laid (t':=s.toks) (o:=.lst (k_ xs lo ao)) (λb b_ q=>dX _ q) (b0 _) ?_,rfl,q _ (J.bf.fresh (b0 _)));exact(cH (Rz xs lo ao) ax,_,0,(r.drop (fx.c3 ↑xs 0 lo)).take (fx.c3 ↑xs ↑xs ao-fx.c3 ↑xs 0 lo),e7 _ rfl)
noncomputable def kx:V->Bool
 | .b4=>true
 | .bE _=>true
 | .int _=>true
 | .str _=>true
 |_=>false
noncomputable def i8:V->V->Bool
 | .b4,.b4=>true
 | .bE a,.bE b=>a==b
 | .bE a,.int b=>(if a then 1 else 0)==b
 | .int a,.bE b=>a==(if b then 1 else 0)
 | .int a,.int b=>a==b
 | .str a,.str b=>a==b
 |_,_=>false
theorem OG{A:Around}{y x:V}(bu:bN y u)(bh:bN x v)(abz:kx y=true)(l0:kx x=true):LA A s u v (i8 y x):=by
 cases y with
 |b4=>
  cases bu;cases x with
  |b4=>cases bh;exact VY _
  |bE b=>cases bh;exact SeqAt.EqAt.none_bool b
  |int b=>let(t,rfl):=bh;exact SeqAt.EqAt.none_int b t
  |str b=>let(t,rfl):=bh;exact SeqAt.EqAt.none_str b t
  |_=>exact absurd (show false=true from l0) gZ
 |bE a=>
  cases bu;cases x with
  |b4=>cases bh;exact SeqAt.EqAt.bool_none a
  |bE b=>cases bh;exact SeqAt.EqAt.bool_bool a b
  |int b=>let(t,rfl):=bh;exact SeqAt.EqAt.bool_int a b t
  |str b=>let(t,rfl):=bh;exact SeqAt.EqAt.bool_str a b t
  |_=>exact absurd (show false=true from l0) gZ
 |int a=>
  let(t',rfl):=bu;cases x with
  |b4=>cases bh;exact SeqAt.EqAt.int_none a t'
  |bE b=>cases bh;exact SeqAt.EqAt.int_bool a t' b
  |int b=>let(t,rfl):=bh;exact SeqAt.EqAt.int_int a t' b t
  |str b=>let(t,rfl):=bh;exact anf a t' b t
  |_=>exact absurd (show false=true from l0) gZ
 |str a=>
  let(t',rfl):=bu;cases x with
  |b4=>cases bh;exact SeqAt.EqAt.str_none a t'
  |bE b=>cases bh;exact SeqAt.EqAt.str_bool a t' b
  |int b=>let(t,rfl):=bh;exact anL a t' b t
  |str b=>let(t,rfl):=bh;exact SeqAt.EqAt.str_str a t' b t
  |_=>exact absurd (show false=true from l0) gZ
 |_=>exact absurd (show false=true from abz) gZ
noncomputable def kv(x:V)(u:Value):Bool:=match u with
 | .none=>i8 .b4 x
 | .bool b=>i8 (.bE b) x
 | .int i _=>i8 (.int i) x
 | .str z _=>i8 (.str z) x
 |_=>false
theorem XM{x y:V}(r:bN y u)(f:kx y=true):kv x u=i8 y x:=by
 cases y with
 |b4=>cases r;rfl
 |bE b=>cases r;rfl
 |int i=>let(t,rfl):=r;rfl
 |str z=>let(t,rfl):=r;rfl
 |_=>exact absurd (show false=true from f) gZ
theorem xa{x:V}:∀{xs:List V} {us:List Value},bW xs us->xs.all kx=true->us.any (kv x)=xs.any λy=>i8 y x
 |_,_,.nil,_=>rfl
 |y::xs,u::us,.cons r t,f=>by
  rw[anm,jt]at f;rw[rR,rR,XM r f.1,xa t f.2]
theorem yU{A:Around}{x:V}(bh:bN x v)(l0:kx x=true):∀{xs:List V} {us:List Value},bW xs us->xs.all kx=true->∀u∈us,LA A s u v (kv x u)
 |_,_,.nil,_=>λu bx=>by cases bx
 |y::xs,u::us,.cons r t,f=>λig bx=>by
  rw[anm,jt]at f;rcases cT.mp bx with rfl|bx
  .rw [XM r f.1];exact OG r bh f.1 l0
  .exact yU bh l0 t f.2 ig bx
noncomputable def mm(x:V)(xs:List V):Bool:=xs.any λy=>i8 y x
def AR(K:a')(neg:Bool):e9:=λx y H Q=>∃p xs,y=⇑p/\(aH K H p xs\/b1 K H p xs)/\kx x=true/\xs.all kx=true/\Q (.bE (if neg then !mm x xs else mm x xs)) H
def rm:gV X (compareOp .In) (AR X.K false):=by
 intro ab s σ H x y v u Q J bh bu h;let(p,xs,rfl,aF,l0,aR,q):=h;cases bu;rcases aF with aF|aF
 .let(a5,r,pl,ax):=J.list aF;refine SeqAt.in_listAt (kv x) pl.isList (λw hw=>yU bh l0 r aR w (by simpa using hw)) (.bE _,H,J,rfl,?_);rw[show a5.toArray.any (kv x)=a5.any (kv x)by simp,xa r aR];exact q
 .let(a5,r,pl,ax):=J.tuple aF;refine SeqAt.in_tupleAt (kv x) pl (λw hw=>yU bh l0 r aR w (by simpa using hw)) (.bE _,H,J,rfl,?_);rw[show a5.toArray.any (kv x)=a5.any (kv x)by simp,xa r aR];exact q
def XK:gV X (compareOp .NotIn) (AR X.K true):=by
 intro ab s σ H x y v u Q J bh bu h;let(p,xs,rfl,aF,l0,aR,q):=h;cases bu;rcases aF with aF|aF
 .let(a5,r,pl,ax):=J.list aF;refine SeqAt.notIn_listAt (kv x) pl.isList (λw hw=>yU bh l0 r aR w (by simpa using hw)) (.bE _,H,J,rfl,?_);rw[show a5.toArray.any (kv x)=a5.any (kv x)by simp,xa r aR];exact q
 .let(a5,r,pl,ax):=J.tuple aF;refine SeqAt.notIn_tupleAt (kv x) pl (λw hw=>yU bh l0 r aR w (by simpa using hw)) (.bE _,H,J,rfl,?_);rw[show a5.toArray.any (kv x)=a5.any (kv x)by simp,xa r aR];exact q
def iM:lh X (.builtin "len") (λxs H Q=>mI xs λx=>eV x λp=>∃ys,(aH X.K H p ys\/b1 X.K H p ys)/\Q (.int ↑ys) H):=by
 intro ab s σ H xs us Q J r h;let(ade,rfl,hK):=mI.out h;let(p,rfl,ys,aF,q):=eV.out hK;let(u,rfl,bh):=k1 r;cases bh;have aL:=sH;rcases aF with aF|aF
 .let(a5,dE,pl,ax):=J.list aF;have hlen:=↑dE;exact Calls.call_len_list pl.isList (by simp only[d2] <;> omega) (.int ↑ys,H,J.tok _,(s.toks+1,by rw[d2,hlen]),q)
 .let(a5,dE,pl,ax):=J.tuple aF;have hlen:=↑dE;exact len_tuple pl (by simp only[d2] <;> omega) (.int ↑ys,H,J.tok _,(s.toks+1,by rw[d2,hlen]),q)
def T8:lh X (.builtin "len") (λxs H Q=>∃z,xs=[.str z]/\↑z<=sizeLine/\Q (.int ↑z) H):=by
 intro ab s σ H xs us Q J r h;let(z,rfl,ax,q):=h;let(u,rfl,t,rfl):=k1 r;have aL:=sH;exact len_str () (.int ↑z,H,J.tok _,(_,rfl),q)
def CI(K:a')(T:String)(x:V)(H:ar):Prop:=match x with
 | .str _=>T="str"
 | .int _=>T="int"
 | .ref p=>(T="list"/\∃xs,aH K H p xs)\/(T="tuple"/\∃o,K.lookup p\o/\o.cls=.type "tuple"/\o.dict=none) \/
   (T="dict"/\((∃kvs,H p\(.bL kvs))\/∃kvs,H p\(.kC kvs)))\/(T="set"/\∃S n,H p\(.set S n))
 |_=>False
theorem P'{x:V}(J:Inv X ab σ H s)(r:bN x v)(ty:CI X.K T x H) :
  s.TypeIs v T/\∀a,v=⇑a->∃b_,s.heap.get? a\b_/\b_.dict=none:=by
 cases x with
 |str z=>
  let(t,rfl):=r;cases(show T="str" from ty);exact(typeIs_str s z t,λ_ e=>nomatch e)
 |int i=>
  let(t,rfl):=r;cases(show T="int" from ty);exact(typeIs_int s i t,λ_ e=>nomatch e)
 | ref p=>
  cases r;rcases ty with⟨rfl,xs,aF⟩|⟨rfl,o,aI,ah,hd⟩|⟨rfl,aI⟩|⟨rfl,S,n,aI⟩
  .let(a5,_,pl,_):=J.list aF;refine(pl.isList.typeIs,λa e=>?_);cases e;let(o,n,e,c,hd,_):=pl;exact(o,e,hd)
  .refine ((o,J.es p o aI,ah),λa e=>?_);cases e;exact(o,J.es _ o aI,hd)
  .have z:∃o,s.heap.get? p\o/\o.ExactDict:=by
    rcases aI with⟨kvs,aI⟩|⟨kvs,aI⟩
    .let(_,_,_,_,o,_,_,e,ex,_):=J.bf p _ aI;exact(o,e,ex)
    .let(_,_,_,_,o,_,_,e,ex,_):=J.bf p _ aI;exact(o,e,ex)
   let(o,e,ex):=z;refine((o,e,ex.1),λa aE=>?_);cases aE;exact(o,e,ex.2.1)
  .let(o,_,_,_,e,ex,_):=J.bf p _ aI;refine((o,e,ex.1),λa aE=>?_);cases aE;exact(o,e,ex.2.1)
 |_=>exact ky ty
def JO(K:a')(T:String)(r:V->List V->ar->cz->Prop)(to:TE):TE:=λσ H Q=>to σ H λx H1=>CI K T x H1/\r x [] H1 Q
def Ld(K:a')(T:String)(r:V->List V->ar->cz->Prop)(to:TE)(t:eE):TE:=λσ H Q=>to σ H λx H1=>CI K T x H1/\t σ H1 λxs ay=>r x xs ay Q
variable{o e:Expr}{aK:List Expr}{to:TE}{t:eE}{name:Str}{eR ip:Pos}{T id:String}{r:V->List V->ar->cz->Prop}
def Nc(J5:PlainAttrs T)(slot:Slot T name id)(GO:typeOf (.builtin id)=pure (.type "method_descriptor"))(hm:nv X id r)(aW:bw X o to)
  (Hr:attributeBase o name X.env (eval o X.env)=eval o X.env:=by rfl) (NV:(eR.endLine==ip.line)=true:=by rfl):bw X (.Call (.Attribute o name eR) [] [] ip) (JO X.K T r to):=by
 intro ab s σ H Q J h;refine wpAny_Call_method0_late Hr NV (bG (aW ab s σ H _ J h) λv s1 ck=>?_);let(x,H1,aU,bX,ty,bM):=ck;let(af,aj):=P' aU bX ty;exact(T,id,J5,slot,GO,af,aj,ZX rfl (PySem.evalArgs_none (hm ab s1 σ H1 x [] v [] Q aU bX .nil bM)))
def gL(J5:PlainAttrs T)(slot:Slot T name id)(GO:typeOf (.builtin id)=pure (.type "method_descriptor"))(hm:nv X id r)(aW:bw X o to)(aJ:da X (e::aK) t)
  (Hr:attributeBase o name X.env (eval o X.env)=eval o X.env:=by rfl)
  (aga:((backTo ip (starEach (e::aK) X.env)).all (λx=>!x.1)&&(backToKw ip (keywordEach [] X.env)).all (λx=>x.1.isSome)
   && decide (↑(e::aK)+↑([]:List Keyword)+(if([]:List Keyword).isEmpty then 0 else 1)<30))=true:=by rfl)
  (NV:(eR.endLine==ip.line)=true:=by rfl) (aB:starEach (e::aK) X.env=(p'p false (eval e X.env))::starEach aK X.env:=by rfl) (hplain:(backTo ip (starEach aK X.env)).any (·.1)=false:=by rfl) :
  bw X (.Call (.Attribute o name eR) (e::aK) [] ip) (Ld X.K T r to t):=by
 intro ab s σ H Q J h;refine wpAny_Call_method_late Hr aga NV rfl (bG (aW ab s σ H _ J h) λv s1 ck=>?_);let(x,H1,aU,bX,ty,bM):=ck;let(af,aj):=P' aU bX ty;refine(T,id,J5,slot,GO,af,aj,?_);have f':=aJ ip ab s1 σ H1 _ aU bM;rw[aB]at f'⊢;refine ZX (by show(false||(backTo ip (starEach aK X.env)).any (·.1))=false;rw[hplain] <;> rfl) (Calls.evalArgs_plain ?_);exact bG f' λus s2 ⟨vs,ay,bK,c4,cP⟩=>hm ab s2 σ ay x vs v us Q bK bX c4 cP
end
def R_(X:a6)(id:String)(r:V->List V->ar->cz->Prop):Prop:=
 ∀(ab:List (Addr×Obj)) (s:Shared) (σ:St) (H:ar) (x:V) (xs:List V) (v:Value) (us:List Value) (Q:cz),Inv X ab σ H s->bN x v->bW xs us->r x xs H Q ->
  wpAny (model X.prog X.w) X.A (call (.builtin id) (v::us)) (gX X ab σ Q) X.df s
theorem bW.one:∀{x:V} {us:List Value},bW [x] us->∃u,us=[u]/\bN x u
 |_,_,.cons r .nil=>(_,rfl,r)
section
variable{X:a6}{ab:List (Addr×Obj)}{σ:St}{H:ar}{s:Shared}{l b:Addr}{xs ys zs:List V}
def Inv.Sh{a5 its':List Value}(J:Inv X ab σ H s)(lN:H l\(.lst xs))
  (e:s.heap.get? l=some {cls:=.type "list",data:=.seq a5.toArray n}) (hf:f a5.toArray=its'.toArray) (aM:bW ys its') (ax:↑ys<=sizeLine) :
  Inv X ab σ (upd H l (.lst ys)) {s with heap:=s.heap.update l (tx f),toks:=t' }:=by
 have q:=PySem.IsL.update e f;rw[hf]at q;refine J.write (x:=l) (e:=l) (by rw[lN];exact trivial) (.inl rfl) (λjy u ae bx=>(kn s.heap (tx f) (dB ae)).trans bx) (_,q) ?_;exact(ax,its',_,aM,q)
def Inv.agu{a5:List Value}(J:Inv X ab σ H s)(aM:bW ys a5)(ax:↑ys<=sizeLine) :
  Inv X ab σ (upd H ↥s (.lst ys)) {s with heap:=s.heap.push {cls:=.type "list",data:=.seq a5.toArray},toks:=t' }:=
 J.laid (λ_ _ q=>dX _ q) (b0 _) (ax,a5,0,aM,e7 _ rfl)
theorem Inv.fresh(J:Inv X ab σ H s):H ↥s=none:=J.bf.fresh (b0 _)
def Inv.xW(J:Inv X ab σ H s)(lN:H l\(.lst xs)):↑xs<=sizeLine/\∃(a5:List Value) (n:Nat),bW xs a5/\↑xs=↑a5/\s.heap.get? l=some {cls:=.type "list",data:=.seq a5.toArray n}:=by
 let(z,a5,n,r,e):=J.bf l _ lN;exact(z,a5,n,r,↑r,e)
def ao7(h:n<=sizeLine):SK n=false:=by
 unfold SK;exact decide_eq_false ()
end
section
variable{X:a6}
def FQ:V->List V->ar->cz->Prop:=λx vs H Q=>eV x λl=>mI vs λy=>∃xs,H l\(.lst xs)/\↑xs<sizeLine/\Q .b4 (upd H l (.lst (xs++[y])))
def qJ:R_ X "list.append" FQ:=by
 intro ab s σ H x vs v us Q J bh cf h;let(l,rfl,hK):=eV.out h;let(y,rfl,xs,lN,ax,q):=mI.out hK;cases bh;let(u,rfl,ed):=cf.one;let(z,a5,n,r,aw,e):=J.xW lN;refine call_meets qK (_,e,rfl) F.entry_list_append (F.args_list_append_2 _ _) (PySem.list_append l a5.toArray n u (by rw[d2];omega)) (e,?_);refine(.b4,_,J.Sh (its':=a5++[u]) lN e (by simp) (r.append (.cons ed .nil)) ?_,rfl,q);rw[c',CQ];omega
def Ic:V->List V->ar->cz->Prop:=λx vs H Q=>∃l b xs zs,x=⇑l/\vs=[⇑b]/\H l\(.lst xs)/\H b\(.lst zs)/\↑xs+↑zs<=sizeLine/\Q .b4 (upd H l (.lst (xs++zs)))
def ahp:R_ X "list.extend" Ic:=by
 intro ab s σ H x vs v us Q J bh cf h;let(l,b,xs,zs,rfl,rfl,lN,gT,ax,q):=h;cases bh;let(u,rfl,ed):=cf.one;cases ed;let(z,a5,n,r,aw,e):=J.xW lN;let(dF,q2,cg,c4,q3,aE):=J.xW gT;have hsz:a5.toArray.size+q2.toArray.size<=sizeLine:=by rw[d2,d2];omega
 have af8:¬(!a5.toArray.isEmpty&&SK (a5.toArray.size+q2.toArray.size))=true:=by
  rw[ao7 hsz,ac0];exact gZ
 refine call_meets al' (_,e,rfl) F.entry_list_extend (F.args_list_extend_2 _ _)
  (AutoSeq1.list_extend_list_list_0 l a5.toArray n b q2.toArray cg af8 (by rw[d2];omega) ()) (e,aE,?_)
 refine(.b4,_,J.Sh (its':=a5++q2) lN e (by simp) (r.append c4) ?_,rfl,q);rw[c'];omega
def JJ:e9:=λx y H Q=>∃l b xs zs,x=⇑l/\y=⇑b/\H l\(.lst xs)/\H b\(.lst zs)/\↑xs+↑zs<=sizeLine/\∀p,H p=none->Q ⇑p (upd H p (.lst (xs++zs)))
def ajh:gV X (binaryOp .Add) JJ:=by
 intro ab s σ H x y v u Q J bh bu h;let(l,b,xs,zs,rfl,rfl,lN,gT,ax,q):=h;cases bh;cases bu;let(z,a5,n,r,aw,e):=J.xW lN;let(dF,q2,cg,c4,q3,aE):=J.xW gT;refine PySem.P.add_list e aE ?_ (by rw[d2,d2];omega);have cK:a5.toArray++q2.toArray=(a5++q2).toArray:=by simp
 rw[cK];exact(⇑_,_,J.agu (t':=s.toks) (r.append c4) (by rw[c'];omega),rfl,q _ J.fresh)
end
section
variable{fo:Type}[DecidableEq fo]
noncomputable def c6(kvs:List (fo×V))(k:fo):Option V:=(kvs.find? λc2=>decide (c2.1=k)).map (·.2)
noncomputable def eN(kvs:List (fo×V))(k:fo)(v:V):List (fo×V):=
 if(kvs.any λc2=>decide (c2.1=k))=true then kvs.map (λc2=>if c2.1=k then(p'p c2.1 v)else c2)else kvs++[(p'p k v)]
def nB{p:fo×V}{k:fo}(e:p.1=k):c6 (p::r) k\p.2:=by simp[c6,oo,e]
def mZ{p:fo×V}{k:fo}(e:¬p.1=k):c6 (p::r) k=c6 r k:=by simp[c6,oo,e]
theorem yq(k:fo):∀kvs:List (fo×V),(kvs.any λc2=>decide (c2.1=k))=(c6 kvs k).isSome
 |[]=>rfl
 |p::r=>by
  rw[rR];by_cases e:p.1=k
  .simp only[nB e,decide_eq_true e,ug,Option.isSome_some]
  .rw [mZ e,decide_eq_false e,ov];exact yq k r
theorem QL(k j:fo)(y:V):∀kvs:List (fo×V),c6 (kvs.map λc2=>if c2.1=k then(p'p c2.1 y)else c2) j=(c6 kvs j).map λx=>if j=k then y else x
 |[]=>rfl
 | p::r=>by
  have b9:=QL k j y r;rw[dZ];by_cases h:p.1=k
  .rw[if_pos h];by_cases e:p.1=j
   .rw [nB (p:=(p'p p.1 y)) e,nB e,Kc,if_pos (e.symm.trans h)]
   .rw [mZ (p:=(p'p p.1 y)) e,mZ e,b9]
  .rw[if_neg h];by_cases e:p.1=j
   .rw [nB (p:=p) e,nB e,Kc,if_neg (λz=>h (e.trans z))]
   .rw [mZ (p:=p) e,mZ e,b9]
theorem Ss(k j:fo)(y:V):∀kvs:List (fo×V),c6 kvs k=none->c6 (kvs++[(p'p k y)]) j=if j=k then some y else c6 kvs j
 |[],_=>by
  by_cases e:k=j
  .rw [if_pos e.symm];exact nB (p:=(p'p k y)) e
  .rw [if_neg (λz=>e z.symm)];exact mZ (p:=(p'p k y)) e
 |p::r,aL=>by
  rw[kO];have aI:¬p.1=k:=λz=>by rw[nB z]at aL;cases aL
  rw[mZ aI]at aL;have b9:=Ss k j y r aL;by_cases e:p.1=j
  .rw [nB e,nB e,if_neg (λz=>aI (e.trans z))]
  .rw [mZ e,mZ e,b9]
theorem aan(kvs:List (fo×V))(k j:fo)(y:V):c6 (eN kvs k y) j=if j=k then some y else c6 kvs j:=by
 unfold eN;by_cases a:(kvs.any λc2=>decide (c2.1=k))=true
 .rw[if_pos a,QL];rw[yq]at a;by_cases e:j=k
  .let(x,ai):=ak0.mp a;rw[if_pos e,e,ai,Kc,if_pos rfl]
  .rw[if_neg e];cases c6 kvs j with
   |none=>rfl
   |some x=>rw[Kc,if_neg e]
 .rw[if_neg a];refine Ss k j y kvs ?_;rw[yq]at a;cases q:c6 kvs k with
  |none=>rfl
  |some x=>rw[q]at a;exact(a rfl).elim
def Jp(kvs:List (fo×V))(k:fo)(v:V):↑(eN kvs k v)<=↑kvs+1:=by
 unfold eN;split
 .rw [a9];omega
 .rw [c',gw,uZ];omega
def tP{k:fo}(v:V)(h:c6 kvs k=none):eN kvs k v=kvs++[(p'p k v)]:=by
 unfold eN;rw[yq,h];exact if_neg ∅
theorem iG.ND(r:iG o u):o.isSome=u.isSome:=by
 cases o with
 |none=>cases u with
  |none=>rfl
  |some _=>exact(show False from r).elim
 |some _=>cases u with
  |none=>exact(show False from r).elim
  |some _=>rfl
theorem e1.val(r:e1 kvs vs)(k:fo):iG (c6 kvs k) (valueAt vs k):=by
 unfold e1 at r
 induction r with
 |nil=>exact kB
 | @cons p q ps qs h t b9=>
  let(af,aj):=h;by_cases e:p.1=k
  .have bZ:q.1=k:=af.symm.trans e;have b:valueAt (q::qs) k\q.2:=by simp[valueAt,oo,bZ]
   rw[nB e,b];exact aj
  .have bZ:¬q.1=k:=λz=>e (af.trans z)
   have b:valueAt (q::qs) k=valueAt qs k:=by simp[valueAt,oo,bZ]
   rw[mZ e,b];exact b9
theorem e1.any(r:e1 kvs vs)(k:fo):(kvs.any λc2=>decide (c2.1=k))=vs.any λc2=>decide (c2.1=k):=by
 unfold e1 at r
 induction r with
 |nil=>rfl
 |cons h t b9=>rw[rR,rR,b9,h.1]
theorem e1.Lh(r:e1 kvs vs)(k:fo)(bu:bN y u) :
  e1 (kvs.map λc2=>if c2.1=k then(p'p c2.1 y)else c2) (vs.map λc2=>if c2.1=k then(p'p c2.1 u)else c2):=by
 unfold e1 at r⊢
 induction r with
 |nil=>exact .nil
 | @cons p q ps qs h t b9=>
  rw[dZ,dZ];refine .cons ?_ b9;let(af,aj):=h;by_cases e:p.1=k
  .rw [if_pos e,if_pos (af.symm.trans e)];exact(af,bu)
  .rw [if_neg e,if_neg (λz=>e (af.trans z))];exact(af,aj)
def e1.put(r:e1 kvs vs)(k:fo)(bu:bN y u):e1 (eN kvs k y) (stored vs k u):=by
 unfold eN stored;rw[r.any k];by_cases e:(vs.any λc2=>decide (c2.1=k))=true
 .rw [if_pos e,if_pos e];exact r.Lh k bu
 .rw [if_neg e,if_neg e];exact Vz r (rfl,bu)
def e1.length(r:e1 kvs vs):↑kvs=↑vs:=GF r
end
theorem yn{w:World}{k:Key}(r:bN (dC k) u):(hh P w).is k u=true:=by
 cases k with
 |inl i=>let(t,e):=(show ∃t,u=lJ i t from r);subst e;exact acb P w i t
 |inr x=>let(t,e):=(show ∃t,u=qF x t from r);subst e;exact ap' P w x t
theorem S0{w:World}:∀{bF:List Key} {us:List Value},bW (bF.map dC) us->ItemsAre (hh P w) bF us
 |[],_,r=>by rw[gI]at r;cases r;exact .nil
 |k::bF,_,r=>by
  rw[dZ]at r;cases r with
  |cons h t=>exact .cons (yn h) (S0 t)
abbrev KT(H:ar):List (List Key×V)->List (List Key×Addr×Value)->Prop:=Paired λp q=>p.1=q.1/\H q.2.1\(.tup (p.1.map dC))/\bN p.2 q.2.2
theorem KT.val(r:KT H kvs xs)(k:List Key):iG (c6 kvs k) ((atKey xs k).map (·.2)):=by
 induction r with
 |nil=>exact kB
 | @cons p q ps qs h t b9=>
  let(af,_,aj):=h;by_cases e:p.1=k
  .have bZ:q.1=k:=af.symm.trans e;have b:atKey (q::qs) k\q.2:=by simp[atKey,oo,bZ]
   rw[nB e,b];exact aj
  .have bZ:¬q.1=k:=λz=>e (af.trans z)
   have b:atKey (q::qs) k=atKey qs k:=by simp[atKey,oo,bZ]
   rw[mZ e,b];exact b9
theorem KT.Lh(r:KT H kvs xs)(k:List Key)(bu:bN y u) :
  KT H (kvs.map λc2=>if c2.1=k then(p'p c2.1 y)else c2) (xs.map (putAt k u)):=by
 induction r with
 |nil=>exact .nil
 | @cons p q ps qs h t b9=>
  rw[dZ,dZ];refine .cons ?_ b9;let(af,aj,a_):=h;unfold putAt;by_cases e:p.1=k
  .rw [if_pos e,if_pos (af.symm.trans e)];exact(af,aj,bu)
  .rw [if_neg e,if_neg (λz=>e (af.trans z))];exact(af,aj,a_)
def KT.put(r:KT H kvs xs)(k:List Key)(ae:H b\(.tup (k.map dC)))(bu:bN y u) :
  KT H (eN kvs k y) (storedH xs k b u):=by
 have e:(kvs.any λc2=>decide (c2.1=k))=(atKey xs k).isSome:=by
  rw[yq,(r.val k).ND,agX]
 unfold eN storedH;rw[e];by_cases q:(atKey xs k).isSome=true
 .rw [if_pos q,if_pos q];exact r.Lh k bu
 .rw [if_neg q,if_neg q];exact Vz r (rfl,ae,bu)
def KT.keeps(r:KT H kvs xs)(cV:∀b ys,H b\(.tup ys)->I b\(.tup ys)):KT I kvs xs:=
 Paired.Lv r λ_ _ z=>(z.1,cV _ _ z.2.1,z.2.2)
section
variable{P:Program}{w:World}{H:ar}{h:Heap}{a:Addr}
def YG(ok:eG P w H h)(e:lS H a u):eh P w H h a u:=e.ok ok
def Cb(ok:eG P w H h)(e:lS H a (.bL kvs)):↑kvs<=sizeLine/\(a==sysModules)=false/\∃vs,e1 kvs vs/\h.DictOf (hh P w) a vs:=
 show eh P w H h a (.bL kvs)from YG ok e
def t7(ok:eG P w H h)(e:H a\(.bL kvs)):↑kvs<=sizeLine/\(a==sysModules)=false/\∃vs,e1 kvs vs/\h.DictOf (hh P w) a vs:=Cb ok (.inl e)
def DU{bF:List Key}(ok:eG P w H h)(e:H a\(.tup (bF.map dC))):(tupleKind (hh P w)).is h bF a:=by
 let(_,a5,r,o,af,aj,n,a_):=(show eh P w H h a (.tup (bF.map dC))from ok a _ e);exact(o,a5.toArray,n,af,aj,a_,by simpa using S0 r)
theorem BS(ok:eG P w H h)(e:lS H a (.kC kvs)):↑kvs<=sizeLine/\(a==sysModules)=false /\
  ∃xs,KT H kvs xs/\h.DictOfH (tupleKind (hh P w)) a xs:=by
 let(z,y,xs,r,o,aK,ep,af,aj,a_,b',dn):=(show eh P w H h a (.kC kvs)from YG ok e);refine(z,y,xs,r,o,aK,ep,af,aj,a_,b',λx ai=>?_,dn);have all:∀{l:List (List Key×V)} {m:List (List Key×Addr×Value)},KT H l m->∀x∈m,(tupleKind (hh P w)).is h x.1 x.2.1:=by
  intro l m q
  induction q with
  |nil=>intro x ai;exact nomatch ai
  | @cons p q ps qs aF t b9=>
   intro x ai;rcases cT.mp ai with e|ai
   .subst e;exact DU ok (by rw[<- aF.1];exact aF.2.1)
   .exact b9 x ai
 exact all r x ai
def agN(ok:eG P w H h)(e:H a\(.kC kvs)):↑kvs<=sizeLine/\(a==sysModules)=false /\
  ∃xs,KT H kvs xs/\h.DictOfH (tupleKind (hh P w)) a xs:=BS ok (.inl e)
end
def gq(H:ar)(a:Addr)(y:V)(r:Option V):Prop:=
 (∃kvs k,lS H a (.bL kvs)/\y=dC k/\r=c6 kvs k)\/∃kvs k b,lS H a (.kC kvs)/\y=⇑b/\H b\(.tup (k.map dC))/\r=c6 kvs k
def mO(H:ar)(a:Addr)(y v:V)(I:ar):Prop:=
 (∃kvs k,H a\(.bL kvs)/\y=dC k/\↑kvs<sizeLine/\I=upd H a (.bL (eN kvs k v))) \/
 ∃kvs k b,H a\(.kC kvs)/\y=⇑b/\H b\(.tup (k.map dC))/\↑kvs<sizeLine/\I=upd H a (.kC (eN kvs k v))
theorem gq.k{k:Key}(e:H a\(.bL kvs)):gq H a (dC k) (c6 kvs k):=.inl (kvs,k,.inl e,rfl,rfl)
theorem mO.k{k:Key}(e:H a\(.bL kvs))(aw:↑kvs<sizeLine):mO H a (dC k) v (upd H a (.bL (eN kvs k v))):=.inl (kvs,k,e,rfl,aw,rfl)
section
variable{X:a6}{ab:List (Addr×Obj)}{σ:St}{H:ar}{s:Shared}{a:Addr}{y v:V}{u r:Value}{o:Option V}{A:Around}{E:Value->Shared->Prop}
def Inv.big(J:Inv X ab σ H s):sysModules<↥s:=by
 have h:mainGlobals<↥s:=(J.mod.glob.keeps J.b3).lt;exact SW ∅ h
def aqX(bx:A.units+1<cLine)(J:Inv X ab σ H s)(g:gq H a y (some v))(bu:bN y u)(h:∀fQ s',Inv X ab σ H s'->bN v fQ->Q fQ s') :
  wpAny (model X.prog X.w) A (getItem ⇑a u) Q E s:=by
 rcases g with⟨kvs,k,e,lA,l⟩|⟨kvs,k,b,e,lA,dc,l⟩
 .subst lA;let(z,hd,vs,rel,c9):=Cb J.bf e;let(fQ,hw,lP):=iG.some_of (v:=v) (o:=valueAt vs k) (by rw[l];exact rel.val k);exact wpAny_getItem_of (yn bu) c9.mapOf hw (h fQ _ (J.tok _) lP)
 .subst lA;cases(show u=dm b from bu);let(z,hd,xs,rel,c9):=BS J.bf e;let(fQ,hw,lP):=iG.some_of (v:=v) (o:=(atKey xs k).map (·.2)) (by rw[l];exact rel.val k);let(p,aq,dy):=ad3.mp hw;refine wpAny_getItem_heap (tupleKind_room_in1 bx) (DU J.bf dc) c9 aq ?_;rw[dy];exact h fQ _ (J.tok _) lP
def anK(bx:A.units+1<cLine)(J:Inv X ab σ H s)(g:gq H a y o)(bu:bN y u)(h:∀s',Inv X ab σ H s'->Q (.bool (!o.isSome)) s') :
  wpAny (model X.prog X.w) A (compareOp .NotIn u ⇑a) Q E s:=by
 rcases g with⟨kvs,k,e,lA,l⟩|⟨kvs,k,b,e,lA,dc,l⟩
 .subst lA;let(z,hd,vs,rel,c9):=Cb J.bf e;refine wpAny_notIn_of (yn bu) hd c9.mapOf ?_;rw[<- (rel.val k).ND,<- l];exact h _ (J.tok _)
 .subst lA;cases(show u=dm b from bu);let(z,hd,xs,rel,c9):=BS J.bf e;refine wpAny_notIn_heap (tupleKind_room_in1 bx) (DU J.bf dc) hd c9 ?_;have q:=(rel.val k).ND;rw[agX]at q;rw[<- q,<- l];exact h _ (J.tok _)
def FP(J:Inv X ab σ H s)(fb:nk (H a))(aB:wu a s.heap h')(he:∃q,h'.get? a\q)(new:eh X.prog X.w (upd H a b_) h' a b_) :
  Inv X ab σ (upd H a b_) {s with heap:=h',toks:=t' }:=
 J.write (x:=a) (e:=a) fb (.inl rfl) (λb q ae z=>(aB.2 b ae).trans z) he new
def UK{w:World}(z:↑kvs<=sizeLine)(hd:(a==sysModules)=false)(rel:e1 kvs vs)(c9:h'.DictOf (hh P w) a vs) :
  eh P w I h' a (.bL kvs):=(z,hd,vs,rel,c9)
def anD(bx:A.units+1<cLine)(J:Inv X ab σ H s)(g:mO H a y v I)(bu:bN y u)(cf:bN v r)(h:∀s',Inv X ab σ I s'->Q ⟨⟩ s') :
  wpAny (model X.prog X.w) A (setItem ⇑a u r) Q E s:=by
 rcases g with⟨kvs,k,e,lA,l,Gi⟩|⟨kvs,k,b,e,lA,dc,l,Gi⟩
 .subst lA Gi;let(z,hd,vs,rel,c9):=t7 J.bf e;have ax:↑vs<=sizeLine:=by rw[<- ↑rel];exact z
  have aw:↑(eN kvs k v)<=sizeLine:=by have:=Jp kvs k v;omega
  refine wpAny_setItem_pairs (hsz:=ax) (yn bu) c9 λh' sq aB=>h _ ?_
  have he:∃q,h'.get? a\q:=let⟨q,_,_,aF,_⟩:=sq;(q,aF);exact FP J (by rw[e];exact kB) aB he (UK aw hd (rel.put k cf) sq)
 .subst lA Gi;cases(show u=dm b from bu);let(z,hd,xs,rel,c9):=agN J.bf e;have ax:↑xs<=sizeLine:=by rw[<- GF rel];exact z
  have aw:↑(eN kvs k v)<=sizeLine:=by have:=Jp kvs k v;omega
  refine wpAny_setItem_heap (hsz:=ax) (tupleKind_room_in1 bx) (DU J.bf dc) c9 λh' sq aB=>h _ ?_
  let(q,aK,ep,aF,aj,a_,b',_,dn):=sq;refine FP J (by rw[e];exact kB) aB (q,aF) (aw,hd,_,(rel.put k dc cf).keeps λc ys k7=>?_,q,aK,ep,aF,aj,a_,b',dn);rw[aO (d_ k7 e (λz=>nomatch z))];exact k7
end
def GY(i:Expr):Prop:=∀di jq,subscripted i false di jq=operate [di,jq] (getItem di jq)
theorem QS{prog:Program}{w:World}{A:Around}{E:Value->Shared->Prop}{s:Shared}{env:Env}{value slice:Expr}{pos:Pos}{T id:String}{Q:Value->Shared->Prop}
  (aw:typeLookup (.type T) "__getitem__"=pure (some (.builtin id))) (aB:GY slice)
  (h:wpAny (model prog w) A (eval value env) (λo dj=>wpAny (model prog w) A (eval slice env) (λi d1=>d1.TypeIs o T/\wpAny (model prog w) A (getItem o i) Q E d1) E dj) E s) :
  wpAny (model prog w) A (eval (.Subscript value slice pos) env) Q E s:=by
 refine Subscript_ (wpAny_mono h (λo dj h₁=>wpAny_mono h₁ (λi d1 wK=>?_) λ_ _ x=>x) λ_ _ x=>x);let(dN,wK):=wK;unfold subscriptTail;refine wpAny_bind ?_;rw[getitemInPython_of_ne dN.not_modules];refine wpAny_bind (wpAny_specialOf dN aw ?_);have fin:wpAny (model prog w) A (subscripted slice false o i) (λr mB=>wpAny (model prog w) A (letTemporaryGo value o r >>= λ_=>pure r) Q E mB) E d1:=by
  rw[aB o i];exact wpAny_operating (wpAny_mono wK (λr mB A'=>wpAny_bind (wpAny_letTemporaryGo (wpAny_pure A'))) λ_ _ x=>x)
 first
  |exact wpAny_pure (wpAny_bind fin)
  |exact wpAny_bind (wpAny_pure (wpAny_bind fin))
  |exact wpAny_bind fin
def aak(J:Inv X ab σ H s)(g:gq H a y o):s.TypeIs ⇑a "dict":=by
 rcases g with⟨kvs,k,e,_,_⟩|⟨kvs,k,b,e,_,_,_⟩
 .let(_,_,vs,_,c9):=Cb J.bf e;exact c9.typeIs
 .let(_,_,xs,_,c9):=BS J.bf e;exact c9.typeIs
def Hw(i0 ty:TE):TE:=λσ H Q=>i0 σ H λx H1=>ty σ H1 λy ay=>eV x λa=>∃v,gq ay a y (some v)/\Q v ay
def J2(ty i0:TE):TE:=λσ H Q=>ty σ H λy H1=>i0 σ H1 λx ay=>eV x λa=>∃o,gq ay a y o/\Q (.bE (!o.isSome)) ay
def MZ(i0 ty eH:TE):ea:=λD σ H=>eH σ H λv H1=>i0 σ H1 λx ay=>ty σ ay λy bq=>eV x λa=>∃cc,mO bq a y v cc/\D.cp σ cc
section
variable{X:a6}{o i e value:Expr}{pos pos' Ai:Pos}{i0 ty eH:TE}
def j7(bx:X.A.units+1<cLine)(aW:bw X o i0)(ao:bw X i ty)(aB:GY i):bw X (.Subscript o i pos) (Hw i0 ty):=by
 intro ab s σ H Q J h;refine QS ajx.lookup aB (bG (aW ab s σ H _ J h) λu s1 cm=>eo cm λx H1 aU bh bM=>bG (ao ab s1 σ H1 _ aU bM) λjq s2 cm=>eo cm λy ay bK bu hk=>?_);let(a,ex,v,g,cP):=eV.out hk;subst ex;obtain rfl:u=dm a:=bh;exact(aak bK g,aqX bx bK g bu λfQ s3 eA lP=>(v,ay,eA,lP,cP))
def OT(bx:X.A.units+1<cLine)(ao:bw X i ty)(aW:bw X o i0):QI X .NotIn i o (J2 ty i0):=by
 intro ab s σ H Q J h;refine bG (ao ab s σ H _ J h) λjq s1 cm=>eo cm λy H1 aU bu bM=>bG (aW ab s1 σ H1 _ aU bM) λu s2 cm=>eo cm λx ay bK bh hk=>?_
 let(a,ex,di,g,cP):=eV.out hk;subst ex;obtain rfl:u=dm a:=bh;exact anK bx bK g bu λs3 eA=>(.bE (!di.isSome),ay,eA,rfl,cP)
def rA(bx:X.A.units+1<cLine)(aW:bw X o i0)(ao:bw X i ty)(aM:bw X value eH)(aB:swapsWith value (some (.Subscript o i pos')) pos.line X.env=pure false) :
  gv X (.Assign [.Subscript o i pos'] value pos) (MZ i0 ty eH):=by
 intro ab s σ H D J h;refine wpAny_Assign_Subscript (bG (aM ab s σ H _ J h) λr s1 cm=>eo cm λv H1 aU cf bM=>bG (aW ab s1 σ H1 _ aU bM) λu s2 cm=>eo cm λx ay bK bh cP=>bG (ao ab s2 σ ay _ bK cP) λjq s3 cm=>eo cm λy bq eA bu hk=>?_) aB;let(a,ex,cc,g,eC):=eV.out hk;subst ex;obtain rfl:u=dm a:=bh;exact anD bx eA g bu cf λs4 jT=>(σ,cc,jT,eC)
end
def Rn{w:World}(h:Heap)(ae:sysModules<h.objs.size):eh P w H (h.push {cls:=.type "dict",data:=.dict #[]}) h.objs.size (.bL []):=
 (gx _,beq_eq_false_iff_ne.mpr (dB (fM ae)),[],.nil,Heap.DictOf.new h)
def II:TE:=λ_ H Q=>∀p,H p=none->Q ⇑p (upd H p (.bL []))
section
variable{X:a6}{pos:Pos}
def ql:bw X (.Dict [] [] pos) II:=λab s σ H Q J h=>
 wpAny_Dict_empty (.ref ↥s,_,J.laid (a:=↥s) (o:=.bL []) (t':=s.toks) (λ_ _ q=>dX _ q) (b0 _) (Rn s.heap J.big),rfl,h _ (J.bf.fresh (b0 _)))
end
def zl:List (TE×TE)->St->ar->(List (V×V)->ar->Prop)->Prop
 |[],_,H,Q=>Q [] H
 |(cB,eH)::r,σ,H,Q=>cB σ H λx H1=>eH σ H1 λy ay=>zl r σ ay λps bq=>Q ((p'p x y)::ps) bq
abbrev Oo:List (V×V)->List (Value×Value)->Prop:=Paired λp q=>bN p.1 q.1/\bN p.2 q.2
def Cu(X:a6)(pos:Pos)(keys:List (Option Expr))(values:List Expr)(t5:List (TE×TE)):Prop:=
 ∀(ab:List (Addr×Obj)) (s:Shared) (σ:St) (H:ar) (Q:List (V×V)->ar->Prop),Inv X ab σ H s->zl t5 σ H Q ->
  wpAny (model X.prog X.w) X.A (evalPairs (pairTrees keys values X.env pos)) (λvs s'=>∃ps I,Inv X ab σ I s'/\Oo ps vs/\Q ps I) X.df s
def Yq:Cu X pos [] [] []:=λab s σ H Q J h=>pairTrees_nil_walk ([],H,J,.nil,h)
def sP{k v:Expr}{bF:List (Option Expr)}(aI:bw X k cB)(aM:bw X v eH)(au:Cu X pos bF vs t5) :
  Cu X pos (some k::bF) (v::vs) ((p'p cB eH)::t5):=λab s σ H Q J h=>
 pairTrees_cons_walk (bG (aI ab s σ H _ J h) λu s1 cm=>eo cm λx H1 aU bh bM=>bG (aM ab s1 σ H1 _ aU bM) λd0 s2 ⟨y,ay,bK,bu,cP⟩=>
  bG (au ab s2 σ ay _ bK cP) λws s3 ⟨ps,bq,eA,rel,eC⟩=>((p'p x y)::ps,bq,eA,.cons (bh,bu) rel,eC))
noncomputable def m8(kvs more:List (Key×V)):List (Key×V):=more.foldl (λacc c2=>eN acc c2.1 c2.2) kvs
theorem e1.merge:∀{more:List (Key×V)} {rs:List (Key×Value)} {kvs:List (Key×V)} {vs:List (Key×Value)},e1 more rs->e1 kvs vs->e1 (m8 kvs more) (merged vs rs):=by
 intro more rs kvs vs r;unfold e1 at r
 induction r generalizing kvs vs with
 |nil=>intro q;exact q
 | @cons p q ps qs h t b9=>
  intro fu;have e:e1 (eN kvs p.1 p.2) (stored vs q.1 q.2):=by
   have:=fu.put p.1 h.2;rw[<- h.1];exact this
  exact b9 e
theorem Vg:∀(more kvs:List (Key×V)),↑(m8 kvs more)<=↑kvs+↑more
 |[],kvs=>by show ↑kvs<=↑kvs+0;omega
 |p::r,kvs=>by
  have af:=Vg r (eN kvs p.1 p.2);have aj:=Jp kvs p.1 p.2;show ↑(m8 (eN kvs p.1 p.2) r)<=_;rw[gw];omega
theorem Tx{w:World}:∀{kvs:List (Key×V)} {ws:List (Value×Value)},Oo (kvs.map λc2=>(p'p (dC c2.1) c2.2)) ws->∃rs,Carries (hh P w) ws rs/\e1 kvs rs
 |[],_,r=>by rw[gI]at r;cases r;exact([],kB,.nil)
 | p::kvs,_,r=>by
  rw[dZ]at r;cases r with
  | @cons a b as bs h t=>
   let(rs,c,q):=Tx (P:=P) (w:=w) t;let(jY,iq):=b;exact((p'p p.1 iq)::rs,(yn h.1,rfl,c),.cons (rfl,h.2) q)
def FO(t5:List (TE×TE)):TE:=λσ H Q=>∀p,H p=none->zl t5 σ (upd H p (.bL [])) λps ay=>ay p\(.bL [])/\∃kvs:List (Key×V),ps=kvs.map (λc2=>(p'p (dC c2.1) c2.2))/\↑kvs<=15/\Q ⇑p (upd ay p (.bL (m8 [] kvs)))
def Ri{keys:List (Option Expr)}(h:Cu X pos keys values t5)(l6:keys.all (·.isSome)=true)(aw:↑keys=↑values)(h0:keys≠[])
  (afd:↑keys<=15):bw X (.Dict keys values pos) (FO t5):=by
 intro ab s σ H Q J q;have aL:=J.bf.fresh (b0 ↥s);have aU:=J.laid (a:=↥s) (o:=.bL []) (h':=s.heap.push {cls:=.type "dict",data:=.dict #[]}) (t':=s.toks) (λ_ _ q=>dX _ q) (b0 _) (Rn s.heap J.big);refine wpAny_Dict_walk (knd:=hh X.prog X.w) l6 aw h0 afd (bG (h ab _ σ _ _ aU (q _ aL)) λws s2 ck=>?_);let(ps,ay,bK,rel,e,kvs,ep,lk,cP):=ck;subst ep;let(rs,c,KA):=Tx (P:=X.prog) (w:=X.w) rel;let(z,hd,arC,fu,c9):=t7 bK.bf e;cases fu;refine(rs,c,c9,λh' sq aB=>(.ref ↥s,_,?_,rfl,cP));have ax:↑(m8 [] kvs)<=sizeLine:=by
  have af:=Vg kvs [];rw[uZ]at af;rw[sizeLine_eq];omega
 have he:∃q,h'.get? ↥s\q:=let⟨q,_,_,aF,_⟩:=sq;(q,aF);exact FP bK (by rw[e];exact kB) aB he (UK ax hd (KA.merge .nil) sq)
end L2
namespace Va
open PySem PySem.W PySem.Calls PyProof.Rows
theorem aaY{h:Heap}:∀(ns:List Int) (vs:List Value),WellAll P h vs (ns.map alO)->IntsAre vs ns:=by
 intro ns
 induction ns with
 |nil=>
  intro vs w;rw[gI]at w;cases w;exact .nil
 | cons n ns b9=>
  intro vs w;rw[dZ]at w;cases w with
  |cons a b=>
   cases a;exact .cons _ _ (b9 _ b)
theorem xL{l:OpenLaw}{n:Nat}(aL:l.most\n){P:Params}{h:Heap}{args:List WData}{NA:List Value}
  (By:l.row.toRowW.claim.pre args=true) (jQ:WellAll P h NA args) :
  ∃a vs ns,NA=[dm a]/\args=[WData.list (ns.map alO)]/\h.get? a=some {cls:=.type "list",data:=.seq vs.toArray}/\IntsAre vs ns/\↑ns<=n:=by
 have af':WShape.hasAll [] args [.list .int]=true:=(pre_splitW By).1;have ah:l.pre.holds [] {args:=args}=true:=(pre_splitW By).2;let(d,r,rfl,af,aj):=hasAllW_cons af';obtain rfl:=hasAllW_nil aj;let(xs,rfl,a_):=hasW_list af;let(ns,rfl):=items_int a_;have hlen:↑ns<=n:=by
  unfold OpenLaw.pre at ah;have b':(WTm.not (.lt (.lit (.int (n:Int))) (.len (.arg 0)))).holds [] {args:=[.list (ns.map .int)]}=true:=by
   have b':=(holds_andW ah).1;rw[aL]at b';exact b'
  have dn:=condW_of b' (w_not (w_lt w_lit (w_len_list (w_arg rfl))));rw[a9]at dn;refine Nat.le_of_not_lt λq=>?_
  have du:(n:Int)<((↑ns:Nat):Int):=()
  first
   |(rw[decide_eq_true du]at dn;exact absurd dn ∅)
   |(simp at dn;omega)
 cases jQ with
 |cons c_ d0=>
  cases d0;cases c_ with
  |list aW l6=>exact(_,_,ns,rfl,rfl,aW,aaY ns _ l6,hlen)
def ahI(l:OpenLaw)(args:List WData):l.row.toRowW.claim.post args (.bool true) args=true:=
 postW_of (r:=l.row.toRowW) (X:=(true==true))
  (show aqO [] (.bool true) .bool=true by first|rfl|decide|simp[aqO,WShape.arms,WShape.armsAll])
  (show(WTm.eq .res (.lit (.bool true))).value [] {args:=args,res:=some (.bool true),after:=args}\(.bool (true==true))from w_eq_bool (w_res rfl) w_lit) rfl
def amh{l:OpenLaw}{n:Nat}{q:Program}{loose:List Str}{we:(Str->Option Value)->Heap->Prop}{q_:World->Heap->Prop}{d:DefRec}
  (aL:l.most\n) (zO:d.params.defaults=[])
  (call:∀(w:World) (fB dj:Shared) (av jU:Str->Option Value) (jf:Addr) (o:Obj) (pm cd doc:Value) (a:Addr) (vs:List Value) (ns:List Int),
   Ground q loose [] we w fB av jU dj.heap->q_ w dj.heap ->
   dj.heap.get? jf\o->o.data=.func (docDef d.name d.params d.body d.scope pm cd doc)->dj.heap.CodeRec cd d.name->av d.name\⇑jf ->
   dj.heap.get? a=some {cls:=.type "list",data:=.seq vs.toArray}->IntsAre vs ns->↑ns<=n->dj.gens=#[] ->
   codeAny (model l.prog w) callerA (.call ⇑jf ([⇑a],[])) (λr s'=>r=.ok (.ret (.bool true))/\OldK dj.heap s'.heap/\s'.os=dj.os/\AllBare s'.gens) dj) :
  WalkO q loose we q_ l.row.toRowW d [] (λf vs=>RG f vs):=by
 intro w fB dj av jU G Y jf o pm cd doc E0 dC aW hd lL bB yv a0 args NA as By ar8 A7 jQ ar6;obtain rfl:E0=.none:=Dflts.none bB zO;obtain rfl:dC=.none:=Dflts.noKw bB;let(a,vs,ns,rfl,rfl,NB,hints,hlen):=xL aL By jQ;refine enter_call (codeAny_mono (call w fB dj av jU jf o pm cd doc a vs ns G Y aW (fd_plain hd) lL yv NB hints hlen a0) λr s' aF=>?_);let(rfl,aj,a_,b'):=aF;exact(.inl (.bool true,.bool true,[],rfl,λ_=>rfl,.bool true,ahI l _,λ_=>(as3,λ_ hm=>(nomatch hm))),aj,a_,b')
end Va
namespace L2
open PySem PySem.Spec PyProof.Rows
theorem Wz:∀{vs:List Value} {ns:List Int},IntsAre vs ns->bW (ns.map V.int) vs
 |_,_,.nil=>.nil
 |_,_,.cons n t h=>.cons (t,rfl) (Wz h)
def zP(H:ar):Prop:=∀b,H b=none\/∃o xs,H b\(.eO o (.lst xs))
theorem aaT{w:World}{K:a'}{av jU:Str->Option Value}{k:Nat}{fd:FuncData}{x:Str}{ns:List Int}
  (fe:K.In dj.heap) (Je:dj.heap.Ns mainGlobals av) (ae:dj.heap.Ns builtinsNs jU) (aaE:∀x:Str,x≠"__name__"->jU x=bootBuiltins x) (abg:dj.heap.NoLimit) (a0:dj.gens=#[])
  (aJ:dj.heap.get? a=some {cls:=.type "list",data:=.seq vs.toArray}) (ao:IntsAre vs ns) (aw:↑ns<=sizeLine) (au:eJ k callerA)
  (F:∀base:Heap,K.In base->base.Ns mainGlobals av->bD P w K av base CX k jf fd [x] sp) (aoa:∀(s:Shared) (u:Value),BindsTo s fd ([u],[]) [(p'p x u)])
  (ki:∀H:ar,zP H->aH K H a (ns.map V.int)->sp [⇑a] H (λv _=>v=.bE true) λ_ _ _=>False)
  (xb:∀H e s',CX [] H dj (λ_ _ _=>False) e s'->False) :
  codeAny (model P w) callerA (.call ⇑jf ([⇑a],[])) (λr s'=>r=.ok (.ret (.bool true))/\OldK dj.heap s'.heap/\s'.os=dj.os/\AllBare s'.gens) dj:=by
 have cf:=Wz ao;have alH:=↑ao;have core:∀H:ar,zP H->aH K H a (ns.map V.int)->eG P w H dj.heap->(∀b,H b≠none->b=a)->(H a≠none->K.lookup a=none) ->
   codeAny (model P w) callerA (.call ⇑jf ([⇑a],[])) (λr s'=>r=.ok (.ret (.bool true))/\OldK dj.heap s'.heap/\s'.os=dj.os/\AllBare s'.gens) dj:=by
  intro H qp e6 bf f' eS;have Xo:∀{b:Addr} {o:Obj},dj.heap.get? b\o->H b=none->(p_ dj.heap H).get? b\o:=λe n=>akL e n
  have wR:∀{b:Addr} {o:Obj} {aK:Array DictEntry} {ep:Nat},dj.heap.get? b\o->o.data=.dict aK ep->H b=none:=λ{b o aK ep} e d=>by
   cases q:H b with
   |none=>rfl
   |some u=>
    have bZ:b=a:=f' b (by rw[q];simp);subst bZ;rw[aJ]at e;cases e;have d':Data.seq vs.toArray _=Data.dict aK ep:=d;cases d'
  have EW:∀{b:Addr} {m:Str->Option Value},dj.heap.Ns b m->(p_ dj.heap H).Ns b m:=λ{b m} ⟨o,aK,ep,e,d,r⟩=>(o,aK,ep,Xo e (wR e d),d,r)
  have SF:K.In (p_ dj.heap H):=λb o e=>Xo (fe b o e) (by
   cases q:H b with
   |none=>rfl
   |some u=>
    have bZ:b=a:=f' b (by rw[q];simp);subst bZ;rw[eS (by rw[q];simp)]at e;cases e)
  have abw:Mod K av (p_ dj.heap H):=(SF,EW Je,(jU,EW ae,aaE),let⟨abq,af,aj⟩:=abg;(abq,EW af,aj));have cR:nC P w K av (p_ dj.heap H) callerA [] dj H:=(rfl,abw,λb o e=>aax e,Dy (ago _ _),trivial,λb ae=>absurd (show b∈([]:List Addr)from ae) (by simp),bf,.of_eq a0);refine codeAny_mono ((F _ SF (EW Je)).run callerA [] dj H ([⇑a],[]) [⇑a] [⇑a] _ _ au cR (aoa dj ⇑a) (.cons rfl .nil) (ki H qp e6)) λr s' h=>?_
  cases r with
  |error e=>exact(xb H e s' h).elim
  | ok ec=>
   cases ec with
   |next=>exact ky h
   |brk=>exact ky h
   |cont=>exact ky h
   | ret u=>
    let(v,I,os,bare,un,xh,dE,q):=h;have du:v=.bE true:=q;subst du;obtain rfl:u=lM true:=dE;refine(rfl,OldK.of_keep λb o e=>?_,os,bare);cases q:H b with
    |none=>exact un.keep b o e q (by intro z;exact absurd (show b∈([]:List Addr)from z) (by simp)) (by simp)
    |some u=>
     rcases qp b with z|⟨b_,xs,z⟩
     .rw [q]at z;cases z
     .have dF:=un.kS b b_ _ z;let(az,_):=bf b _ z;let(aE,_):=xh b _ dF;rw[e]at az;cases az;exact aE
 cases aI:K.lookup a with
 |some o=>
  have e:=fe a o aI;rw[aJ]at e;cases e;refine core (λ_=>none) (λ_=>.inl rfl) (.inr (_,vs.toArray,_,aI,rfl,rfl,rfl,by rw[d2,alH];exact aw,by simpa using cf)) (λb u z=>by have z':(none:Option eY)\u:=z;cases z') (λb z=>absurd rfl z) λz=>absurd rfl z
 | none=>
  refine core (λb=>if b=a then some (.eO {cls:=.type "list",data:=.seq vs.toArray} (.lst (ns.map V.int)))else none) (λb=>?_) (.inl (.inr ({cls:=.type "list",data:=.seq vs.toArray},if_pos rfl))) (λb u z=>?_) (λb z=>?_) λ_=>aI
  .by_cases ae:b=a
   .exact .inr (_,_,if_pos ae)
   .exact .inl (if_neg ae)
  .by_cases ae:b=a
   .have z':=(if_pos ae).symm.trans z;cases z';subst ae;exact(aJ,by rw[a9];exact aw,vs,_,cf,aJ)
   .have z':=(if_neg ae).symm.trans z;cases z'
  .by_cases ae:b=a
   .exact ae
   .exact absurd (if_neg ae) z
noncomputable abbrev OE{K:a'}{h:Heap}(_:K.In h):a':=K
def ak7 {l:ae9} {n k:Nat} {q:Program} {loose:List Str} {we:(Str->Option Value)->Heap->Prop} {q_:World->Heap->Prop} {d:DefRec} {K:Params->a'} {CX:World->hP} {sp:World->bH} {x:Str}
  (aL:l.most\n) (q1:n<=sizeLine) (zO:d.params.defaults=[]) (au:eJ k callerA)
  (Np:∀(w:World) (h:Heap),q_ w h->(K w.params).In h)
  (F:∀(w:World) (av:Str->Option Value) (jf:Addr) (h:Heap),(K w.params).In h->h.Ns mainGlobals av->av d.name\⇑jf ->
   ∃fd:FuncData,(∀(s:Shared) (u:Value),BindsTo s fd ([u],[]) [(p'p x u)]) /\
    ∀base:Heap,(K w.params).In base->base.Ns mainGlobals av->bD l.prog w (K w.params) av base (CX w) k jf fd [x] (sp w))
  (ki:∀(w:World) (H:ar) (a:Addr) (ns:List Int),↑ns<=n->zP H->aH (K w.params) H a (ns.map V.int)->sp w [⇑a] H (λv _=>v=.bE true) λ_ _ _=>False)
  (xb:∀(w:World) (H:ar) (s:Shared) (e:Value) (s':Shared),CX w [] H s (λ_ _ _=>False) e s'->False) :
  adV q loose we q_ l.row.toRowW d [] (λf vs=>RG f vs):=by
 refine Va.amh aL zO λw fB dj av jU jf o pm cd doc a vs ns G Y aW hd lL yv NB hints hlen a0=>?_
 have fe:=Np w _ Y;let(fd,ae,Zy):=F w av jf _ fe G.T.g yv;exact aaT fe G.T.g G.T.b G.T.builtins G.T.nolimit a0 NB hints (cH hlen q1) au Zy ae (λH qp e6=>ki w H a ns hlen qp e6) λH e s'=>xb w H dj e s'
def ajr {l:ae9} {n k:Nat} {q:Program} {loose:List Str} {we:(Str->Option Value)->Heap->Prop} {q_:World->Heap->Prop} {d:DefRec} {K:Params->a'} {CX:hP} {sp:a'->bH} {x:Str}
  (aL:l.most\n) (q1:n<=sizeLine) (zO:d.params.defaults=[]) (au:eJ k callerA)
  (Np:∀(w:World) (h:Heap),q_ w h->(K w.params).In h)
  (F:∀(w:World) (av:Str->Option Value) (jf:Addr) (h:Heap),(K w.params).In h->h.Ns mainGlobals av->av d.name\⇑jf ->
   ∃fd:FuncData,(∀(s:Shared) (u:Value),BindsTo s fd ([u],[]) [(p'p x u)]) /\
    ∀base:Heap,(K w.params).In base->base.Ns mainGlobals av->bD l.prog w (K w.params) av base CX k jf fd [x] (sp (K w.params)))
  (ki:∀(K:a') (H:ar) (a:Addr) (ns:List Int),↑ns<=n->zP H->aH K H a (ns.map V.int)->sp K [⇑a] H (λv _=>v=.bE true) λ_ _ _=>False)
  (xb:∀(H:ar) (s:Shared) (e:Value) (s':Shared),CX [] H s (λ_ _ _=>False) e s'->False) :
  adV q loose we q_ l.row.toRowW d [] (λf vs=>RG f vs):=
 ak7 (K:=K) (CX:=λ_=>CX) (sp:=λw=>sp (K w.params)) aL q1 zO au Np F (λw H a ns af aj a_=>ki (K w.params) H a ns af aj a_) λ_ H s e s'=>xb H s e s'
noncomputable def fF(s:Stmt)(j:Nat):Stmt:=match s with
 | .ClassDef _ _ _ body _ _ _ _ _ _ _=>body.getD j (.Pass (0,0,0,0))
 |_=>.Pass (0,0,0,0)
noncomputable def E5(s:Stmt):Arguments:=match s with
 | .FunctionDef _ a _ _ _ _ _ _ _ _=>a
 |_=>{posonlyargs:=[],args:=[],vararg:=none,kwonlyargs:=[],kw_defaults:=[],kwarg:=none,defaults:=[]}
noncomputable def wa(s:Stmt):List Stmt:=match s with
 | .FunctionDef _ _ b _ _ _ _ _ _ _=>b
 |_=>[]
noncomputable def br(s:Stmt):Scope:=match s with
 | .FunctionDef _ _ _ _ _ _ sc _ _ _=>sc
 |_=>{kind:=.function,names:=[],isGenerator:=false,isCoroutine:=false}
abbrev cN:hP:=λ_ _ _ _ _ _=>False
abbrev xn:dG:=λ_ _ _=>False
def cJ:mX cN X xn:=λ_ _ _ _ _ _ _ h=>h.elim
structure bV(K:a')(x qual:Str)(st:Stmt)(f:Addr)(fd:FuncData):Prop where
 ex:∃(m6:Value) (od:Option Addr) (dC doc pm:Value) (an:Option Addr) (fG eX:Value) (t9:Array (Option Value)),
  fd=w1 x qual (E5 st) (wa st) (br st) .none dC doc pm an fG eX/\K.lookup f\(m6,od,.func fd,t9)/\WM K fG qual=true
 bt:q9 K ⇑f=true
section
variable{P:Program}{w:World}{K:a'}{av:Str->Option Value}{base:Heap}
def bV.ok{x qual:Str}{st:Stmt}{fd:FuncData}{N ps:List Str}{k:Nat}(F:bV K x qual st f fd)(S:b2 N ps (br st))(len:∀vs H Q E,sp vs H Q E->↑vs=↑ps)
  (w0:∀(fG:Value) (A:Around) (outer:List Env) (s:Shared) (H:ar) (vs:List V) (Q:cz) (E:dG),eJ k (A.deeper (envOfC qual (br st) ↥s f fG))->sp vs H Q E ->
   ∃t,g9 (n3 cN P w K av base N qual (br st) f fG A outer s H E).xy (wa st) t/\t {cp:=λ_ I=>Q .b4 I,lG:=Q} (start N vs) H):bD P w K av base cN (k+1) f fd ps sp:=by
 let(m6,od,dC,doc,pm,an,fG,eX,t9,rfl,lk,lL):=F.ex;refine YL lk lL S len λA outer s H vs Q E au ki=>?_
 let(t,h,q):=w0 fG A outer s H vs Q E au ki;exact(t,h.xy,q)
def bV.binds{x qual:Str}{st:Stmt}{fd:FuncData}(F:bV K x qual st f fd)
  (h:∀(dC doc pm:Value) (an:Option Addr) (fG eX:Value) (us:List Value),↑us=↑ps->bindArgs (w1 x qual (E5 st) (wa st) (br st) .none dC doc pm an fG eX) (us,[])=pure (ps.zip us)):ac K fd ps []:=by
 let(m6,od,dC,doc,pm,an,fG,eX,t9,rfl,lk,lL):=F.ex;exact .all (h dC doc pm an fG eX)
def apI{x qual:Str}{st:Stmt}{dC doc pm fG eX:Value}(l:K.lookup f\(m6,od,.func (w1 x qual (E5 st) (wa st) (br st) .none dC doc pm an fG eX),t9))
  (c:WM K fG qual=true) (k:q9 K ⇑f=true):bV K x qual st f (w1 x qual (E5 st) (wa st) (br st) .none dC doc pm an fG eX):=((m6,od,dC,doc,pm,an,fG,eX,t9,rfl,l,c),k)
end
def akR(A:Around):Prop:=A.units+1<cLine
def aqa(A:Around):Prop:=A.units+64<cLine
def Dj{A:Around}{k:Nat}(au:eJ k A):aqa A:=au.units
def iU{A:Around}{k:Nat}(au:eJ k A):akR A:=i5 (Nat.add_le_add_left (by decide:1<=64) _) au.units
section
variable{X:a6}
def U(i:Nat){x:Str}(bc:X.N[i]?\x:=by rfl)(aM:DS X.env.scope x:=by first|exact m2 rfl|exact p5 (m2 rfl)|exact p5 (p5 rfl))(hd:(x==("__debug__":Str))=false:=by decide)
  (lL:(x==("__classdict__":Str))=false:=by decide):bw X (.Name x pos) (AQ i):=amM bc aM hd lL
end
def aC(H I:ar):Prop:=∀b o,H b\o->I b\o
def aC.refl(H:ar):aC H H:=λ_ _ h=>h
def aC.trans(a:aC H H1)(b:aC H1 ay):aC H ay:=λc o h=>b c o (a c o h)
theorem aC.free(e:aC H I)(h:I l=abO):H l=abO:=by
 cases q:H l with
 |none=>rfl
 |some o=>
  rw[e l o q]at h;cases h
end L2
set_option maxHeartbeats 4000000
namespace L2
open PySem PySem.Spec PyProof.Rows
noncomputable def jj(cells:List (Str×Addr)):List (Str×NameKind)->List (Str×Addr)->List (Str×Addr)
 |[],acc=>acc
 |(n,k)::r,acc=>if k == .free then(match cells.lookup n with|some c=>jj cells r ((p'p n c)::acc)|none=>jj cells r acc)else jj cells r acc
theorem HB{env:Env}:∀(names:List (Str×NameKind)) (acc:List (Str×Addr)),(∀y∈names,y.2=.free->∃c,env.cells.lookup y.1\c) ->
  (forIn names acc (λ(x:Str×NameKind) (cs:List (Str×Addr))=>(if(x.2 == .free)=true then do let a <- cellOf env x.1;pure (yd ((p'p x.1 a)::cs))else pure (yd cs):Sem (ForInStep (List (Str×Addr))))))=pure (jj env.cells names acc)
 |[],acc,_=>rfl
 | (n,k)::r,acc,h=>by
  have au:∀y∈r,y.2=.free->∃c,env.cells.lookup y.1\c:=λy bg=>h y (fS _ bg)
  rw[List.forIn_cons];by_cases aI:(k==se)=true
  .have e:k=.free:=by simpa using aI
   let(c,ah):=h (p'p n k) lW e;have qh:env.cells.lookup n\c:=ah;simp only[jj,aI,if_true,qh,cellOf];exact HB r _ au
  .simp only[jj,aI];exact HB r _ au
def VW{env:Env}(h:∀y∈scope.names,y.2=.free->∃c,env.cells.lookup y.1\c):closureFor scope env=pure (jj env.cells scope.names []):=by
 unfold closureFor;exact congrArg (λt=>t >>= pure) (HB scope.names [] h)
theorem Ed{cells:List (Str×Addr)}:∀(names:List (Str×NameKind)) (acc:List (Str×Addr)) {x:Str} {c:Addr},(jj cells names acc).lookup x\c->acc.lookup x\c\/cells.lookup x\c
 |[],acc,x,c,h=>.inl h
 | (n,k)::r,acc,x,c,h=>by
  unfold jj at h;split at h
  .cases q:cells.lookup n with
   |none=>rw[q]at h;exact Ed r acc h
   | some d=>
    rw[q]at h;rcases Ed r _ h with z|z
    .rw[ob]at z;by_cases ai:(x==n)=true
     .rw[ai]at z;have e:x=n:=by simpa using ai
      subst e
      right;rw[q];exact z
     .have mU:(x==n)=false:=by simpa using ai
      rw[mU]at z;exact .inl z
    .exact .inr z
  .exact Ed r acc h
theorem DI{cells:List (Str×Addr)}:∀(names:List (Str×NameKind)) (acc:List (Str×Addr)) {x:Str} {c:Addr},acc.lookup x\c->cells.lookup x\c->(jj cells names acc).lookup x\c
 |[],acc,x,c,h,_=>h
 | (n,k)::r,acc,x,c,h,ah=>by
  unfold jj;split
  .cases q:cells.lookup n with
   |none=>exact DI r acc h ah
   | some d=>
    refine DI r _ ?_ ah;rw[ob];by_cases ai:(x==n)=true
    .have e:x=n:=by simpa using ai
     subst e;rw[ai];rw[q]at ah;exact ah
    .have mU:(x==n)=false:=by simpa using ai
     rw[mU];exact h
  .exact DI r acc h ah
theorem cr{cells:List (Str×Addr)}:∀(names:List (Str×NameKind)) (acc:List (Str×Addr)) {x:Str} {c:Addr},(p'p x se)∈names->cells.lookup x\c->(jj cells names acc).lookup x\c
 |[],_,_,_,h,_=>nomatch h
 | (n,k)::r,acc,x,c,h,ah=>by
  rcases cT.mp h with e|h
  .cases e;unfold jj;rw[if_pos ∅,ah];refine DI r _ ?_ ah;rw[ob];simp
  .unfold jj;split
   .cases q:cells.lookup n with
    |none=>exact cr r acc h ah
    |some d=>exact cr r _ h ah
   .exact cr r acc h ah
theorem Fw:∀{l:List (Str×α)} {x:Str} {a:α},l.lookup x\a->(p'p x a)∈l
 |[],_,_,h=>by simp at h
 | (n,b)::r,x,a,h=>by
  rw[ob]at h;by_cases ai:(x==n)=true
  .have e:x=n:=by simpa using ai
   subst e;rw[ai]at h;have aE:b=a:=d6 h;subst aE;exact lW
  .have mU:(x==n)=false:=by simpa using ai
   rw[mU]at h;exact fS _ (Fw h)
def aee{env:Env}{x:Str}{k:NameKind}(h:(relabel scope env).names.lookup x\k)(aI:k=.cell\/k=.free)(ah:∀y∈scope.names,y.2≠.cell):(p'p x se)∈scope.names:=by
 have af:=Fw h;let((n,j),hm,e):=dg.mp af;have bZ:(if(j==se&&env.scope.kind == .function&&env.kindOf n==some .cell)=true then(p'p n Xt)else(p'p n j))=(p'p x k):=e;split at bZ
 .rename_i PE;have az:n=x:=(Sb bZ).1;subst az;have aZ:j=.free:=by
   simp only[jt]at PE;simpa using PE.1.1
  subst aZ;exact hm
 .have az:n=x:=(Sb bZ).1;have aE:j=k:=(Sb bZ).2;subst az;subst aE;rcases aI with z|z
  .exact absurd z (ah _ hm)
  .subst z;exact hm
theorem aos{env:Env}{x:Str}(h:scope.names.lookup x\.free):(relabel scope env).names.lookup x\.cell\/(relabel scope env).names.lookup x\.free:=by
 have all:∀(names:List (Str×NameKind)),names.lookup x\.free ->
   (names.map λ(n,k)=>if(k==se&&env.scope.kind == .function&&env.kindOf n==some .cell)then(p'p n Xt)else(p'p n k)).lookup x\.cell \/
   (names.map λ(n,k)=>if(k==se&&env.scope.kind == .function&&env.kindOf n==some .cell)then(p'p n Xt)else(p'p n k)).lookup x\.free:=by
  intro names
  induction names with
  |nil=>intro h;simp at h
  | cons p r b9=>
   let(n,k):=p;intro h;rw[dZ];by_cases ai:(x==n)=true
   .simp only[ob,ai]at h;have aI:k=.free:=d6 h;subst aI;by_cases ah:(se==se&&env.scope.kind == .function&&env.kindOf n==some .cell)=true
    .left;simp only[if_pos ah,ob,ai]
    .right;simp only[if_neg ah,ob,ai]
   .have mU:(x==n)=false:=by simpa using ai
    simp only[ob,mU]at h;by_cases ah:(k==se&&env.scope.kind == .function&&env.kindOf n==some .cell)=true
    .simp only[if_pos ah,ob,mU];exact b9 h
    .simp only[if_neg ah,ob,mU];exact b9 h
 exact all scope.names h
noncomputable abbrev a6.block(X:a6)(scope:Scope)(C:Addr)(N:List Str)(s:Shared)(H:ar)(bQ:List Addr):a6 where
 prog:=X.prog
 w:=X.w
 K:=X.K
 av:=X.av
 base:=X.base
 A:=X.A
 N:=N
 fB:=s
 s9:=H
 env:=compEnvC scope (jj X.env.cells scope.names []) C X.env
 outer:=X.stack
 stack:=X.stack
 ex:=bQ
 fn:=λ_=>false
 calm:=X.calm
 d8:=[]
 df:=λ_ _=>False
structure q5(env:Env)(scope:Scope):Prop where
 kind:scope.kind=.function
 DL:∀y∈scope.names,y.2≠.cell
 fr:∀y∈scope.names,y.2=.free->env.kindOf y.1\.cell\/env.kindOf y.1\.free
 loc:∀x∈scope.names,x.2=.local->scope.names.lookup x.1\.local
noncomputable def mx(sel:List (Option Nat))(σ:St):St:=sel.map λo=>o.bind λj=>(σ[j]?).join
def zk(M:List Str)(scope:Scope)(N:List Str)(sel:List (Option Nat)):Prop:=
 ↑sel=↑N/\∀(i j:Nat) (x:Str),sel[i]?\(some j)->N[i]?\x->M[j]?\x/\scope.names.lookup x\.free
section
variable{X:a6}{ab:List (Addr×Obj)}{σ:St}{H:ar}{s:Shared}{scope:Scope}{bQ:List Addr}{C:Addr}{N:List Str}
theorem q5.cells(S:q5 X.env scope)(ok:X.Ok):∀y∈scope.names,y.2=.free->∃c,X.env.cells.lookup y.1\c:=λy bg e=>ok.has y.1 (S.fr y bg e)
def vp{x:Str}(h:(jj X.env.cells scope.names []).lookup x\c):X.env.cells.lookup x\c:=by
 rcases Ed _ _ h with z|z
 .simp at z
 .exact z
def V8(J:Inv X ab σ H s)(S:q5 X.env scope)(hf:∀b∈bQ,h2 X ab H b)(aB:∀b∈bQ,b<↥s)(cq:↥s<=C):(X.block scope C N s H bQ).Ok where
 mod:=J.ok.mod
 kind:=S.kind
 glob:=J.ok.glob
 blt:=J.ok.blt
 above:=cq
 inj:=λx y c af aj=>J.ok.inj x y c (vp af) (vp aj)
 has:=λx h=>by
  have aI:∃k,(relabel scope X.env).names.lookup x\k/\(k=.cell\/k=.free):=by
   rcases h with h|h
   .exact (_,h,.inl rfl)
   .exact (_,h,.inr rfl)
  let(k,af,aj):=aI;have hm:=aee af aj S.DL;let(c,ah):=S.cells J.ok _ hm rfl;exact(c,cr _ _ hm ah)
 qL:=λ_ _ h _=>nomatch h
 hd:=J.ok.hd
 frames:=J.ok.frames
 rn:=.inl rfl
 uO:=λb ae=>(fM (ij (aB b ae) cq),λx c e=>(hf b ae).2.2.2.2.1 x c (vp e))
 bs:=J.bs
 j6:=cH J.ok.j6 J.rf
 qj:=λb o e ae=>by
  rcases(hf b ae).2.2.2.1 with z|z
  .exact J.ok.qj b o e z
  .exact absurd (ij (ij (dO e) J.ok.j6) z) (qW _)
 qG:=λb ae ax=>by
  rcases cT.mp (J.BB b ax)with z|z
  .exact (hf b ae).2.1 z
  .exact (hf b ae).2.2.1 z
 iZ:=J.stack
 kA:=J.A5
theorem aii(J:Inv X ab σ H s)(S:q5 X.env scope)(hf:∀b∈bQ,h2 X ab H b)(aB:∀b∈bQ,b<↥s)(cq:↥s<=C)
  (k:∀b o,s.heap.get? b\o->h'.get? b\o) (aL:h'.Ns C m) (rt:zk X.N scope N sel):Inv (X.block scope C N s H bQ) [] (mx sel σ) H {s with heap:=h',toks:=t' }where
 ok:=V8 J S hf aB cq
 os:=rfl
 bare:=J.bare
 base:=gn.kept k
 loc:=by
  refine(m,aL,λi x v az aE b7=>?_);let(m0,afR,aw):=J.loc;let(j,ly,akK):∃j,sel[i]?\(some j)/\σ[j]?\(some v):=by
   unfold mx at aE;rw[d7]at aE;cases q:sel[i]? with
   |none=>rw[q]at aE;cases aE
   | some o=>
    rw[q]at aE;cases o with
    |none=>cases aE
    |some j=>
     refine(j,rfl,?_);have BG:(σ[j]?).join\v:=d6 aE;cases r:σ[j]? with
     |none=>rw[r]at BG;cases BG
     |some z=>rw[r]at BG;exact congrArg some BG
  let(aiO,mN):=rt.2 i j x ly az;have hm:=Fw mN;have aI:=S.fr _ hm rfl;have aM:DS X.env.scope x:=aI.elim (λz=>.inr (.inl z)) λz=>.inr (.inr z)
  let(u,r,l):=aw j x v aiO akK aM;refine(u,r,?_);rcases l with⟨aj8,_⟩|⟨_,c,ah,B8⟩
  .rcases aI with z|z <;> (have z':X.env.kindOf x=_:=z;rw[aj8]at z';cases z')
  .refine .inr (?_,c,cr _ _ hm ah,?_)
   .exact aos mN
   .let(o,aW,hd):=B8;exact(o,k _ _ aW,hd)
 cell:=λx c e=>by
  let(v,o,aW,hd):=J.cell x c (vp e);exact(v,o,k _ _ aW,hd)
 free:=J.bf.fresh cq
 iS:=λx c e=>J.iS x c (vp e)
 pin:=λp aq=>nomatch aq
 bf:=J.bf.kept k
 len:=by unfold mx;rw[a9];exact rt.1
def Inv.adopt(J:Inv X ab σ H s)(gF:h2 X ab H a)(new:eh X.prog X.w (upd H a o) s.heap a o):Inv X ab σ (upd H a o) s:=by
 let(aL,j_,Yx,hex,wd,hc):=gF;refine J.step (g':=s.gens) (d':=s.drawn) (t':=s.toks) (h':=s.heap) (ch:=[a]) (λb ae=>?_) (λb o _ _ _ e _=>e) (λb o _ _ _ e _=>(o.slots,e)) (λb o ae e n=>?_) (λb o _ e=>(o,e))
  (λb xs e=>?_) (λb o u e=>?_) (λb ps e=>(#[],?_)) (λm hm=>hm) (λb u e=>?_) J.bare
 .have e:b=a:=by simpa using ae
  subst e;exact(hex,j_,wd,hc)
 .rw [aO (λz=>ae (by simp[z]))];exact n
 .rw [aO (cM e aL)];exact e
 .rw [aO (cM e aL)];exact e
 .rw [aO (cM e aL),e];simp
 .by_cases ae:b=a
  .subst ae;rw[aP]at e;cases e;exact new
  .rw [aO ae]at e;exact(J.bf b u e).kX (λc v _ q=>q) (λc q=>by rw[aO (cM q aL)];exact q) λc xs q=>by rw[aO (cM q aL)];exact q
end
theorem afG{prog:Program}{w:World}{A:Around}{it acc:Value}{env:Env}(J:Nat->Shared->Prop)
  (turn:∀n s,J n s->wpAny (model prog w) A (pyNext it) (λr dj=>match r with
   |none=>R (.ok .next) dj
   | some v=>wpAny (model prog w) A (letOwnedTupleGo yX it v) (λ_ fB=>wpAny (model prog w) A (assign yX env v) (λ_ d1=>
     wpAny (model prog w) A (forIn ifs true λc r=>if r=true then do let ok <- isTrue c env (eval c env);pure (yd ok)else pure (yd r)) (λok mB=>
      if ok=true then wpAny (model prog w) A (eval elt env) (λx E3=>
       wpAny (model prog w) A (call (.builtin "list.append") [acc,x]) (λ_ Wc=>∃m,m<n/\J m Wc) (λ_ _=>False) E3) (λ_ _=>False) mB
      else ∃m,m<n/\J m mB) (λ_ _=>False) d1) (λ_ _=>False) fB) (λ_ _=>False) dj) (λ_ _=>False) s)
  (n:Nat) (h:J n s) :
  codeAny (model prog w) A (.compLoop (.ListComp elt [(yX,iter,ifs,0)] scope pos) 0 it acc env) R s:=by
 refine codeAny_loop rfl J (λn s LJ=>?_) n h;show wpAny _ A ((compTurn (.ListComp elt [(yX,iter,ifs,0)] scope pos) 0 it acc env).onRaise (λx=>do noteFrame x env;theTreesLotGoes x)) _ _ s;refine wpAny_noted (wpAny_noRaise ?_);rw[compTurn_list];refine wpAny_bind (wpAny_standAt (wpAny_bind (wpAny_mono (turn n s LJ) (λr dj h₁=>?_) λ_ _ h'=>h')));cases r with
 |none=>exact wpAny_pure h₁
 | some v=>
  refine wpAny_bind (wpAny_mono h₁ (λ_ fB h₀=>?_) λ_ _ h'=>h');refine wpAny_bind (wpAny_mono h₀ (λ_ d1 wK=>wpAny_bind (wpAny_mono wK (λok mB A'=>?_) λ_ _ h'=>h')) λ_ _ h'=>h');cases ok with
  |false=>exact wpAny_pure (rfl,A')
  |true=>
   exact wpAny_bind (wpAny_bind (wpAny_mono A' (λx E3 afQ=>wpAny_bind (wpAny_mono afQ (λ_ Wc apF=>wpAny_pure (wpAny_pure (rfl,apF))) λ_ _ h'=>h')) λ_ _ h'=>h'))
def x_(X:a6)(ifs:List Expr)(t:TT):Prop:=
 ∀(ab:List (Addr×Obj)) (s:Shared) (σ:St) (H:ar) (Q:Bool->ar->Prop),Inv X ab σ H s->t σ H Q ->
  wpAny (model X.prog X.w) X.A (forIn ifs true λc r=>if r=true then do let ok <- isTrue c X.env (eval c X.env);pure (yd ok)else pure (yd r)) (Dt X ab σ Q) X.df s
def r9:TT:=λ_ H Q=>Q true H
def iB:x_ X [] r9:=λ_ _ _ H _ J h=>wpAny_tests_nil (H,J,h)
def x'{t:TT}(h:h6 X c t):x_ X [c] t:=λab s σ H Q J q=>wpAny_tests_one (h ab s σ H Q J q)
def Sub(σ aT:St):Prop:=↑aT=↑σ/\∀(i:Nat) (v:V),σ[i]?\(some v)->aT[i]?\(some v)
def so(cb:iE)(g:gr)(de:TT)(bI:TE)(dK:St)(Q:cz)(W:Nat->Nat->List V->ar->Prop):Prop:=∀i m ys H,W i m ys H ->
 (cb.stop i H/\∀p,H p=none->Q ⇑p (upd H p (.lst ys))) \/
 (cb.go i H/\↑ys<sizeLine/\∀x I,cb.qM i H x I->g x dK I λc8 ay=>Sub dK c8/\de c8 ay λc bq=>if c=true then bI c8 bq λy cc=>∃dV,dV<m/\W (i+1) dV (ys++[y]) cc else ∃dV,dV<m/\W (i+1) dV ys bq)
def JX(d3:TI)(g:gr)(de:TT)(bI:TE)(sel:List (Option Nat)):TE:=λσ H Q=>d3 σ H λcb H1=>∃W:Nat->Nat->List V->ar->Prop,(∃m,W 0 m [] H1)/\so cb g de bI (mx sel σ) Q W
section
variable{X:a6}{elt cZ iter:Expr}{ifs:List Expr}{scope:Scope}{pos:Pos}{d3:TI}{g:gr}{de:TT}{bI:TE}{N:List Str}{sel:List (Option Nat)}
structure fR(X:a6)(scope:Scope)(N:List Str)(cZ elt:Expr)(ifs:List Expr)(g:gr)(de:TT)(bI:TE):Prop where
 YR:∀C s H bQ,nr (X.block scope C N s H bQ) cZ g
 tests:∀C s H bQ,x_ (X.block scope C N s H bQ) ifs de
 elem:∀C s H bQ,bw (X.block scope C N s H bQ) elt bI
def fR.of{N:List Str}(af:∀C s H bQ,nr (X.block scope C N s H bQ) cZ g)
  (aj:∀C s H bQ,∃t,x_ (X.block scope C N s H bQ) ifs t/\t=de) (a_:∀C s H bQ,∃t,bw (X.block scope C N s H bQ) elt t/\t=bI):fR X scope N cZ elt ifs g de bI:=
 (af,λC s H bQ=>by let(t,h,rfl):=aj C s H bQ;exact h,λC s H bQ=>by let(t,h,rfl):=a_ C s H bQ;exact h)
theorem Wx{ab:List (Addr×Obj)}{d1:Shared}{σ:St}{ib:ar}{Q:cz}{it:Addr}{bQ:List Addr}{fT:Nat->Heap->Prop}{cb:iE}{W:Nat->Nat->List V->ar->Prop}{E:Value->Shared->Prop}{RR:Value->Addr->Result->Shared->Prop}
  (ah:X.calm=true) (S:q5 X.env scope) (rt:zk X.N scope N sel) (B:fR X scope N cZ elt ifs g de bI) (bK:Inv X ab σ ib d1) (T:pv X.prog X.w X.K cZ cb bQ it fT) (rG:fT 0 d1.heap) (f2:∀b∈bQ,h2 X ab ib b)
  (l_:∃m,W 0 m [] ib) (kM:so cb g de bI (mx sel σ) Q W)
  (fin:∀D C ys I s',Inv X ab σ (upd I D (.lst ys)) s'->(∃m,s'.heap.Ns C m)->h2 X ab (upd I D (.lst ys)) C->Q ⇑D (upd I D (.lst ys))->RR ⇑D C (.ok .next) s') :
  wpAny (model X.prog X.w) X.A (newList []) (λacc mB=>wpAny (model X.prog X.w) X.A (newFunctionEnv scope X.env.globals (jj X.env.cells scope.names []) [] X.env.qual none .none (some X.env)) (λV0 E3=>
   codeAny (model X.prog X.w) X.A (.compStart (.ListComp elt [(cZ,iter,ifs,0)] scope pos) 0 ⇑it acc {V0 with scope:=relabel scope X.env}) (RR acc V0.locals) E3) E mB) E d1:=by
 refine wpAny_newObj_type (wpAny_newFunctionEnv S.DL (by intro y bg;simp at bg) (λh₁ NT E_=>?_) S.kind);dsimp only at NT E_⊢;generalize rO:d1.heap.push {cls:=.type "list",dict:=none,data:=.seq ([]:List Value).toArray}=ay at NT E_⊢;have cq:ay.objs.size=↥d1+1:=by rw[<- rO,xY]
 have yp:↥d1≠ay.objs.size:=by rw[cq];exact fM (TA _)
 have L9:↥d1<=ay.objs.size:=by rw[cq];exact uE _
 have below:∀b,b<↥d1->b≠ay.objs.size/\b≠↥d1:=λb ae=>(by rw[cq];exact fM (Q3 ae),fM ae)
 have old:∀b o,d1.heap.get? b\o->h₁.get? b\o:=λb o e=>E_.extBut b o (below b (dO e)).1 (dX _ (rO ▸ dX _ e))
 have nL:h₁.get? ↥d1=some {cls:=.type "list",data:=.seq ([]:List Value).toArray}:=E_.extBut _ _ yp (dX _ (rO ▸ e7 _ rfl));have zh:∀b∈bQ,b<↥d1:=λb ae=>by
  let(o,e,_):=T.obj _ _ rG b ae;exact dO e
 generalize asx:ay.objs.size=C at *;generalize o6:↥d1=D at *;have XW:fT 0 h₁:=T.keep _ _ _ rG λb _ o e=>old b o e
 have amv:Inv (X.block scope C N d1 ib bQ) [] (mx sel σ) ib {d1 with heap:=h₁,toks:=d1.toks+↑([]:List (Str×Value))}:=
  aii bK S f2 (λb ae=>by rw[o6];exact zh b ae) (by rw[o6];exact L9) old NT rt
 have LY:D∉(X.block scope C N d1 ib bQ).aR:=λz=>by
  have z':=bK.BB D z;rcases cT.mp z' with e|e
  .exact absurd bK.lt (by rw[<- e,o6];exact qW _)
  .exact bK.UR (by rw[o6];exact b0 _) e
 have loop:∀mB:Shared,mB={d1 with heap:=h₁,toks:=d1.toks+↑([]:List (Str×Value))} ->
   codeAny (model X.prog X.w) X.A (.compLoop (.ListComp elt [(cZ,iter,ifs,0)] scope pos) 0 ⇑it ⇑D (compEnvC scope (jj X.env.cells scope.names []) C X.env)) (RR ⇑D C) mB:=by
  rintro mB rfl;let(m0,l_):=l_;refine afG (λk s'=>∃i ys us n I,Inv (X.block scope C N d1 ib bQ) [(p'p D ({cls:=.type "list",data:=.seq us n}))] (mx sel σ) I s'/\(∃vs:List Value,us=vs.toArray/\bW ys vs)/\↑ys<=sizeLine/\fT i s'.heap/\(∀b∈bQ,I b=none)/\W i k ys I) ?_ m0
   (0,[],_,0,ib,amv.Ac λp aq=>?_,([],rfl,.nil),gx _,XW,λb ae=>(f2 b ae).1,l_)
  .rintro k s' ⟨i,ys,us,n,I,ry,⟨vs,rfl,cf⟩,XU,st,fr,w⟩;have Gv:∀{pl:List (Addr×Obj)} {vM:ar},(∀p∈pl,p.1=D)->(∀b∈bQ,vM b=none)->∀b∈bQ,h2 (X.block scope C N d1 ib bQ) pl vM b:=fun {pl vM} aq aL b ae=>
    (aL b ae,(below b (zh b ae)).1,(V8 (N:=N) (C:=C) bK S f2 (λb ae=>by rw[o6];exact zh b ae) (by rw[o6];exact L9)).qG b ae,.inl ae,λx c e=>(f2 b ae).2.2.2.2.1 x c (vp e),λp Ez z=>by
     have ani:p∈pl:=by simpa using Ez
     exact(below b (zh b ae)).2 (by rw[<- z];exact aq p ani))
   have Kk:∀p∈[((p'p D ({cls:=.type "list",data:=.seq vs.toArray n})):Addr×Obj)],p.1=D:=λp aq=>by
    have e:p=(p'p D ({cls:=.type "list",data:=.seq vs.toArray n})):=by simpa using aq
    rw[e]
   rcases kM i k ys I w with⟨stop,wJ⟩|⟨go,hlen,step⟩
   .refine bG (T.done (X.block scope C N d1 ib bQ) rfl rfl rfl ah i _ s' _ I _ ry (Gv Kk fr) st stop) λr s4 ck=>?_
    let(au,jT):=ck;subst au;have tZ:=jT.pin (p'p D ({cls:=.type "list",data:=.seq vs.toArray n})) (by simp);have Pz:I D=none:=tZ.2.1;have alm:Inv X ab σ I s4:=bK.w2 (ch:=bQ) jT.os jT.base jT.bf jT.bare λb ae=>((f2 b ae).2.2.2.1,(f2 b ae).2.1,(f2 b ae).2.2.2.2.1,(f2 b ae).2.2.2.2.2)
    have t6:h2 X ab I D:=bK.mv (by rw[o6];exact b0 _) Pz;have Ia:Inv X ab σ (upd I D (.lst ys)) s4:=alm.adopt t6 (XU,vs,n,cf,tZ.1);let(abM,ak2,_):=jT.loc;refine fin D C ys I s4 Ia (abM,ak2) (bK.mv (by rw[o6];exact L9) ?_) (wJ D Pz);rw[aO (dB yp)];exact jT.free
   .refine bG (T.item (X.block scope C N d1 ib bQ) rfl rfl rfl ah i _ s' _ I _ ry (Gv Kk fr) st go) λr s4 ck=>?_
    let(u,au,b'):=ck;subst au;refine bG b' λ_ s5 ck=>?_
    let(x,cQ,y8,IH,J8,sF,MX):=ck;have Ln:=y8.pinned (Gv Kk MX) (T.obj _ _ sF);refine bG (B.YR C d1 ib bQ _ s5 _ cQ x u _ Ln IH (step x cQ J8)) λ_ jr ck=>?_
    let(nd,eQ,mV,hs,L4):=ck;refine bG (B.tests C d1 ib bQ _ jr nd eQ _ mV L4) λc ma ck=>?_
    let(hN,ku,n6):=ck;have again:∀{MC:St} {h7:ar} {l3:Shared},Inv (X.block scope C N d1 ib bQ) ([(p'p D ({cls:=.type "list",data:=.seq vs.toArray n}))]++TD bQ s5.heap) MC h7 l3->fT (i+1) l3.heap/\(∀b∈bQ,h7 b=none):=λ{MC h7 l3} pZ=>by
     refine(T.keep _ _ _ sF λb ae o e=>(pZ.pin (p'p b o) (p6 _ (p6 _ (Fo ae e)))).1,λb ae=>?_);let(o,e,d):=T.obj _ _ sF b ae;exact(pZ.pin (p'p b o) (p6 _ (p6 _ (Fo ae e)))).2.1
    have back:∀{h7:ar} {l3:Shared} {pl:List (Addr×Obj)},Inv (X.block scope C N d1 ib bQ) pl nd h7 l3->Inv (X.block scope C N d1 ib bQ) pl (mx sel σ) h7 l3:=λ{h7 l3 pl} pZ=>pZ.weak hs.1.symm hs.2
    cases c with
    |false=>
     let(dV,hm,fQ):=n6;let(t1,ya):=again ku;exact(dV,hm,i+1,ys,_,n,hN,back ku.B7,(vs,rfl,cf),XU,t1,ya,fQ)
    | true=>
     refine bG (B.elem C d1 ib bQ _ ma nd hN _ ku n6) λv l3 ck=>?_
     let(y,h7,pZ,aoA,dV,hm,fQ):=ck;let(t1,ya):=again pZ;have tZ:=pZ.pin (p'p D ({cls:=.type "list",data:=.seq vs.toArray n})) (by simp);refine append_at (hsz:=by have:=↑cf;rw[d2];omega) tZ.1 λHn SD ajX=>?_
     have apM:Inv (X.block scope C N d1 ib bQ) [] (mx sel σ) h7 l3:=(back pZ).Ac λp aq=>nomatch aq
     have t6:h2 (X.block scope C N d1 ib bQ) [] h7 D:=(tZ.2.1,yp,LY,.inr (by show ↥d1<=D;rw[o6];exact b0 _),(λx c e z=>by
      let(ati,o,aW,hd):=pZ.cell x c e;rw[z,tZ.1]at aW;cases aW;cases hd),(λp aq=>nomatch aq))
     have acH:Inv (X.block scope C N d1 ib bQ) [] (mx sel σ) h7 {l3 with heap:=Hn}:=apM.turned (t':=l3.toks) (it:=D) (λb o ae e=>(SD.2 b ae).trans e) t6.1 t6.2.1 t6.2.2.2.1 t6.2.2.2.2.1 t6.2.2.2.2.2;refine(dV,hm,i+1,ys++[y],vs.toArray.push v,n+1,h7,acH.Ac λp aq=>?_,(vs++[v],by simp,Vz cf aoA),by rw[c',CQ];omega,T.keep _ _ _ t1 λb ae o e=>(SD.2 b (below b (zh b ae)).2).trans e,ya,fQ);have e:p=(p'p D ({cls:=.type "list",data:=.seq (vs.toArray.push v) (n+1)})):=by simpa using aq
     subst e;exact(ajX,tZ.2.1,yp,LY,λv z=>by cases z)
  .have e:p=(p'p D ({cls:=.type "list",data:=.seq ([]:List Value).toArray})):=by simpa using aq
   subst e;exact(nL,bK.bf.fresh (by rw[o6];exact b0 _),yp,LY,λv z=>by cases z)
 exact codeAny_compStart_list (loop _ rfl) (T.self _ 0 _ _ _ XW (loop _ rfl))
def iz(ah:X.calm=true)(ao:l9 X cZ iter d3)(S:q5 X.env scope)(rt:zk X.N scope N sel)(B:fR X scope N cZ elt ifs g de bI)
  (aB:∀x,foldedSetIterable iter X.env x=pure x:=by intro _;rfl):bw X (.ListComp elt [(cZ,iter,ifs,0)] scope pos) (JX d3 g de bI sel):=by
 intro ab s σ H Q J h;rw[eval_ListComp];refine wpAny_comprehension_free (use:=none) rfl aB (VW (S.cells J.ok)) S.kind S.loc ?_;refine bG (ao ab s σ H _ J h) λv s1 af=>bG af λEO s2 aj=>?_
 let(it,bQ,fT,cb,ay,e,bK,T,rG,f2,W,l_,kM):=aj;subst e;refine Wx (RR:=λacc C=>compPost (model X.prog X.w) X.A X.df none (gX X ab σ Q) acc C) ah S rt B bK T rG f2 l_ kM λD C ys I s' jZ ⟨m,hm⟩ gF q=>?_
 exact(m,hm,λh' Ax=>(⇑D,_,jZ.turned (t':=s'.toks) (it:=C) (λb o ae e=>(Ax.2 b ae).trans e) gF.1 gF.2.1 gF.2.2.2.1 gF.2.2.2.2.1 gF.2.2.2.2.2,rfl,q))
def zv{i:Nat}{y:Str}{py Zj:Pos}(bc:X.N.Nodup)(ao:X.N[i]?\y)(ai:Loc X.env.scope y)(ah:X.calm=true)(hit:l9 X cZ iter d3)(S:q5 X.env scope)(rt:zk X.N scope N sel)(B:fR X scope N cZ elt ifs g de bI)
  (afe:swapsWith (.ListComp elt [(cZ,iter,ifs,0)] scope pos) (some (.Name y py)) Zj.line X.env=pure true) (hf:X.fn y=true\/X.env.scope.names.lookup y\.local:=by first|exact .inl rfl|exact .inr rfl|assumption)
  (aB:∀x,foldedSetIterable iter X.env x=pure x:=by intro _;rfl):gv X (.Assign [.Name y py] (.ListComp elt [(cZ,iter,ifs,0)] scope pos) Zj) (uN (JX d3 g de bI sel) (gu i)):=by
 intro ab s σ H D J h;rw[exec_Assign_Name_used _ _ _ _ afe];refine wpAny_bind (wpAny_standAt (wpAny_bind ?_));show wpAny _ X.A (do let _ <- comprehension (.ListComp elt [(cZ,iter,ifs,0)] scope pos) scope X.env _ (newList []) false (eval iter X.env) (some (assign (.Name y py) X.env))) _ _ s;refine wpAny_bind (wpAny_mono (wpAny_comprehension_free (use:=some (assign (.Name y py) X.env)) (Q:=λ_ s'=>iR X ab D .next s') rfl aB (VW (S.cells J.ok)) S.kind S.loc ?_) (λ_ s' aF=>wpAny_pure (wpAny_pure aF)) λ_ _ e=>e);refine bG (hit ab s σ H _ J h) λv s1 af=>bG af λEO s2 aj=>?_
 let(it,bQ,fT,cb,ay,e,bK,T,rG,f2,W,l_,kM):=aj;subst e;refine Wx (RR:=λacc C=>compPost (model X.prog X.w) X.A X.df (some (assign (.Name y py) X.env)) (λ_ s'=>iR X ab D .next s') acc C) ah S rt B bK T rG f2 l_ kM λDa C ys I s' jZ ⟨m,hm⟩ gF q=>?_
 show wpAny _ X.A (assign (.Name y py) X.env ⇑Da) _ _ _;refine wpAny_assign_Name (XT jZ bc ao ai (show bN ⇑Da ⇑Da from rfl) (λs3 eA ck=>?_) hf);let(a,Ax,aJ):=ck;have alU:C≠a:=by
  rcases aJ with z|z
  .rw [z];exact gF.2.1
  .exact λw=>gF.2.2.2.2.1 y a z w.symm
 refine(m,hm.sameBut Ax alU,λh' ac6=>(_,_,eA.turned (t':=s3.toks) (it:=C) (λb o ae e=>(ac6.2 b ae).trans e) gF.1 gF.2.1 gF.2.2.2.1 gF.2.2.2.2.1 gF.2.2.2.2.2,q))
end
def qP(Pv:Nat->List V->ar->Prop)(g:gr)(de:TT)(bI:TE)(dK:St)(i:Nat)(x:V)(ys:List V)(H:ar):Prop:=
 ∀N:List V->ar->Prop,(∀jG I,Pv (i+1) jG I->N jG I)->g x dK H λc8 ay=>Sub dK c8/\de c8 ay λc bq=>if c=true then bI c8 bq λy cc=>N (ys++[y]) cc else N ys bq
def anv{K:a'}(Pv:Nat->List V->ar->Prop)(ax:↑xs<=sizeLine)(h0:Pv 0 [] H)(aw:∀i ys H,i<=↑xs->Pv i ys H->aH K H a xs/\↑ys<=i)
  (aB:∀i x ys H,xs[i]?\x->Pv i ys H->qP Pv g de bI dK i x ys H) (hd:∀ys H,Pv ↑xs ys H->∀p,H p=none->Q ⇑p (upd H p (.lst ys))) :
  ∃W:Nat->Nat->List V->ar->Prop,(∃m,W 0 m [] H)/\so (oX K a) g de bI dK Q W:=by
 refine(λi m ys H=>m=↑xs-i/\i<=↑xs/\Pv i ys H,(↑xs,by simp,gx _,h0),?_);intro i m ys H (rfl,ao,p);have q:=(aw i ys H ao p).1;have Fh:=(aw i ys H ao p).2;by_cases cD:i<↑xs
 .refine .inr ((xs,xs[i],q,by simp[cD]),(),λx I y=>?_);let(e,y):=y;subst e;exact aB i x ys _ (y xs q) p (λjG I=>∃dV,dV<↑xs-i/\dV=↑xs-(i+1)/\i+1<=↑xs/\Pv (i+1) jG I) λjG I r=>(↑xs-(i+1),(),rfl,cD,r)
 .have e:i=↑xs:=()
  subst e;exact .inl ((xs,q,b0 _),hd ys H p)
def Ry{K:a'}(Pv:Nat->List V->ar->Prop)(ax:↑xs<=sizeLine)(h0:Pv 0 [] H)(aw:∀i ys H,i<=↑xs->Pv i ys H->b1 K H a xs/\↑ys<=i)
  (aB:∀i x ys H,xs[i]?\x->Pv i ys H->qP Pv g de bI dK i x ys H) (hd:∀ys H,Pv ↑xs ys H->∀p,H p=none->Q ⇑p (upd H p (.lst ys))) :
  ∃W:Nat->Nat->List V->ar->Prop,(∃m,W 0 m [] H)/\so (BE K a) g de bI dK Q W:=by
 refine(λi m ys H=>m=↑xs-i/\i<=↑xs/\Pv i ys H,(↑xs,by simp,gx _,h0),?_);intro i m ys H (rfl,ao,p);have q:=(aw i ys H ao p).1;have Fh:=(aw i ys H ao p).2;by_cases cD:i<↑xs
 .refine .inr ((xs,xs[i],q,by simp[cD]),(),λx I y=>?_);let(e,y):=y;subst e;exact aB i x ys _ (y xs q) p (λjG I=>∃dV,dV<↑xs-i/\dV=↑xs-(i+1)/\i+1<=↑xs/\Pv (i+1) jG I) λjG I r=>(↑xs-(i+1),(),rfl,cD,r)
 .have e:i=↑xs:=()
  subst e;exact .inl ((xs,q,b0 _),hd ys H p)
def Zx{lo:Int}{n:Nat}{g:gr}{de:TT}{bI:TE}{dK:St}{Q:cz}{H:ar}(Pv:Nat->List V->ar->Prop)(ax:n<=sizeLine)(h0:Pv 0 [] H)(aw:∀i ys H,i<=n->Pv i ys H->↑ys<=i)
  (aB:∀i ys H,i<n->Pv i ys H->qP Pv g de bI dK i (.int (lo+i)) ys H) (hd:∀ys H,Pv n ys H->∀p,H p=none->Q ⇑p (upd H p (.lst ys))) :
  ∃W:Nat->Nat->List V->ar->Prop,(∃m,W 0 m [] H)/\so (kY lo n) g de bI dK Q W:=by
 refine(λi m ys H=>m=n-i/\i<=n/\Pv i ys H,(n,by simp,gx _,h0),?_);intro i m ys H (rfl,ao,p);have Fh:=aw i ys H ao p;by_cases cD:i<n
 .refine .inr (cD,(),λx I y=>?_);let(e,y):=y;subst e y;exact aB i ys _ cD p (λjG I=>∃dV,dV<n-i/\dV=n-(i+1)/\i+1<=n/\Pv (i+1) jG I) λjG I r=>(n-(i+1),(),rfl,cD,r)
 .have e:i=n:=()
  subst e;exact .inl (b0 _,hd ys H p)
noncomputable def zV(xs:List V):iE:=(λi _=>i<↑xs,λi H x I=>I=H/\xs[i]?\x,λi _=>↑xs<=i)
def UU{w:World}{K:a'}{it:Addr}{St:Nat->Heap->Prop}(kM:∀A:Around,A.handled=none->Walks P w A it [it] [it] ↑xs ac1 St)
  (d9:∀i v,ac1 i v->∃x,xs[i]?\x/\bN x v)
  (wq:∀i h,St i h->∃o n vs,h.get? it\o/\o.cls=.type n/\o.data=.fields vs/\["enumerate","zip","dict_itemiterator","dict_reverseitemiterator","odict_iterator","itertools.zip_longest","itertools.pairwise"].contains n=false)
  (mN:∀i h h',St i h->(∀o,h.get? it\o->h'.get? it\o)->St i h')
  (ad0:∀(A:Around) (i:Nat) (s:Shared) (Q:Value->Shared->Prop) (E:Value->Shared->Prop),St i s.heap->Q ⇑it s->wpAny (model P w) A (pyIter ⇑it) Q E s) :
  pv P w K cZ (zV xs) [it] it (λi h=>i<=↑xs/\St i h)where
 mem:=by simp
 obj:=λi h st b ae=>by
  have e:b=it:=by simpa using ae
  subst e;let(o,n,vs,e,_,d,_):=wq i h st.2;exact(o,e,λv z=>by rw[d]at z;cases z)
 keep:=λi h h' st k=>(st.1,mN i h h' st.2 λo e=>k it (by simp) o e)
 item:=by
  intro X qU hw eS ah i ab s σ H E J hf st a0;subst qU hw eS;let(f0,f1,f2,eP,f4,fA):=hf it (by simp);refine(kM X.A (J.ok.hd ah)).item i s _ _ a0 st.2 λv h' cB aM jR kb=>?_
  let(x,ai,bh):=d9 i v aM;have aU:Inv X ab σ H {s with heap:=h',toks:=cB}:=J.turned (λb o ae e=>kb b o (by simpa using ae) e) f0 f1 eP f4 fA;let(o,n,vs,e,c,d,nm):=wq _ _ jR;exact(v,rfl,wG (s:={s with heap:=h',toks:=cB}) e c d nm (x,H,aU,bh,(rfl,ai),(a0,jR),λb ae=>(hf b ae).1))
 done:=by
  intro X qU hw eS ah i ab s σ H E J hf st a0;subst qU hw eS;let(f0,f1,f2,eP,f4,fA):=hf it (by simp);have e:i=↑xs:=Nat.le_antisymm st.1 a0;subst e;exact(kM X.A (J.ok.hd ah)).done s _ _ st.2 λh' cB kb=>(rfl,J.turned (λb o ae e=>kb b o (by simpa using ae) e) f0 f1 eP f4 fA)
 self:=λA i s Q E st h=>ad0 A i s Q E st.2 h
noncomputable def i4(c:Nat):Str:=⟨#[c]⟩
noncomputable def n1(x:Str):List V:=x.cps.toList.map λc=>V.str (i4 c)
def S8(x:Str):↑(n1 x)=x.cps.size:=by unfold n1;simp
def akd{x:Str}{i c:Nat}(h:x.cps[i]?\c):(n1 x)[i]?\(.str (i4 c)):=by
 unfold n1;rw[d7,Ko,h];rfl
def N_{x:Str}{i:Nat}{v:Value}(h:SignAt x i v):∃y,(n1 x)[i]?\y/\bN y v:=by
 let(c,u,ah,rfl):=h;exact(.str (i4 c),akd ah,u,rfl)
section
variable{X:a6}{cZ:Expr}
def Nz(dp:TE):TI:=λσ H R=>dp σ H λx H1=>∃z,x=.str z/\R (zV (n1 z)) H1
theorem ah5(aw:bw X l dp):l9 X cZ l (Nz dp):=by
 intro ab s σ H R J h;refine bG (aw ab s σ H _ J h) λv s1 cm=>eo cm λx H1 aU bX bM=>?_
 let(z,e,q):=bM;subst e;let(t,rfl):=bX;have gF:∀b∈[↥s1],h2 X ab H1 b:=λb ae=>by
  have e:b=↥s1:=by simpa using ae
  subst e;exact aU.mv (b0 _) (aU.bf.fresh (b0 _))
 have ax:=S8 z;cases aJ:z.cps.all (· < 128)with
 | false=>
  refine wpAny_pyIter_wide aJ (↥s1,[↥s1],λi h=>i<=↑(n1 z)/\h.IsStrIter ↥s1 "str_iterator" z t i,_,H1,rfl,aU.kept (t':=s1.toks) λb o e=>dX _ e,
   UU (λA f'=>by rw[ax];exact Walks.strWide f' _ z t) (λi v=>N_) (λi h ⟨o,e,c,d⟩=>(o,_,_,e,c,d,∅)) (λi h h' ⟨o,e,r⟩ k=>(o,k o e,r)) (λA i s Q E st q=>wpAny_pyIter_striter_wide st q),
   (gx _,_,e7 _ rfl,rfl,rfl),gF,q)
 | true=>
  refine wpAny_pyIter_ascii aJ (↥s1,[↥s1],λi h=>i<=↑(n1 z)/\h.IsStrIter ↥s1 "str_ascii_iterator" z t i,_,H1,rfl,aU.kept (t':=s1.toks) λb o e=>dX _ e,
   UU (λA f'=>by rw[ax];exact Walks.strAscii f' _ z t) (λi v=>N_) (λi h ⟨o,e,c,d⟩=>(o,_,_,e,c,d,∅)) (λi h h' ⟨o,e,r⟩ k=>(o,k o e,r)) (λA i s Q E st q=>wpAny_pyIter_striter_ascii st q),
   (gx _,_,e7 _ rfl,rfl,rfl),gF,q)
end
def WP(Pv:Nat->List V->ar->Prop)(ax:↑xs<=sizeLine)(h0:Pv 0 [] H)(aw:∀i ys H,i<=↑xs->Pv i ys H->↑ys<=i)
  (aB:∀i x ys H,xs[i]?\x->Pv i ys H->qP Pv g de bI dK i x ys H) (hd:∀ys H,Pv ↑xs ys H->∀p,H p=none->Q ⇑p (upd H p (.lst ys))) :
  ∃W:Nat->Nat->List V->ar->Prop,(∃m,W 0 m [] H)/\so (zV xs) g de bI dK Q W:=by
 refine(λi m ys H=>m=↑xs-i/\i<=↑xs/\Pv i ys H,(↑xs,by simp,gx _,h0),?_);intro i m ys H (rfl,ao,p);have Fh:=aw i ys H ao p;by_cases cD:i<↑xs
 .refine .inr (cD,(),λx I y=>?_);let(e,y):=y;subst e;exact aB i x ys _ y p (λjG I=>∃dV,dV<↑xs-i/\dV=↑xs-(i+1)/\i+1<=↑xs/\Pv (i+1) jG I) λjG I r=>(↑xs-(i+1),(),rfl,cD,r)
 .have e:i=↑xs:=()
  subst e;exact .inl (b0 _,hd ys H p)
section
variable{X:a6}
def Mp:V->Option Int->Option Int->ar->cz->Prop:=λx lo ao H Q=>∃z,x=.str z/\↑z<=sizeLine/\Q (.str (qD z lo ao)) H
theorem Jx:DZ X Mp:=by
 intro ab s σ H x v jJ jD lo ao aX Q J bh aB pl pu h;let(z,rfl,ax,q):=h;let(t,rfl):=bh;refine("str",_,F.slot_str_getitem.lookup,typeIs_str s z t,?_);have fin:∀t' k,gX X ab σ Q (.str (qD z lo ao) t') {s with toks:=k}:=λt' k=>(.str _,H,J.tok _,(_,rfl),q)
 cases pl with
 |none=>
  cases pu with
  |none=>exact wpAny_getItem_str_slice (l:=none) (u:=none) (st:=none) aB rfl (post_val_or_str (cH (Fi z _ _) ax,fin))
  |int j NJ=>exact wpAny_getItem_str_slice (l:=none) (u:=some (p'p j NJ)) (st:=none) aB rfl (post_val_or_str (cH (Fi z _ _) ax,fin))
 |int i TJ=>
  cases pu with
  |none=>exact wpAny_getItem_str_slice (l:=some (p'p i TJ)) (u:=none) (st:=none) aB rfl (post_val_or_str (cH (Fi z _ _) ax,fin))
  |int j NJ=>exact wpAny_getItem_str_slice (l:=some (p'p i TJ)) (u:=some (p'p j NJ)) (st:=none) aB rfl (post_val_or_str (cH (Fi z _ _) ax,fin))
noncomputable def bz(ys:List Str):List V:=ys.map V.str
theorem Zo:∀{ys:List Str} {us:List Value},bW (bz ys) us->StrsAre us ys:=by
 intro ys
 induction ys with
 |nil=>intro us r;cases r;exact .nil
 | cons y ys b9=>
  intro us r;cases r with
  |cons bX c4=>
   let(t,rfl):=bX;exact .cons y t (b9 c4)
theorem VX:∀(l:List (Str×Tok)),bW (bz (l.map (·.1))) (strValues l)
 |[]=>.nil
 |(x,t)::r=>.cons (t,rfl) (VX r)
def MN(K:a'):V->List V->ar->cz->Prop:=λx vs H Q=>∃sep p ys,x=.str sep/\vs=[⇑p]/\aH K H p (bz ys)/\(ys.map (·.length)).sum+↑ys*↑sep<=16777216/\Q (.str (iT sep ys)) H
def vT:nv X "str.join" (MN X.K):=by
 intro ab s σ H x xs v us Q J bh cf h;let(sep,p,ys,rfl,rfl,aF,ax,q):=h;let(t,rfl):=bh;let(u,rfl,ed):=k1 cf;cases ed;let(a5,r,pl,_):=J.list aF;exact join_list pl.isList (by simpa using Zo r) ax λt' k=>(.str _,H,J.tok _,(_,rfl),q)
end
def aca {prog:Program} {w:World} {A:Around} {x y:Str} {t u:Tok} (bg:(↑y==0)=false)
  (h:∀l k,l.map (·.1)=g8 x y->Q (.ref ↥s) {s with heap:=s.heap.push {cls:=.type "list",data:=.seq (strValues l).toArray},toks:=k}) (hsz:↑x+2<=sizeLine) :
  wpAny (model prog w) A (call (.builtin "str.split") [.str x t,.str y u]) Q E s:=by
 have aL:↑(apq x (m' x y 0 ↑x (↑x+1)) ↑y)<=sizeLine:=by
  have az:=StrLaws.occ_length_le x y 0 ↑x (↑x+1);rw[length_partsBetween];omega
 cases af:(decide (↑x<↑y)||decide (aen x<aen y))
 .cases hf:(m' x y 0 ↑x (↑x+1)).isEmpty
  .refine call_meets vo (typeIs_str _ _ _) WT (V6 _ _) (meets_str_split_sep x y t u af bg hf () aL) ?_;show wants Q E _ {s with toks:=_,heap:=s.heap.push {cls:=.type "list",data:=.seq (strsFrom s.toks (apq x (m' x y 0 ↑x (↑x+1)) ↑y)).toArray} };rw[strsFrom_eq];exact h (numbered s.toks _) _ ((numbered_texts _ _).trans ((if_neg (ne_true_of_eq_false af)).trans (if_neg (ne_true_of_eq_false hf))).symm)
  .exact call_meets vo (typeIs_str _ _ _) WT (V6 _ _) (meets_str_split_not_found x y t u af bg hf)
    (h [(p'p x t)] s.toks ((if_neg (ne_true_of_eq_false af)).trans (if_pos hf)).symm)
 .exact call_meets vo (typeIs_str _ _ _) WT (V6 _ _) (meets_str_split_cannot_occur x y t u af)
   (h [(p'p x t)] s.toks (if_pos af).symm)
section
variable{X:a6}
def Ie:V->List V->ar->cz->Prop:=λx vs H Q=>∃z y,x=.str z/\vs=[.str y]/\↑y≠0/\↑z+2<=sizeLine/\↑(g8 z y)<=sizeLine/\∀p,H p=none->Q ⇑p (upd H p (.lst (bz (g8 z y))))
def Fj:nv X "str.split" Ie:=by
 intro ab s σ H x xs v us Q J bh cf h;let(z,y,rfl,rfl,bg,ax,aL,q):=h;let(t,rfl):=bh;let(u,rfl,ed):=k1 cf;let(qC,rfl):=ed;refine aca (by simpa using bg) (λl k aw=>?_) ax;refine(.ref ↥s,_,J.laid (t':=k) (o:=.lst (bz (g8 z y))) (λb o e=>dX _ e) (b0 _) (by unfold bz;rw[a9];exact aL,strValues l,0,by rw[<- aw];exact VX l,e7 _ rfl),rfl,q _ (J.bf.fresh (b0 _)))
def FR:lh X (.type "int") (λxs H Q=>∃z n,xs=[.str z]/\intText? z\n/\↑z<=640/\Q (.int n) H):=by
 intro ab s σ H xs us Q J r h;let(z,n,rfl,aL,ax,q):=h;let(u,rfl,t,rfl):=k1 r;exact PySem.W.KIN.call_text aL ax (.int n,H,J.tok _,(_,rfl),q)
theorem Ub:∀{bs:List Bool} {us:List Value},bW (bs.map V.bE) us->us=bs.map lM
 |[],_,.nil=>rfl
 |b::bs,_,.cons r t=>by
  have e:_=lM b:=r;rw[e,Ub t];rfl
theorem afA{A:Around}(bs:List Bool):TruthOf X.prog X.w A (λi v=>(bs.map lM).toArray[i]?\v) (λi=>bs.getD i true):=by
 intro i v s Q E d9 aV;have e:(bs.map lM)[i]?\v:=by simpa using d9
 rw[d7]at e;cases q:bs[i]? with
 |none=>rw[q]at e;cases e
 |some b=>
  rw[q]at e;have bZ:lM b=v:=d6 e;subst bZ;refine wpAny_truthy_bool ?_;have:bs.getD i true=b:=by simp[P0,q]
  have S7:Q (bs.getD i true) s:=aV;rw[this]at S7;exact S7
def aaF(bs:List Bool):(el ↑bs).all (λi=>bs.getD i true)=bs.all id:=by
 rw[mQ];simp only[oe,pd,id];constructor
 .intro h b ae;let(i,ao,e):=List.mem_iff_getElem.mp ae;have:=h i ao;simp[P0,ao,e]at this;exact this
 .intro h i ao;simp[P0,ao];exact h _ (nH ao)
def aqz(ah:X.calm=true):lh X (.builtin "all") (λxs H Q=>∃(p:Addr) (bs:List Bool),xs=[⇑p]/\aH X.K H p (bs.map V.bE)/\Q (.bE (bs.all id)) H):=by
 intro ab s σ H xs us Q J r h;let(p,bs,rfl,aF,q):=h;let(u,rfl,ed):=k1 r;cases ed;let(a5,cf,pl,_):=J.list aF;have e:=Ub cf;subst e;refine call_all_walk (wpAny_pyIter_list pl.isList ?_);have b8:p≠↥s:=fM (by let(o,_,aW,_):=pl;exact dO aW);refine(↥s,_,_,_,_,_,λi=>bs.getD i true,rfl,ajc (show X.A.in1.handled=none from J.ok.hd ah) _ p b8 (bs.map lM).toArray,((_,e7 _ rfl,rfl,rfl),pl.isList.at λo e=>dX _ e),afA bs,λh' cB kb=>?_);refine(.bE (bs.all id),H,J.kept λb o e=>kb b o (by simpa using fM (dO e)) (dX _ e),?_,q);show lM _=lM _;rw[show(bs.map lM).toArray.size=↑bs by simp,aaF]
end
def fk{X:a6}{N:List Str}(h:N.Nodup)(e:X.N=N):X.N.Nodup:=e ▸ h
noncomputable def Sn(sc scope:Scope):Bool:=
 (scope.kind == .function)&&scope.names.all (λy=>y.2 != .cell)&&scope.names.all (λy=>y.2 != .free||sc.names.lookup y.1==some .cell||sc.names.lookup y.1==some .free) &&
  scope.names.all (λy=>y.2 != .local||scope.names.lookup y.1==some .local)
def hi{env:Env}(he:env.scope=sc)(h:Sn sc scope=true):q5 env scope:=by
 subst he;unfold Sn at h;simp only[jt,oe]at h;let(((af,aj),a_),b'):=h;refine(by simpa using af,λy bg e=>?_,λy bg e=>?_,λy bg e=>?_)
 .have:=aj y bg;rw[e]at this;exact absurd this ∅
 .have:=a_ y bg;rw[e]at this;simp only[x5]at this;rcases this with(z|z)|z
  .exact absurd z ∅
  .exact .inl (show env.scope.names.lookup y.1\.cell by simpa using z)
  .exact .inr (show env.scope.names.lookup y.1\.free by simpa using z)
 .have:=b' y bg;rw[e]at this;simp only[x5]at this;rcases this with z|z
  .exact absurd z ∅
  .simpa using z
noncomputable def Rr(M:List Str)(scope:Scope)(N:List Str)(sel:List (Option Nat)):Bool:=
 ↑sel==↑N&&(sel.zip N).all λp=>match p.1 with|none=>true|some j=>M[j]? == some p.2&&scope.names.lookup p.2==some .free
def ha{N:List Str}(h:Rr M scope N sel=true):zk M scope N sel:=by
 unfold Rr at h;simp only[jt,oe]at h;refine(by simpa using h.1,λi j x az aE=>?_);have hm:(p'p (some j) x)∈sel.zip N:=by
  rw[List.mem_iff_getElem?];exact(i,by rw[apO];exact(az,aE))
 have:=h.2 _ hm;simp only[jt]at this;exact(by simpa using this.1,by simpa using this.2)
noncomputable def qE:eY->Bool
 | .kC _=>false
 | .eO _ u=>qE u
 |_=>true
def aG(H:ar):Prop:=∀b o,H b\o->qE o=true
theorem eh.back{w:World}{h h':Heap}:∀(o:eY),qE o=true->eh P w I h' a o->eh P w H h a o->eh P w H h' a o
 | .lst _,_,x,_=>x
 | .tup _,_,x,_=>x
 | .bL _,_,x,_=>x
 | .kC _,e,_,_=>absurd e (by unfold qE;decide)
 | .set _ _,_,x,_=>x
 | .ins _ _ _,_,x,y=>(y.1,x.2)
 | .own _,_,x,_=>x
 | .Dg _,_,x,_=>x
 | .met _ _,_,x,_=>x
 | .CH _ _,_,x,_=>x
 | .eO b_ u,e,x,y=>(x.1,eh.back u (by unfold qE at e;exact e) x.2 y.2)
 | .rz _,_,x,_=>x
 | .ext _,_,x,_=>x
section
variable{P:Program}{w:World}{K:a'}{av:Str->Option Value}{base:Heap}
theorem bD.forget{k:Nat}{fd:FuncData}(F:bD P w K av base cN k f fd ps sp)
  (h:∀vs H Q E,ff vs H Q E->aG H/\sp vs H (λv I=>aC H I/\Q v H) E):bD P w K av base cN k f fd ps ff:=by
 refine(λvs H Q E q=>F.len vs H _ E (h vs H Q E q).2,λA outer s H args us vs Q E au he ae aM aB=>?_);let(a8,q):=h vs H Q E aB;refine codeAny_mono (F.run A outer s H args us vs _ E au he ae aM q) λr s' aF=>?_
 cases r with
 |error e=>exact aF
 | ok ec=>
  cases ec with
  |next=>exact aF
  |brk=>exact aF
  |cont=>exact aF
  |ret u=>
   let(v,I,os,bare,un,bf,cf,a7,du):=aF;exact(v,H,os,bare,(un.keep,un.slot,λ_ _ _ n _=>n,un.there,λ_ _ z=>z,λ_ _ _ z=>z,λ_ ps z=>(#[],by rw[z];simp)),λa o e=>(bf a o (a7 a o e)).back o (a8 a o e) (he.bf a o e),cf,du)
end
def bp{p:Addr}(h:H p=none):aC H (upd H p o):=λb u q=>by rw[aO (cM q h)];exact q
def aC.gm{p:Addr}(s:aC H H1)(h:H p=none):aC H (upd H1 p o):=λb u q=>by rw[aO (cM q h)];exact s b u q
structure Sc(K:a')(a:Addr)(ns:List Int)(H:ar):Prop where
 D8:(∃o,H a\(.eO o (.lst (ns.map V.int))))\/∃(o:Obj) (a5:Array Value) (n:Nat),K.lookup a\o/\o.cls=.type "list"/\o.dict=none/\o.data=.seq a5 n/\a5.size<=sizeLine/\bW (ns.map V.int) a5.toList
 a8:aG H
section
variable{K:a'}{a p:Addr}{ns:List Int}{H I:ar}{o:eY}
def Sc.seq(s:Sc K a ns H):aH K H a (ns.map V.int):=by
 rcases s.D8 with⟨o,h⟩|h
 .exact .inl (.inr (o,h))
 .exact .inr h
def Sc.new(s:Sc K a ns H)(aq:H p=none)(aW:qE o=true:=by rfl):Sc K a ns (upd H p o):=by
 refine(?_,λb u e=>?_)
 .rcases s.D8 with⟨b_,h⟩|h
  .exact .inl (b_,by rw[aO (cM h aq)];exact h)
  .exact .inr h
 .by_cases ae:b=p
  .subst ae;rw[aP]at e;cases e;exact aW
  .rw [aO ae]at e;exact s.a8 b u e
def Sc.set(s:Sc K a ns H)(aq:H p\u)(bx:∀b_ z,u≠.eO b_ z)(aW:qE o=true:=by rfl):Sc K a ns (upd H p o):=by
 refine(?_,λb x e=>?_)
 .rcases s.D8 with⟨b_,h⟩|h
  .refine .inl (b_,?_);have b8:a≠p:=λz=>by subst z;rw[aq]at h;exact bx _ _ (d6 h)
   rw[aO b8];exact h
  .exact .inr h
 .by_cases ae:b=p
  .subst ae;rw[aP]at e;cases e;exact aW
  .rw [aO ae]at e;exact s.a8 b x e
def Sc.aeS(qp:zP H)(e6:aH K H a (ns.map V.int)):Sc K a ns H:=by
 refine(?_,λb u e=>?_)
 .rcases e6 with(h|⟨o,h⟩)|h
  .rcases qp a with z|⟨b_,xs,z⟩
   .rw [h]at z;cases z
   .rw [h]at z;cases z
  .exact .inl (o,h)
  .exact .inr h
 .rcases qp b with z|⟨b_,xs,z⟩
  .rw [e]at z;cases z
  .rw [e]at z;cases z;rfl
end
def Tb(K:a'):bH:=λvs H Q _=>∃(a:Addr) (ns:List Int),vs=[⇑a]/\Sc K a ns H/\↑ns<=63/\∀I,Q (.bE true) I
def hT:bootBuiltins "len"\(.builtin "len"):=PySem.boot_len
def amV:bootBuiltins "all"\(.builtin "all"):=∅
def aop:bootBuiltins "min"\(.builtin "min"):=∅
def Do:bootBuiltins "max"\(.builtin "max"):=∅
def UB:bootBuiltins "isinstance"\(.builtin "isinstance"):=∅
def Le:bootBuiltins "int"\(.type "int"):=∅
def lp:bootBuiltins "str"\(.type "str"):=∅
def K7:bootBuiltins "list"\(.type "list"):=∅
def lS.same(h:lS H a o)(s:aC H I):lS I a o:=by
 rcases h with h|⟨b_,h⟩
 .exact .inl (s _ _ h)
 .exact .inr (b_,s _ _ h)
theorem aH.same{K:a'}(h:aH K H a xs)(s:aC H I):aH K I a xs:=by
 rcases h with h|h
 .exact .inl (h.same s)
 .exact .inr h
theorem b1.same{K:a'}(h:b1 K H a xs)(s:aC H I):b1 K I a xs:=by
 rcases h with h|h
 .exact .inl (h.same s)
 .exact .inr h
theorem aG.upd{p:Addr}(h:aG H)(aW:qE o=true:=by rfl):aG (upd H p o):=λb u e=>by
 by_cases ae:b=p
 .subst ae;rw[aP]at e;cases e;exact aW
 .rw [aO ae]at e;exact h b u e
def Sc.same{K:a'}{ns:List Int}(s:Sc K a ns H)(a7:aC H I)(a8:aG I):Sc K a ns I:=by
 refine(?_,a8);rcases s.D8 with⟨o,h⟩|h
 .exact .inl (o,a7 _ _ h)
 .exact .inr h
structure Tr(K:a')(C:Addr)(m:Str)(f:Addr):Prop where
 rd:ahU K C (.type "type")=true
 fd:afP K ⇑C (.type "type") m\(.val ⇑f)
 ga:u7 K ⇑C "__getattribute__"\(some (.builtin "type.__getattribute__"))
 bt:q9 K ⇑f=true
structure qz(P:Program)(w:World)(K:a')(av:Str->Option Value)(base:Heap)(CX:hP)(k:Nat)(oK:Addr->Prop)(m:Str)(ps:List Str)(oy:Addr->bH):Prop where
 ok:∀C,oK C->∃f fd,gh K C/\hj K C m f/\bD P w K av base CX k f fd ps (oy C)/\ac K fd ps []
def Vc(oK:Addr->Prop)(m:Str)(oy:Addr->bH)(E:dG)(a4:TE)(t:eE):TE:=λσ H Q=>a4 σ H λx H1=>∃a C ak aR,x=⇑a/\H1 a\(.ins C ak aR)/\oK C/\aR.lookup m=none /\
 t σ H1 λvs ay=>oy C (x::vs) ay Q E
section
variable{X:a6}{CX:hP}{k:Nat}{f C:Addr}{fd:FuncData}{ps:List Str}{sp:bH}{dvs:List V}{ds:List Value}{E:dG}{x m:Str}{p pos eR:Pos}{e o:Expr}{aK:List Expr}{a4:TE}{t:eE}
def HL(a0:hI X x)(hm:X.av x\⇑C)(c:Tr X.K C m f)(F:bD X.prog X.w X.K X.av X.base CX k f fd ps sp)(au:eJ k X.A)(ae:ac X.K fd ps ds)(hd:bW dvs ds)(ai:mX CX X E)(aJ:da X (e::aK) t)
  (fj:(x==("__debug__":Str))=false:=by decide) (gJ:starEach (e::aK) X.env=(p'p false (eval e X.env))::starEach aK X.env:=by rfl) (dI:(backTo pos (starEach aK X.env)).any (·.1)=false:=by rfl)
  (cV:eval (.Call (.Attribute (.Name x p) m eR) (e::aK) [] pos) X.env=(do
   let di <- eval (.Name x p) X.env
   standAt eR.atName
   let (f,first) <- holding [di] (getMethod di m pl)
   callWith pos f first (backTo pos (starEach (e::aK) X.env)) (backToKw pos (keywordEach [] X.env))):=by rfl) :
  bw X (.Call (.Attribute (.Name x p) m eR) (e::aK) [] pos) (yl sp dvs E t):=by
 intro ab s σ H Q J h;refine yL (pl:=pl) (qR J a0 hm ?_ fj) cV;refine ado J.es c.ga (alD J.es c.rd c.fd rfl ?_);have aU:=J.tok (s.toks+1);refine z_ (first:=[]) (h₀:=X.base) J.ok.mod.rC c.bt (bG (aJ pos ab _ σ H _ aU h) λus s2 ⟨vs,ay,bK,r,cP⟩=>(bK.es,?_)) gJ dI;exact x2 F au ae hd ai bK r cP
variable{oK:Addr->Prop}{oy:Addr->bH}
def Dr(he:bw X o a4)(V:qz X.prog X.w X.K X.av X.base CX k oK m ps oy)(au:eJ k X.A)(ai:mX CX X E)
  (cV:eval (.Call (.Attribute o m eR) [] [] pos) X.env=(do
   let di <- eval o X.env
   standAt eR.atName
   let (f,first) <- holding [di] (getMethod di m pl)
   callWith pos f first (backTo pos (starEach [] X.env)) (backToKw pos (keywordEach [] X.env))):=by rfl) :
  bw X (.Call (.Attribute o m eR) [] [] pos) (Vc oK m oy E a4 vb):=by
 intro ab s σ H Q J h;refine yL (pl:=pl) (bG (he ab s σ H _ J h) λu s1 ck=>?_) cV;let(x,H1,aU,bh,a,C,ak,aR,ex,cK,ok,l,q):=ck;subst ex;obtain rfl:u=dm a:=bh;let(f,fd,c,hm,F,ae):=V.ok C ok;refine Cc aU cK c hm l ?_;exact Uy (first:=[⇑a]) aU.es hm.bt (x2 (us:=[⇑a]) (vs:=[⇑a]) (dvs:=[]) F au ae .nil ai aU (.cons rfl .nil) q)
end
def z4(w:World)(K:a')(u:Value)(kvs:List (Str×V)):Prop:=
 ∃a aK n,u=⇑a/\K.lookup a\(.type "dict",none,.dict aK n,#[])/\Lf w.params aK.toList/\∀x v,(p'p x v)∈kvs->∃ig,uv K a x\(some ig)/\bN v ig
theorem QY:∀{kvs:List (Str×β)} {x:Str} {v:β},kvs.lookup x\v->(p'p x v)∈kvs
 |[],_,_,h=>by cases h
 |(k,y)::r,x,v,h=>by
  rw[mA]at h;by_cases e:x=k
  .subst e;rw[beq_self_eq_true]at h;cases h;exact lW ..
  .rw [beq_eq_false_iff_ne.mpr e]at h;exact fS _ (QY h)
abbrev aon:=List (Str×V)
def FM(kvs:aon)(ty:TE):TE:=λσ H Q=>ty σ H λy H1=>∃x v,y=.str x/\kvs.lookup x\v/\Q v H1
section
variable{X:a6}{x:Str}{p pos:Pos}{i:Expr}{ty:TE}{u:Value}{kvs:List (Str×V)}
def F2(a0:hI X x)(hm:X.av x\u)(D:z4 X.w X.K u kvs)(ao:bw X i ty)(aB:GY i)(fj:(x==("__debug__":Str))=false:=by decide):bw X (.Subscript (.Name x p) i pos) (FM kvs ty):=by
 intro ab s σ H Q J h;let(a,aK,n,rfl,aw,aI,aM):=D;refine QS ajx.lookup aB (qR J a0 hm (bG (ao ab s σ H _ J h) λjq s2 ck=>?_) fj);let(y,ay,bK,bu,z,v,lA,l,q):=ck;subst lA;let(t,rfl):=bu;let(ig,az,aE):=aM z v (QY l);have hm:=PySem.W.mapOf_K (prog:=X.prog) (w:=X.w) bK.es aw aI;exact(hm.typeIs,wpAny_getItem_of (strKind_is X.prog X.w z t) hm (PySem.W.find_K aw az) (v,ay,bK.tok _,aE,q))
end
theorem hl:∀{aR:List (Str×V)} (bF:List Str),aR.map (·.1)=bF->bF.contains f=false->dz f v aR=aR++[(p'p f v)]
 |[],_,_,_=>rfl
 | (g,y)::r,bF,e,h=>by
  cases e;rw[dZ,E2]at h;have af:=(Uh.mp h);have b8:¬g=f:=λz=>by
   have:=af.1;rw[z]at this;simp at this
  show(if g=f then _ else _)=_;rw[if_neg b8,hl _ rfl af.2];rfl
def fD{aR:List (Str×V)}(h:↑aR<n):↑(dz f v aR)<n+1:=i5 (Km f v aR) ()
theorem kI:∀{aR:List (Str×V)} (bF:List Str) (i:Nat),aR.map (·.1)=bF->bF.findIdx? (· == f)\i->aR[i]?\(p'p f v)->aR.lookup f\v
 |[],_,_,_,_,h=>by simp at h
 | (g,y)::r,bF,i,e,h,aM=>by
  cases e;rw[dZ,List.findIdx?_cons]at h;rw[mA];by_cases e:g=f
  .subst e;rw[beq_self_eq_true,if_pos rfl]at h;cases h;have:(p'p g y)=(p'p g v):=by simpa using aM
   cases this;rw[beq_self_eq_true]
  .rw [beq_eq_false_iff_ne.mpr e,if_neg ∅]at h;let(j,aZ,rfl):=ad3.mp h;rw[beq_eq_false_iff_ne.mpr (λz=>e z.symm)];exact kI _ j rfl aZ (by simpa using aM)
theorem tS:∀{aR:List (Str×V)} (bF:List Str),aR.map (·.1)=bF->bF.contains f=false->aR.lookup f=none
 |[],_,_,_=>rfl
 |(g,y)::r,bF,e,h=>by
  cases e;rw[dZ,E2]at h;have af:=(Uh.mp h);rw[mA,af.1];exact tS _ rfl af.2
def Inv.Fu{X:a6}{ab:List (Addr×Obj)}{σ:St}{H:ar}{s:Shared}{h':Heap}{t':Nat}{bQ:List Addr}(J:Inv X ab σ H s)(k:∀b o,b∉bQ->s.heap.get? b\o->h'.get? b\o)
  (hf:∀b∈bQ,h2 X ab H b):Inv X ab σ H {s with heap:=h',toks:=t' }:=by
 have Aj:∀b u,H b\u->b∉bQ:=λb u e z=>by rw[(hf b z).1]at e;cases e
 refine J.step (g':=s.gens) (d':=s.drawn) (ch:=bQ) (λb ae=>?_) (λb o _ _ ah e _=>k b o ah e) (λb o _ _ ah e _=>(o.slots,k b o ah e)) (λ_ _ _ _ n=>n)
  (λb o ah e=>(o,k b o ah e)) (λ_ _ e=>e) (λ_ _ _ e=>e) (λb ps e=>(#[],by rw[e];simp)) (λm hm=>?_) (λb u e=>?_) J.bare
 .let(f0,f1,f2,eP,f4,fA):=hf b ae;exact(eP,f1,f4,fA)
 .let(o,aK,ep,aW,r):=hm;exact(o,aK,ep,k _ o (λz=>(hf _ z).2.1 rfl) aW,r)
 .refine(J.bf b u e).kX (λc v ah q=>k c v ?_ q) (λ_ q=>q) λ_ _ q=>q
  rcases ah with z|z
  .rw [z];exact Aj b u e
  .exact Aj c _ z
noncomputable def A8(K:a')(a:Addr):iE:=
 (λi H=>∃xs x,aH K H a xs/\xs[i]?\x,λi H v I=>∃p y,H p=none/\v=⇑p/\(∀xs,aH K H a xs->xs[i]?\y)/\I=upd H p (.tup [.int i,y]),λi H=>∃xs,aH K H a xs/\↑xs<=i)
def aex {P:Program} {w:World} {K:a'} {aK:List Expr} {k} {pos:Pos} (a e it:Addr) (b8:e≠it) :
  pv P w K (.Tuple aK k pos) (A8 K a) [e,it] e (λi h=>∃old,IsEnum h e it ((i:Nat):Int) old/\h.IsListIter it a i)where
 mem:=by simp
 obj:=λi h ⟨old,he,ao⟩ b ae=>by
  simp only[cT,fq,or_false]at ae;rcases ae with rfl|rfl
  .exact (_,he,λv z=>by
    have z':Gd _=IY v:=z;cases z')
  .let(o,q,c,d):=ao;exact(o,q,λv z=>by rw[d]at z;cases z)
 keep:=λi h h' ⟨old,he,ao⟩ k=>(old,k e (by simp) _ he,ao.at λo q=>k it (by simp) o q)
 item:=by
  intro X d9 hw eS ah i ab s σ H E J hf ⟨old,he,ao⟩ a0;subst d9 hw eS;let(xs,x,aF,ai):=a0;let(a5,cf,p,ax):=J.list aF;let(u,bx,ed):=cf.get ai;refine wpAny_pyNext_enum_item he ao p.isList (x:=u) (by simpa using bx) b8 λaf tR anP LI oG FU=>(_,rfl,?_)
  refine wpAny_letOwnedTupleGo_enum tR λaj H5 fH=>?_
  replace fH:wu e af aj:=fH;have wN:e<↥s:=dO he;have aI:∀b o,b∉[e,it]->s.heap.get? b\o->aj.get? b\o:=λb o ae q=>by
   simp only[cT,fq,or_false,not_or]at ae;exact fH.extBut _ _ ae.1 (FU b o ae.1 ae.2 q)
  have aU:Inv X ab σ H {s with heap:=aj,toks:=s.toks+1}:=J.Fu aI hf;have gF:h2 X ab H ↥s:=J.mv (b0 _) (J.bf.fresh (b0 _));have zq:aj.get? ↥s=some {cls:=.type "tuple",data:=.seq #[.int i s.toks,u]}:=(fH.2 _ (C8 wN)).trans LI;have bK:=aU.adopt (o:=.tup [.int i,x]) gF ((by show 2<=sizeLine;decide,_,zq,rfl),[.int i s.toks,u],.cons (_,rfl) (.cons ed .nil),(_,zq,rfl,_,rfl));refine(.ref ↥s,_,bK,rfl,(_,x,gF.1,rfl,λys bg=>by rw[J.zF bg aF];exact ai,rfl),(u,?_,?_),λb ae=>?_)
  .have az:((i+1:Nat):Int)=(i:Int)+1:=()
   rw[az];exact H5
  .exact anP.extBut fH.extBut (dB b8)
  .have cD:b<↥s:=by
    simp only[cT,fq,or_false]at ae;rcases ae with rfl|rfl
    .exact wN
    .let(o,q,_):=ao;exact dO q
   rw[aO (fM cD)];exact(hf b ae).1
 done:=by
  intro X d9 hw eS ah i ab s σ H E J hf ⟨old,he,ao⟩ a0;subst d9 hw eS;let(xs,aF,ai):=a0;let(a5,cf,p,ax):=J.list aF;have aw:=↑cf;exact wpAny_pyNext_enum_end (J.ok.hd ah) he ao p.isList (by simp;omega) λh' dc=>(rfl,J.Fu (t':=s.toks) (λb o ae q=>dc b o (λz=>ae (by simp[z])) q) hf)
 self:=λ_ _ _ _ _ ⟨_,he,_⟩ h=>wpAny_pyIter_enum he h
def anU:bootBuiltins "enumerate"\(.type "enumerate"):=∅
def am5:bootBuiltins "reversed"\(.type "reversed"):=∅
section
variable{X:a6}
def Iy(K:a')(a4:eE):TI:=λσ H R=>a4 σ H λvs H1=>∃a,vs=[⇑a]/\(∃xs,aH K H1 a xs)/\R (A8 K a) H1
theorem z5{k}{p pos:Pos}(a0:hI X "enumerate")(hm:X.av "enumerate"=none)(aJ:da X [a] a4)(aB:starEach [a] X.env=[(p'p false (eval a X.env))]:=by rfl) :
  l9 X (.Tuple aK k Ai) (.Call (.Name "enumerate" p) [a] [] pos) (Iy X.K a4):=by
 intro ab s σ H R J h;refine Call_ (qu J a0 hm anU (vO (bG (aJ pos ab s σ H _ J h) λus s1 ck=>?_) aB rfl));let(vs,H1,aU,bX,bM):=ck;let(a,e,(xs,aF),q):=bM;subst e;cases bX with
 | cons r iC=>
  cases iC;cases r;let(a5,cf,pl,ax):=aU.list aF;refine call_enumerate_list pl.isList λh' wt LJ hsz aI=>wpAny_pyIter_enum wt ?_
  refine(↥s1+1,[↥s1+1,↥s1],_,_,H1,rfl,aU.kept (t':=s1.toks) aI,aex a _ _ (ahr _),(_,wt,LJ),λb ae=>?_,q);have fL:↥s1<=b:=by
   simp only[cT,fq,or_false]at ae;rcases ae with rfl|rfl
   .exact uE _
   .exact b0 _
  exact aU.mv fL (aU.bf.fresh fL)
end
def jm{k:Nat}{t:ue}{K:a'}(eS:X.K=K)(ah:X.calm=true)(h:xd X aK t)
  (aL:↑(assignEach aK X.env)=n:=by rfl) (gJ:(assignEach aK X.env).findIdx? (·.1)=none:=by rfl):nr X (.Tuple aK k pos) (u' K n t):=by
 subst eS;exact alV ah h aL gJ
section
variable{X:a6}
theorem QT{P:Nat->Value->Prop}{f:Nat->V}(d9:∀i v,P i v->bN (f i) v):∀(l:List Value) (k:Nat),(∀j v,l[j]?\v->P (k+j) v)->bW ((el ↑l).map λi=>f (k+i)) l
 |[],_,_=>.nil
 | v::r,k,h=>by
  rw[gw,List.range_succ_eq_map,dZ,pK];refine .cons (d9 _ _ (h 0 v rfl)) ?_;have:=QT d9 r (k+1) λj w aZ=>by
   have:=h (j+1) w (by simpa using aZ);rwa[show k+1+j=k+(j+1)by omega]
  have e:(λi=>f (k+1+i))=((λi=>f (k+i)) ∘ Nat.succ):=funext λi=>by
   show f (k+1+i)=f (k+(i+1));rw[show k+1+i=k+(i+1)by omega]
  rwa[e]at this
def He{P:Nat->Value->Prop}{f:Nat->V}(d9:∀i v,P i v->bN (f i) v){acc:Array Value}{n:Nat}(h:ItemsOf P acc n):bW ((el n).map f) acc.toList:=by
 have:=QT d9 acc.toList 0 λj v aZ=>by
  rw[MA];exact h.2 j v (by rw[<- Ko];exact aZ)
 rw[show ↑acc.toList=n by rw[l2];exact h.1]at this;simpa using this
end
inductive jK(K:a')(H:ar):Nat->V->V->Bool->Prop
 |flat {k:Nat} {x y:V} (ai:kx x=true) (bg:kx y=true):jK K H k x y (i8 x y)
 |lst {k:Nat} {p q:Addr} {xs ys:List V} {e:Nat->Bool} (aq:aH K H p xs) (aF:aH K H q ys) (aw:↑xs=↑ys) (he:∀(j:Nat) (x y:V),xs[j]?\x->ys[j]?\y->jK K H k x y (e j)):jK K H (k+1) (.ref p) (.ref q) ((el ↑xs).all e)
 |Dv {k:Nat} {p q:Addr} {xs ys:List V} (aq:aH K H p xs) (aF:aH K H q ys) (aw:↑xs≠↑ys):jK K H (k+1) (.ref p) (.ref q) false
 |tup {k:Nat} {p q:Addr} {xs ys:List V} {e:Nat->Bool} (aq:b1 K H p xs) (aF:b1 K H q ys) (he:∀(j:Nat) (x y:V),xs[j]?\x->ys[j]?\y->jK K H k x y (e j)):jK K H (k+1) (.ref p) (.ref q) ((el (min ↑xs ↑ys)).all e&&↑xs==↑ys)
def alT{x:V}(h:kx x=true):i8 x x=true:=by
 cases x <;> first|rfl|(simp[i8];done)|cases h
def Sz{e:Nat->Bool}(h:∀j,j<n->e j=true):(el n).all e=true:=by
 rw[oe];exact λj aZ=>h j (pd.mp aZ)
section
variable{X:a6}{ab:List (Addr×Obj)}{σ:St}{H:ar}{s:Shared}
theorem jK.self(J:Inv X ab σ H s){k:Nat}{x y:V}(h:jK X.K H k x y b)(e:x=y):b=true:=by
 induction h with
 |flat ai bg=>subst e;exact alT ai
 | @lst k p q xs ys f aq aF aw he b9=>
  injection e with e;subst e;have:=J.zF aq aF;subst this;refine Sz λj aZ=>?_
  exact b9 j xs[j] xs[j] (bJ aZ) (bJ aZ) rfl
 |Dv aq aF aw=>
  injection e with e;subst e;have:=J.zF aq aF;subst this;exact absurd rfl aw
 | @tup k p q xs ys f aq aF he b9=>
  injection e with e;subst e;have:=J.Oh aq aF;subst this;rw[jt];refine(Sz λj aZ=>?_,by simp);have jM:j<↑xs:=()
  exact b9 j xs[j] xs[j] (bJ jM) (bJ jM) rfl
def Fn(A:Around):A.in1.units=A.units+1:=rfl
theorem ZR(J:Inv X ab σ H s){k:Nat}{x y:V}(h:jK X.K H k x y b):∀(A:Around) (v u:Value),A.units+k<cLine->bN x v->bN y u ->
  LA A s v u b/\(∀p q,x=⇑p->y=⇑q->M8 A s v u b):=by
 induction h with
 |flat ai bg=>
  intro A v u bx bh bu;refine(OG bh bu ai bg,λp q e _=>?_);subst e;cases ai
 | @lst k p q xs ys f aq aF aw he b9=>
  intro A v u bx bh bu;cases bh;cases bu;let(a5,r,pl,ax):=J.list aq;let(mg,dE,m1,e2):=J.list aF;have cw:=↑r;have dH:=↑dE;have rc:M8 A s ⇑p ⇑q ((el ↑xs).all f):=by
   have:=SeqAt.RcAt.lists (A:=A) (e:=f) pl.isList m1.isList (by simp only[d2];omega) () λj af aj=>by
    simp only[d2]at af aj;have aZ:j<↑xs:=()
    have jM:j<↑ys:=()
    let(a,aJ,xF):=r.get (bJ aZ);let(c,ah,rc):=dE.get (bJ jM);have cK:a5.toArray[j]=a:=by
     have:=bJ af;rw[aJ]at this;simpa using(d6 this).symm
    have k7:mg.toArray[j]=c:=by
     have:=bJ aj;rw[ah]at this;simpa using(d6 this).symm
    rw[cK,k7];exact(b9 j _ _ (bJ aZ) (bJ jM) A.in1 a c (by rw[Fn];omega) xF rc).1
   rwa[d2,<- cw]at this
  refine(?_,λ_ _ _ _=>rc);by_cases b8:p=q
  .have ae:=(jK.lst aq aF aw he).self J (congrArg V.ref b8);rw[ae,b8];exact VY _
  .exact Wd b8 rc
 | @Dv k p q xs ys aq aF aw=>
  intro A v u bx bh bu;cases bh;cases bu;let(a5,r,pl,ax):=J.list aq;let(mg,dE,m1,e2):=J.list aF;have cw:=↑r;have dH:=↑dE;have rc:M8 A s ⇑p ⇑q false:=SeqAt.RcAt.lists_lengths pl.isList m1.isList (by simp only[d2,bne_iff_ne,ne_eq];omega) ();refine(Wd (λe=>aw ?_) rc,λ_ _ _ _=>rc);subst e;rw[J.zF aq aF]
 | @tup k p q xs ys f aq aF he b9=>
  intro A v u bx bh bu;cases bh;cases bu;let(a5,r,pl,ax):=J.tuple aq;let(mg,dE,m1,e2):=J.tuple aF;have cw:=↑r;have dH:=↑dE;have rc:M8 A s ⇑p ⇑q ((el (min ↑xs ↑ys)).all f&&↑xs==↑ys):=by
   have:=SeqAt.RcAt.tuples (A:=A) (e:=f) pl m1 () λj af aj=>by
    simp only[d2]at af aj;have aZ:j<↑xs:=()
    have jM:j<↑ys:=()
    let(a,aJ,xF):=r.get (bJ aZ);let(c,ah,rc):=dE.get (bJ jM);have cK:a5.toArray[j]=a:=by
     have:=bJ af;rw[aJ]at this;simpa using(d6 this).symm
    have k7:mg.toArray[j]=c:=by
     have:=bJ aj;rw[ah]at this;simpa using(d6 this).symm
    rw[cK,k7];exact(b9 j _ _ (bJ aZ) (bJ jM) A.in1 a c (by rw[Fn];omega) xF rc).1
   rwa[d2,d2,<- cw,<- dH]at this
  refine(?_,λ_ _ _ _=>rc);by_cases b8:p=q
  .have ae:=(jK.tup aq aF he).self J (congrArg V.ref b8);rw[ae,b8];exact VY _
  .exact Wd b8 rc
def PX(J:Inv X ab σ H s){k:Nat}{A:Around}{xs ys:List V}{a5 mg:List Value}{f:Nat->Bool}(bx:A.units+k<cLine)(r:bW xs a5)(dE:bW ys mg)
  (he:∀(j:Nat) (x y:V),xs[j]?\x->ys[j]?\y->jK X.K H k x y (f j)):∀j (af:j<a5.toArray.size) (aj:j<mg.toArray.size),LA A s a5.toArray[j] mg.toArray[j] (f j):=λj af aj=>by
 simp only[d2]at af aj;have cw:=↑r;have dH:=↑dE;have aZ:j<↑xs:=()
 have jM:j<↑ys:=()
 let(a,aJ,xF):=r.get (bJ aZ);let(c,ah,rc):=dE.get (bJ jM);have cK:a5.toArray[j]=a:=by
  have:=bJ af;rw[aJ]at this;simpa using(d6 this).symm
 have k7:mg.toArray[j]=c:=by
  have:=bJ aj;rw[ah]at this;simpa using(d6 this).symm
 rw[cK,k7];exact(ZR J (he j _ _ (bJ aZ) (bJ jM)) A a c bx xF rc).1
theorem agx(J:Inv X ab σ H s){k:Nat}{p q:Addr}(h:jK X.K H k ⇑p ⇑q b)(A:Around)(bx:A.units+k<cLine):SeqAt.RcNeAt A s ⇑p ⇑q (!b):=by
 cases h with
 |flat ai bg=>cases ai
 | @lst k _ _ xs ys f aq aF aw he=>
  let(a5,r,pl,ax):=J.list aq;let(mg,dE,m1,e2):=J.list aF;have cw:=↑r;have dH:=↑dE;have:=atg (A:=A) (e:=f) pl.isList m1.isList (by simp only[d2];omega) () (PX J (A:=A.in1) (k:=k) (by rw[Fn];omega) r dE he);rwa[d2,<- cw]at this
 | @Dv k _ _ xs ys aq aF aw=>
  let(a5,r,pl,ax):=J.list aq;let(mg,dE,m1,e2):=J.list aF;have cw:=↑r;have dH:=↑dE;exact ari pl.isList m1.isList (by simp only[d2,bne_iff_ne,ne_eq];omega) ()
 | @tup k _ _ xs ys f aq aF he=>
  let(a5,r,pl,ax):=J.tuple aq;let(mg,dE,m1,e2):=J.tuple aF;have cw:=↑r;have dH:=↑dE;have:=arI (A:=A) (e:=f) pl m1 () (PX J (A:=A.in1) (k:=k) (by rw[Fn];omega) r dE he);rwa[d2,d2,<- cw,<- dH]at this
end
section
variable{X:a6}
def Ng(K:a'):e9:=λx y H Q=>∃p q b,x=⇑p/\y=⇑q/\jK K H 8 ⇑p ⇑q b/\Q (.bE (!b)) H
def abH(xo:X.A.units+64<cLine):gV X (compareOp .NotEq) (Ng X.K):=by
 intro ab s σ H x y v u Q J bh bu h;let(p,q,b,rfl,rfl,wt,du):=h;cases bh;cases bu;exact agx J wt X.A () _ _ _ _ (.bE (!b),H,J,rfl,du)
end
noncomputable def LG:V->V->Bool
 | .int _,.int _=>true
 | .str _,.str _=>true
 | .bE _,.bE _=>true
 | .b4,.b4=>true
 |_,_=>false
def Lp{x y:V}(h:LG x y=true):kx x=true/\kx y=true/\i8 x y=decide (x=y):=by
 cases x <;> cases y <;> first|(exfalso;simp[LG]at h;done)|(refine(rfl,rfl,?_);rfl)|(refine(rfl,rfl,?_);rw[mQ];simp[i8];done)
def jK.ZQ {K:a'} {k:Nat} {p q:Addr} (aq:aH K H p xs) (aF:aH K H q ys) (h:∀x∈xs,∀y∈ys,LG x y=true):jK K H (k+1) ⇑p ⇑q (decide (xs=ys)):=by
 by_cases aw:↑xs=↑ys
 .have hd:decide (xs=ys)=(el ↑xs).all λj=>i8 (xs.getD j .b4) (ys.getD j .b4):=by
   rw[mQ,decide_eq_true_eq,oe];constructor
   .rintro rfl j aZ;have jM:=pd.mp aZ;have hm:xs.getD j .b4∈xs:=by rw[gG,bJ jM];exact nH jM
    rw[(Lp (h _ hm _ hm)).2.2,decide_eq_true rfl]
   .intro z;refine q7 aw λj af aj=>?_
    have:=z j (pd.mpr af);rw[gG,gG,bJ af,bJ aj]at this;have w:i8 xs[j] ys[j]=true:=this;rw[(Lp (h _ (nH af) _ (nH aj))).2.2,decide_eq_true_eq]at w;exact w
  rw[hd];refine .lst aq aF aw λj x y af aj=>?_
  have e:=Lp (h x (cC af) y (cC aj));rw[gG,gG,af,aj];exact .flat e.1 e.2.1
 .rw [decide_eq_false (λz=>aw (by rw[z]))];exact .Dv aq aF aw
end L2
namespace L2
open PySem PySem.Spec PyProof.Rows PySem.Builtin PySem.Builtin.ObjectAttr
def Xz(h:H a\o):upd H a o=H:=by
 funext b;unfold upd;by_cases e:b=a
 .rw [if_pos e,e,h]
 .rw [if_neg e]
noncomputable abbrev hZ:List Value:=[.type "ValueError",.type "Exception",.type "BaseException",.type "object"]
noncomputable def vg(K:a')(C fI:Addr):Bool:=
 match K.lookup C with
 | some ⟨.type "type",_,.cls cd,aX⟩=>
  match cd.mro,aX.toList with
  | .ref D::dp,[_,_,_,_,some (.builtin n),_]=>
   (D==C)&&(n=="ValueError.__new__")&&(cd.hasDel==false)&&(cd.hasDict==true)&&PySem.W.tailIn K hZ dp&&PySem.W.nsOkIn K cd.ns&&(uv K cd.ns "__init__"==some (some ⇑fI))
  |_,_=>false
 |_=>false
def aim{K:a'}{h:Heap}{N:Addr}{x:Str}(fe:K.In h)(G:h.Ns N sW)(e:uv K N x\(some v)):sW x\v:=by
 let(b_,rows,ep,az,aE,_,look):=G;unfold uv at e;split at e
 .rename_i aW;have z:=fe _ _ aW;rw[az]at z;cases z;cases aE;split at e
  .rename_i Pa he;cases e;rw[<- look];unfold nsFind findBy;rw[<- Z0,he];rfl
  .split at e <;> cases e
 .cases e
set_option tactic.hygienic true in
def Lz{K:a'}{h:Heap}(fe:K.In h)(e:vg K C fI=true) :
  ∃dp N nm q bs sn sub pb co c9 px bU bo jA oL sW,h.get? C\(excClassObj nm q C N bs dp true sn sub pb co c9 px bU bo jA oL "ValueError.__new__")/\h.Ns N sW/\sW "__init__"\⇑fI/\OwnTail h hZ dp:=by
 unfold vg at e;split at e
 .rename_i c9 cd aX aW;split at e
  .rename_i D dp px bU bo jA n oL hm aB;simp only[jt,beq_iff_eq]at e;let((((((az,aE),b7),gY),j9),hX),qQ):=e;let(nm,bs,mro,ns,wJ,hd,sn,sub,pb,co,del):=cd;simp only at hm b7 gY hX qQ;subst hm az aE b7 gY;obtain⟨l⟩:=aX;simp only at aB;subst aB;have G:h.Ns ns (h.nsMap ns):=.of_isNs (PySem.W.isNs_of_in fe hX);exact(dp,ns,nm,wJ,bs,sn,sub,pb,co,c9,px,bU,bo,jA,oL,h.nsMap ns,fe _ _ aW,G,aim fe G qQ,PySem.W.tail_of_in fe j9)
  .cases e
 .cases e
section
variable{P:Program}{w:World}{A:Around}{h:Heap}{g:Array GenState}{d:Drawn}{t:Nat}{os:OsState}{K:a'}{C fI:Addr}{R:Result->Shared->Prop}
def ai_(fe:K.In h)(e:vg K C fI=true)(hf:QK K ⇑fI\(.type "function"))(ax:↑us<=sizeLine)
  (aF:∀h' x,h.objs.size<=x->aoI h h' x ⇑C us->codeAny (model P w) (A.under (.builtin "type.__call__" (⇑C::us,[]))) (.call ⇑fI (⇑x::us,[])) (aqC x R) (h',g,d,t,os)) :
  codeAny (model P w) A (.call ⇑C (us,[])) R (h,g,d,t,os):=by
 let(dp,N,nm,q,bs,sn,sub,pb,co,c9,px,bU,bo,jA,oL,sW,cq,bc,ao,T):=Lz fe e;have F:=an0;have f1:=tc_lookup;have f2:=tc_bind ⇑C;have ty:((h,g,d,t,os):Shared).TypeIs ⇑C "type":=(_,cq,rfl);refine codeAny_of_tree ?_;show wpAny _ _ (callAny ⇑C _) _ _ _
 repeat (any_goals (first|assumption|with_reducible refine wpAny_loadPart_at cq ?_|wp_step))
 refine(rfl,?_);refine codeAny_call_builtin_at (aoM _ ∅) entry_typeCall (wpAny_check_type_call_sub cq ?_)
 repeat (first|with_reducible refine wpAny_loadPart_at cq ?_|with_reducible refine wpAny_madeBy_exc cq ?_|wp_step)
 refine codeAny_call_builtin_code (aoM _ F.quiet) (wpAny_check_new_subT F T cq ?_);refine codeAny_exc_new_subT (rest:=us) F T cq ?_ ax;show wpAny _ _ _ _ _ _;generalize cG:(h.push {cls:=.type "tuple",data:=.seq us.toArray}).push {cls:=⇑C,data:=.fields #[⇑h.objs.size,.none,.none,.none,.bool false,.none]}=aj;have k:∀b o,h.get? b\o->aj.get? b\o:=λb o z=>by rw[<- cG];exact dX _ (dX _ z)
 have ai:aj.get? (h.objs.size+1)=some {cls:=⇑C,data:=.fields #[⇑h.objs.size,.none,.none,.none,.bool false,.none]}:=by rw[<- cG];heap_get
 have cV:aj.get? h.objs.size=some {cls:=.type "tuple",data:=.seq us.toArray}:=by rw[<- cG];exact dX _ (Heap.get?_push_at rfl rfl)
 have M:aoI h aj (h.objs.size+1) ⇑C us:=(k,Tu (uE _),h.objs.size,ai,Tu (b0 _),cV);have aat:(dm C::dp).contains ⇑C=true:=by simp
 unfold isInstance
 repeat (first|with_reducible refine wpAny_loadPart_at ai ?_|wp_step)
 refine wpAny_isSubtype_exc (k _ _ cq) ?_;rw[aat]
 repeat wp_step
 show wpAny _ _ (typeLookup ⇑C _) _ _ _;refine wpAny_typeLookup_tail (k _ _ cq) (bc.keeps k) (T.keeps k) F.mroIs F.init.lookup ?_;rw[ao];refine wpAny_holding (wpAny_bind ((ah9 (fe.keeps k) _ hf).here (wpAny_bind (wpAny_call ?_))));refine codeAny_mono (aF aj _ (uE _) M) λr s' z=>?_
 rcases r with e|(v|_|_|_) <;> first|exact z|exact z.elim|skip
 let(rfl,z):=z;exact wpAny_pure (wpAny_pure z)
end
noncomputable def zf:List Value->Bool
 | .ref _::r=>zf r
 |l=>l==hZ
def r'(self:Value):refuseLoop self "__setattr__" hZ=pure ⟨⟩:=by kernel_rfl
theorem WI(self:Value):∀{l:List Value},zf l=true->refuseLoop self "__setattr__" l=pure ⟨⟩
 | .ref c::r,e=>by rw[refuseLoop_ref];exact WI self (l:=r) e
 |[],e=>by cases e
 | .type n::r,e=>by rw[show rr n::r=hZ from beq_iff_eq.mp e];exact r' self
 | .none::r,e=>by rw[show ik::r=hZ from beq_iff_eq.mp e];exact r' self
 | .bool b::r,e=>by rw[show lM b::r=hZ from beq_iff_eq.mp e];exact r' self
 | .int b c::r,e=>by rw[show lJ b c::r=hZ from beq_iff_eq.mp e];exact r' self
 | .str b c::r,e=>by rw[show qF b c::r=hZ from beq_iff_eq.mp e];exact r' self
 | .bytes b c::r,e=>by rw[show Jj b c::r=hZ from beq_iff_eq.mp e];exact r' self
 | .float b c::r,e=>by rw[show IJ b c::r=hZ from beq_iff_eq.mp e];exact r' self
 | .builtin b::r,e=>by rw[show w8 b::r=hZ from beq_iff_eq.mp e];exact r' self
theorem G8(T:String)(h:hZ.contains (.type T)=true):∀{l:List Value},zf l=true->l.contains (.type T)=true
 | .ref c::r,e=>by rw[E2,G8 T h (l:=r) e,EI]
 |[],e=>by cases e
 | .type n::r,e=>by rw[show rr n::r=hZ from beq_iff_eq.mp e];exact h
 | .none::r,e=>by rw[show ik::r=hZ from beq_iff_eq.mp e];exact h
 | .bool b::r,e=>by rw[show lM b::r=hZ from beq_iff_eq.mp e];exact h
 | .int b c::r,e=>by rw[show lJ b c::r=hZ from beq_iff_eq.mp e];exact h
 | .str b c::r,e=>by rw[show qF b c::r=hZ from beq_iff_eq.mp e];exact h
 | .bytes b c::r,e=>by rw[show Jj b c::r=hZ from beq_iff_eq.mp e];exact h
 | .float b c::r,e=>by rw[show IJ b c::r=hZ from beq_iff_eq.mp e];exact h
 | .builtin b::r,e=>by rw[show w8 b::r=hZ from beq_iff_eq.mp e];exact h
structure jO(K:a')(C:Addr):Prop where
 hd:EB K C=true
 di:((Ly K C).any λcd=>zf cd.mro)=true
 hC:dM K ⇑C "__setattr__"\(some (.builtin "object.__setattr__"))
 ga:dM K ⇑C "__getattribute__"\(some (.builtin "BaseException.__getattribute__"))
 gt:dM K ⇑C "__getattr__"\none
 ex:∃fI,vg K C fI=true
def ek(x C:Addr)(od:Option Addr):Heap->Prop:=λh=>∃vs aX,h.get? x\(⇑C,od,.fields vs,aX)/\1<vs.size/\vs[1]?\.none/\vs[2]?\.none
def fY(ak:Addr)(aR:List (Str×V)):Heap->Prop:=λh=>∃dQ,h.Ns1 ak dQ/\(∀f,iG (aR.lookup f) (dQ f))/\Dc dQ (aR.map (·.1))
def ek.at{x C:Addr}{h h':Heap}(z:ek x C od h)(k:∀o,h.get? x\o->h'.get? x\o):ek x C od h':=let⟨vs,aX,e,r⟩:=z;(vs,aX,k _ e,r)
theorem fY.at{aR:List (Str×V)}{h h':Heap}(z:fY ak aR h)(k:∀o,h.get? ak\o->h'.get? ak\o):fY ak aR h':=let⟨dQ,e,r⟩:=z;(dQ,e.at k,r)
def ek.ok{w:World}{h:Heap}{x C:Addr}(z:ek x C od h):eh P w H h x (.ext (ek x C od)):=by
 let(vs,aX,e,r):=id z;exact(z,(_,e),λaf aj q k=>q.at k)
def fY.ok{w:World}{h:Heap}{aR:List (Str×V)}(z:fY ak aR h):eh P w H h ak (.ext (fY ak aR)):=by
 let(dQ,(o,aK,ep,e,_),_):=id z;exact(z,(_,e),λaf aj q k=>q.at k)
section
variable{prog:Program}{w:World}{A:Around}{E:Value->Shared->Prop}{K:a'}{C x:Addr}{s:Shared}{R:Result->Shared->Prop}
theorem W5{name:Str}(fe:K.In s.heap)(cb:wc s.heap x ox C od)(c:jO K C)(cV:cY K C name)
  (h:wpAny (model prog w) A.in1 (storeInOwnDict ⇑x ⇑C (.str name cB) name v false)
   (λfin s'=>match fin with|.done f=>R (.ok f) s'|.again eT=>eT.quiet=true/\codeAny (model prog w) A eT R s') (λe s'=>R (.error e) s') s) :
  codeAny (model prog w) A (.call (.builtin "object.__setattr__") ([⇑x,.str name cB,v],[])) R s:=by
 have G:=PySem.F.store_object;let(cd,ah,aW):=tX c.di;have ne:cd.mro.isEmpty=false:=by
  cases q:cd.mro with
  |nil=>rw[q]at aW;cases aW
  |cons _ _=>rfl
 have sub:Ky (model prog w) s.heap (isInstance ⇑x (.type "object")) true:=
  cb.type.andThen (akZ fe (by unfold xl;rw[ah,SQ,if_neg (by rw[ne];decide),G8 "object" ∅ aW]))
 refine codeAny_call_builtin G.slot.plain G.entry (@PySem.W.check_slot (model prog w) _ _ s "object.__setattr__" "object" "__setattr__" ⇑x [.str name cB,v] [] _ G.kind G.split sub (G.args ⇑x (.str name cB) v) ?_);have hm:Ky (model prog w) s.heap (mroOf ⇑C) cd.mro:=(MG fe ah).andThen .now;rw[PySem.W.osa_eq,refuse_eq];refine wpAny_bind (wpAny_bind (cb.type.here (wpAny_bind (hm.here ?_))));rw[WI _ aW];exact wpAny_pure (wpAny_bind (cb.type.here (wpAny_bind ((FG fe cV).here (wpAny_bind (wpAny_pure h))))))
end
section
variable{X:a6}{ab:List (Addr×Obj)}{σ:St}{H:ar}{s:Shared}{x C ak:Addr}{aR:List (Str×V)}{f:Str}{y:V}{u:Value}{A:Around}{E:Value->Shared->Prop}{Q:Unit->Shared->Prop}
def amu(J:Inv X ab σ H s)(e:H x\(.ext (ek x C none)))(c:jO X.K C)(n:cY X.K C f)(bu:bN y u)
  (h:∀ak s',H ak=none->ak≠x->Inv X ab σ (upd (upd H x (.ext (ek x C (some ak)))) ak (.ext (fY ak [(f,y)]))) s'->Q ⟨⟩ s'):wpAny (model X.prog X.w) A (setAttr ⇑x f u) Q E s:=by
 let(vs,aX,ai,dS,dF):=(show eh X.prog X.w H s.heap x (.ext (ek x C none))from J.bf _ _ e).1;have cb:wc s.heap x (⇑C,none,.fields vs,aX) C none:=(ai,rfl,rfl,kB);refine QM J.es cb c.hC (W5 (s:={s with toks:=s.toks+1}) J.es cb c n ?_);let(cd,ah,m7):=tX c.hd;refine wpAny_bind (wpAny_pure (wpAny_bind (wpAny_bind (wpAny_loadPart ai (wpAny_bind (RU (s:={s with toks:=s.toks+1}) (MG J.es ah) ?_))))));rw[m7];show wpAny _ _ (alloc ka >>= λd=>(update x λo=>{o with dict:=some d}) >>= λ_=>dictMade ⇑C x d) _ _ _;refine wpAny_bind (wpAny_alloc (wpAny_bind ?_));have pj:(s.heap.push ka).get? x\(⇑C,none,.fields vs,aX):=dX _ ai;have ac4:x<↥s:=dO ai;refine wpAny_update pj (wpAny_pure ?_);have az:(s.heap.push ka).get? ↥s\ka:=e7 s.heap rfl;have b7:(s.heap.push ka).Ns ↥s (λ_=>none):=(ka,#[],_,az,rfl,(λe he=>absurd he (by simp)),λ_=>rfl);generalize S_:(s.heap.push ka).update x (λo=>{o with dict:=some ↥s})=aj;have cp:↥s≠x:=C8 ac4;have bo:∀b,b≠x->aj.get? b=(s.heap.push ka).get? b:=λb ae=>by rw[<- S_];exact kn _ _ (dB ae)
 have fZ:aj.get? x\(⇑C,some ↥s,.fields vs,aX):=by rw[<- S_];exact nG _ pj rfl
 have cg:aj.Ns1 ↥s (λ_=>none):=(ak6 b7).at λo q=>(bo _ cp).trans q
 refine wpAny_bind (wpAny_pure (wpAny_bind ?_));refine wpAny_nsSet1 (s:={s with heap:=aj,toks:=s.toks+1}) cg λa_ dh s3=>?_
 have d3:Dc (λa=>if a=f then some u else none) [f]:=Y3 f u (λa aJ=>absurd rfl aJ);let(YJ,Tz,Qp,vF,xG,lB):=dh.count d3;refine wpAny_bind (wpAny_lookBehind vF (by rw[xG];exact pastItsLine_dict (cH lB (by rw[sizeLine_eq];show 1<=_;decide))) ?_);refine wpAny_pure (h ↥s _ (J.bf.fresh (b0 _)) cp ?_);have jA:∀b o,b≠x->s.heap.get? b\o->a_.get? b\o:=λb o ae q=>
  (s3.2 b (λz=>by rw[z]at q;exact absurd (dO q) (qW _))).trans ((bo b ae).trans (dX _ q))
 have dx:a_.get? x\(⇑C,some ↥s,.fields vs,aX):=(s3.2 x (dB cp)).trans fZ;generalize H_:s.heap.update x (λo=>{o with dict:=some ↥s})=f';have Wl:∀b,b≠x->f'.get? b=s.heap.get? b:=λb ae=>by rw[<- H_];exact kn _ _ (dB ae)
 have Ip:f'.get? x\(⇑C,some ↥s,.fields vs,aX):=by rw[<- H_];exact nG _ ai rfl
 have aly:f'.objs.size=↥s:=by rw[<- H_];exact aa7 _ _ _
 have Ia:=J.write (x:=x) (e:=x) (o:=.ext (ek x C (some ↥s))) (h':=f') (t':=s.toks) (by rw[e];exact kB) (.inl rfl) (λb o ae q=>(Wl b ae).trans q) (_,Ip) (ek.ok (vs,aX,Ip,dS,dF));refine Ia.laid (a:=↥s) (h':=a_) (λb o q=>?_) (Dy aly) (fY.ok (_,dh,λg=>?_,d3))
 .by_cases ae:b=x
  .subst ae;rw[Ip]at q;rw[dx,<- q]
  .rw [Wl b ae]at q;exact jA b o ae q
 .show iG (mA g [(p'p f y)]) (if g=f then some u else none);by_cases aF:g=f
  .rw [if_pos aF,aF,List.lookup_cons_self];exact bu
  .rw [if_neg aF,ob,beq_false_of_ne aF];exact kB
def aez(J:Inv X ab σ H s)(e:H x\(.ext (ek x C (some ak))))(ia:H ak\(.ext (fY ak aR)))(c:jO X.K C)(n:cY X.K C f)(aw:↑aR<1000)(bu:bN y u)
  (h:∀s',Inv X ab σ (upd H ak (.ext (fY ak (dz f y aR)))) s'->Q ⟨⟩ s'):wpAny (model X.prog X.w) A (setAttr ⇑x f u) Q E s:=by
 let(vs,aX,ai,dS,dF):=(show eh X.prog X.w H s.heap x (.ext (ek x C (some ak)))from J.bf _ _ e).1;let(dQ,bY,r,d3):=(show eh X.prog X.w H s.heap ak (.ext (fY ak aR))from J.bf _ _ ia).1;let(od,aW,DX):=Kn bY;have cb:wc s.heap x (⇑C,some ak,.fields vs,aX) C (some od):=(ai,rfl,rfl,aW);refine QM J.es cb c.hC (W5 (s:={s with toks:=s.toks+1}) J.es cb c n ?_);let(cd,ah,m7):=tX c.hd;refine wpAny_bind (wpAny_pure (wpAny_bind (wpAny_bind (wpAny_loadPart ai (wpAny_bind (RU (s:={s with toks:=s.toks+1}) (MG J.es ah) ?_))))));rw[m7];refine wpAny_pure (a:=some ak) (wpAny_bind (wpAny_pure (wpAny_bind ?_)));refine wpAny_nsSet1 (s:={s with toks:=s.toks+1}) bY λa_ dh s3=>?_
 let(YJ,Tz,Qp,vF,xG,lB):=dh.count (Y3 f u d3);refine wpAny_bind (wpAny_lookBehind vF (by rw[xG];exact pastItsLine_dict (cH lB (by rw[gw,a9,sizeLine_eq];omega))) ?_);refine wpAny_pure (h _ ?_);refine J.write (x:=ak) (e:=ak) (by rw[ia];exact kB) (.inl rfl) (λb o ae q=>(s3.2 b ae).trans q) (_,vF) (fY.ok (_,dh,λg=>?_,λg a0=>?_))
 .show iG ((dz f y aR).lookup g) (if g=f then some u else dQ g);rw[Nd];by_cases q:g=f
  .rw [if_pos q,if_pos q];exact bu
  .rw [if_neg q,if_neg q];exact r g
 .by_cases q:g=f
  .rw [q];exact(xp f y aR).1
  .refine (xp f y aR).2 g (d3 g λz=>a0 ?_);show(if g=f then some u else dQ g)=none;rw[if_neg q];exact z
def gj(x C:Addr)(od:Option Addr):Heap->Prop:=λh=>∃vs aX,h.get? x\(⇑C,od,.fields vs,aX)/\vs[2]?\.none
def gj.at{x C:Addr}{h h':Heap}(z:gj x C od h)(k:∀o,h.get? x\o->h'.get? x\o):gj x C od h':=let⟨vs,aX,e,r⟩:=z;(vs,aX,k _ e,r)
def gj.ok{w:World}{h:Heap}{x C:Addr}(z:gj x C od h):eh P w H h x (.ext (gj x C od)):=by
 let(vs,aX,e,_):=id z;exact(z,(_,e),λaf aj q k=>q.at k)
end
abbrev rV:=St->ar->(ar->Prop)->Prop
def rX(X:a6)(aK:List Expr)(n:Nat)(t:rV):Prop:=
 ∀(ab:List (Addr×Obj)) (s:Shared) (σ:St) (H:ar) (Q:ar->Prop) (acc:Str) (R:Str->Shared->Prop),Inv X ab σ H s->↑acc+n<=sizeLine->t σ H Q ->
  (∀out I s',Inv X ab σ I s'->↑out<=sizeLine->Q I->R out s')->Joins (model X.prog X.w) X.A X.df (evalEach aK X.env) acc R s
def Ib:rV:=λ_ H Q=>Q H
def MF(bI:TE)(t:rV):rV:=λσ H Q=>bI σ H λv H1=>∃i,v=.int i/\i.natAbs.log2<1920/\t σ H1 Q
def Lq(bI:TE)(t:rV):rV:=λσ H Q=>bI σ H λv H1=>∃x,v=.str x/\↑x<=1000/\(∀c∈x.cps.toList,c<16 ^ 8)/\t σ H1 Q
def Kx(t:rV):TE:=λσ H Q=>t σ H λH1=>∀y:Str,Q (.str y) H1
section
variable{X:a6}{e:Expr}{aK:List Expr}{n:Nat}{t:rV}{bI:TE}{pos:Pos}
def ES:rX X [] 0 Ib:=λab s σ H Q acc R J aw q h=>h acc H s J aw q
def ra{k:Nat}(h:rX X aK n t):rX X (.Constant (.str c) k pos::aK) (n+↑c) t:=λab s σ H Q acc R J aw q gc=>by
 show wpAny _ _ _ _ _ _;refine WW (c,_,rfl,by rw[strLen_append];omega,h ab _ σ H Q _ R (J.tok _) (by rw[strLen_append];omega) q gc)
def Xp(he:bw X e bI)(h:rX X aK n t):rX X (.FormattedValue e (-1) none pos::aK) (n+2000) (MF bI t):=λab s σ H Q acc R J aw q gc=>by
 show wpAny _ _ _ _ _ _;refine wpAny_FormattedValue_plain (bG (he ab s σ H _ J q) λu s1 ck=>?_);let(v,H1,aU,r,i,ev,ao,bM):=ck;subst ev;let(cB,rfl):=(show ∃cB,u=lJ i cB from r);have ax:=int_text_fits ao;have CR:↑(aa (toString i))<=2000:=by
  have e:=int_text_length_le (k:=1920) ∅ ao;rw[PySem.ofString_length];omega
 refine wpAny_formatField_int ao (_,_,rfl,by rw[strLen_append];omega,h ab _ σ H1 Q _ R (aU.tok _) (by rw[strLen_append];omega) bM gc)
def Ao(he:bw X e bI)(h:rX X aK n t):rX X (.FormattedValue e 114 none pos::aK) (n+11000) (Lq bI t):=λab s σ H Q acc R J aw q gc=>by
 show wpAny _ _ _ _ _ _;refine wpAny_FormattedValue_repr (bG (he ab s σ H _ J q) λu s1 ck=>?_);let(v,H1,aU,r,x,ev,ai,ah,bM):=ck;subst ev;let(cB,rfl):=(show ∃cB,u=qF x cB from r);have ax:=arX x ah;refine wpAny_pyReprObj_str ?_ (by rw[sizeLine_eq];omega);exact formatField_str (λt' ai1=>(_,_,rfl,by rw[strLen_append];omega,h ab _ σ H1 Q _ R ((aU.tok _).tok _) (by rw[strLen_append];omega) bM gc)) (by rw[sizeLine_eq];omega)
def Cy(h:rX X (e::aE::aK) n t)(aL:n<=sizeLine):bw X (.JoinedStr (e::aE::aK) pos) (Kx t):=by
 intro ab s σ H Q J q;refine wpAny_JoinedStr (h ab s σ H _ _ _ J (by show 0+n<=_;omega) q λout I s' jZ aw du=>(aw,?_));exact(.str out,I,jZ.tok _,(_,rfl),du out)
end
structure Px(K:a')(L:Addr)(m:Str):Prop where
 rd:ahU K L (.type "type")=true
 fd:afP K ⇑L (.type "type") m\(.val (.builtin "ValueError.__init__"))
 ga:u7 K ⇑L "__getattribute__"\(some (.builtin "type.__getattribute__"))
def Nw(K:a')(t:eE):TE:=λσ H Q=>t σ H λvs H1=>∃x C od v,vs=[⇑x,v]/\H1 x\(.ext (ek x C od))/\jO K C/\Q .b4 H1
section
variable{X:a6}{L:Addr}{x:Str}{p pos eR:Pos}{e:Expr}{aK:List Expr}{t:eE}
theorem aqf{A:Around}(J:Inv X ab σ H s)(cK:H a\(.ext (ek a C od)))(c:jO X.K C)
  (h:∀s',Inv X ab σ H s'->Q .none s'):wpAny (model X.prog X.w) A (call (.builtin "ValueError.__init__") [⇑a,u]) Q E s:=by
 let(vs,aX,ai,dS,dF):=(show eh X.prog X.w H s.heap a (.ext (ek a C od))from J.bf _ _ cK).1;let(fI,Hy):=c.ex;let(dp,N,nm,q,bs,sn,sub,pb,co,c9,px,bU,bo,jA,oL,sW,cq,bc,ao,T):=Lz J.es Hy;have F:=an0;let(v0,h0):∃v0,vs[0]?\v0:=(vs[0]'(),acg ());let(cG,g,d,tt,os):=s;refine wpAny_call (codeAny_call_builtin F.init.plain F.initEntry (wpAny_check_init_subT F T cq ai rfl ?_));show wpAny _ _ (newTuple [u] >>= λcI=>(do
  let old <- field ⇑a 0
  setField ⇑a 0 cI
  if let ⇑_:=old then letGo [old] []) >>= λ_=>ret .none) _ _ _
 have pj:(cG.push {cls:=.type "tuple",data:=.seq [u].toArray}).get? a\(⇑C,od,.fields vs,aX):=dX _ ai;refine wpAny_bind (wpAny_newTuple (wpAny_bind (wpAny_bind (wpAny_field pj rfl h0 (wpAny_bind (wpAny_setField pj rfl () ?_))))));have fZ:=nG (h:=cG.push {cls:=.type "tuple",data:=.seq [u].toArray}) (oU (·.setIfInBounds 0 ⇑cG.objs.size)) pj rfl;have fin:∀s',s'=(⟨(cG.push {cls:=.type "tuple",data:=.seq [u].toArray}).update a (oU (·.setIfInBounds 0 ⇑cG.objs.size)),g,d,tt,os⟩:Shared)->Q .none s':=by
  rintro s' rfl;refine h _ ?_;have aU:Inv X ab σ H (cG.push {cls:=.type "tuple",data:=.seq [u].toArray},g,d,tt,os):=J.kept (t':=tt) λb o q=>dX _ q
  have:=aU.write (x:=a) (e:=a) (o:=.ext (ek a C od)) (h':=(cG.push {cls:=.type "tuple",data:=.seq [u].toArray}).update a (oU (·.setIfInBounds 0 ⇑cG.objs.size))) (t':=tt) (by rw[cK];exact kB) (.inl rfl)
   (λb o ae q=>(kn _ _ (dB ae)).trans q) (_,fZ) (ek.ok (vs.setIfInBounds 0 ⇑cG.objs.size,aX,fZ,by simpa using dS,by rw[QC ∅];exact dF.1,by rw[QC ∅];exact dF.2))
  rwa[Xz cK]at this
 cases v0 with
 |ref b=>exact wpAny_bind (wpAny_holding (wpAny_point (wpAny_pure (wpAny_pure (fin _ rfl)))))
 |_=>exact wpAny_pure (wpAny_pure (fin _ rfl))
def CV(a0:hI X x)(hm:X.av x\⇑L)(c:Px X.K L m)(aJ:da X (e::aK) t)
  (fj:(x==("__debug__":Str))=false:=by decide) (gJ:starEach (e::aK) X.env=(p'p false (eval e X.env))::starEach aK X.env:=by rfl) (dI:(backTo pos (starEach aK X.env)).any (·.1)=false:=by rfl)
  (cV:eval (.Call (.Attribute (.Name x p) m eR) (e::aK) [] pos) X.env=(do
   let di <- eval (.Name x p) X.env
   standAt eR.atName
   let (f,first) <- holding [di] (getMethod di m pl)
   callWith pos f first (backTo pos (starEach (e::aK) X.env)) (backToKw pos (keywordEach [] X.env))):=by rfl) :
  bw X (.Call (.Attribute (.Name x p) m eR) (e::aK) [] pos) (Nw X.K t):=by
 intro ab s σ H Q J h;refine yL (pl:=pl) (qR J a0 hm ?_ fj) cV;refine ado J.es c.ga (alD J.es c.rd c.fd rfl ?_);refine afJ (bG (aJ pos ab _ σ H _ (J.tok (s.toks+1)) h) λus s2 ck=>?_) gJ dI;let(vs,ay,bK,r,a,C,od,v,ev,cK,qA,q):=ck;subst ev;let(rH,zr,rfl,bX,c4):=XL r;obtain rfl:rH=dm a:=bX;exact aqf bK cK qA λs3 eA=>(.b4,ay,eA,rfl,q)
end
structure rk(K:a')(C fI:Addr):Prop where
 e:vg K C fI=true
 fn:QK K ⇑fI\(.type "function")
 bt:q9 K ⇑C=true
def Mq(C:Addr)(sp:bH)(t:eE):TE:=λσ H Q=>t σ H λvs H1=>↑vs<=sizeLine/\∀x,H1 x=none->sp (⇑x::vs) (upd H1 x (.ext (ek x C none))) (λv ay=>v=.b4/\Q ⇑x ay) (λ_ _ _=>False)
def XZ(K:a')(a4 eH:TE)(f:Str):ea:=λD σ H=>eH σ H λy H1=>a4 σ H1 λx ay=>∃a C,x=⇑a/\ay a\(.ext (ek a C none))/\jO K C/\cY K C f /\
 ∀ak,ay ak=none->ak≠a->D.cp σ (upd (upd ay a (.ext (ek a C (some ak)))) ak (.ext (fY ak [(f,y)])))
def Yl(K:a')(a4 eH:TE)(f:Str):ea:=λD σ H=>eH σ H λy H1=>a4 σ H1 λx ay=>∃a C ak aR,x=⇑a/\ay a\(.ext (ek a C (some ak)))/\ay ak\(.ext (fY ak aR))/\jO K C/\cY K C f/\↑aR<1000 /\
 D.cp σ (upd ay ak (.ext (fY ak (dz f y aR))))
section
variable{X:a6}{k:Nat}{f C:Addr}{fd:FuncData}{ps:List Str}{sp:bH}{x g:Str}{p pos pos' eR:Pos}{e o value:Expr}{aK:List Expr}{a4 eH:TE}{t:eE}
def ak9(M:rk X.K C f)(F:bD X.prog X.w X.K X.av X.base (λ_ _ _ _ _ _=>False) k f fd ps sp)(au:eJ (k+1) X.A)(ae:ac X.K fd ps [])
  (J:Inv X ab σ H s) (r:bW vs us) (ax:↑vs<=sizeLine) (h:∀x,H x=none->sp (⇑x::vs) (upd H x (.ext (ek x C none))) (λv ay=>v=.b4/\Q ⇑x ay) (λ_ _ _=>False)) :
  wpAny (model X.prog X.w) X.A (call ⇑C us) (gX X ab σ Q) X.df s:=by
 let(cG,g,d,tt,os):=s;refine wpAny_call (ai_ (fI:=f) J.es M.e M.fn (by rw[<- ↑r];exact ax) λh' x ai Q0=>?_);let(cI,ox,_,_):=Q0.there;have bK:=J.laid (a:=x) (o:=.ext (ek x C none)) (h':=h') (t':=tt) Q0.keeps ai (ek.ok (_,_,ox,Nat.lt_of_lt_of_eq ((∅:1<6)) rfl,rfl,rfl));have aF:=h x (J.bf.fresh ai);have c4:bW (V.ref x::vs) (dm x::us):=.cons rfl r;have aw:↑((dm x::us)++[])=↑ps:=by
  rw[ow,<- ↑c4];exact F.len _ _ _ _ aF
 have q':=ae (h',g,d,tt,os) (dm x::us) bK.es aw;rw[ow]at q';refine codeAny_mono (F.run _ X.stack _ _ (dm x::us,[]) (dm x::us) _ _ _ (au.make C us []) (bK.CS.make C us []) q' c4 aF) λr s' r4=>?_
 rcases r with e|(u|_|_|_) <;> first|exact ky r4|skip
 let(v,I,eA,cf,ev,eC):=bK.after r4;subst ev;exact(cf,(V.ref x,I,eA,rfl,eC))
def CC(M:rk X.K C f)(F:bD X.prog X.w X.K X.av X.base (λ_ _ _ _ _ _=>False) k f fd ps sp)(au:eJ (k+1) X.A)(a0:hI X x)(hm:X.av x\⇑C)(ae:ac X.K fd ps [])
  (aJ:da X (e::aK) t) (fj:(x==("__debug__":Str))=false:=by decide) (he:starEach (e::aK) X.env=(p'p false (eval e X.env))::starEach aK X.env:=by rfl) (dI:(backTo pos (starEach aK X.env)).any (·.1)=false:=by rfl) :
  bw X (.Call (.Name x p) (e::aK) [] pos) (Mq C sp t):=by
 intro ab s σ H Q J h;refine wpAny_Call_Name_kw (qR J a0 hm ?_ fj);exact z_ (h₀:=X.base) J.ok.mod.rC M.bt (bG (aJ pos ab s σ H _ J h) λus s1 ⟨vs,H1,aU,r,ax,q⟩=>(aU.es,ak9 M F au ae aU r ax q)) he dI
def Ck(aJ:bw X o a4)(aM:bw X value eH)(aB:swapsWith value (some (.Attribute o g pos')) pos.line X.env=pure false):gv X (.Assign [.Attribute o g pos'] value pos) (XZ X.K a4 eH g):=by
 intro ab s σ H D J h;refine plainObj_wpAny_Assign_Attribute (bG (aM ab s σ H _ J h) λu s1 cm=>eo cm λy H1 aU bu q=>bG (aJ ab s1 σ H1 _ aU q) λdi s2 ck=>?_) aB;let(x,ay,bK,bh,a,C,ex,cK,c,n,cP):=ck;subst ex;obtain rfl:di=dm a:=bh;exact amu bK cK c n bu λak s3 hd b8 eA=>(σ,_,eA,cP ak hd b8)
def Gh(aJ:bw X o a4)(aM:bw X value eH)(aB:swapsWith value (some (.Attribute o g pos')) pos.line X.env=pure false):gv X (.Assign [.Attribute o g pos'] value pos) (Yl X.K a4 eH g):=by
 intro ab s σ H D J h;refine plainObj_wpAny_Assign_Attribute (bG (aM ab s σ H _ J h) λu s1 cm=>eo cm λy H1 aU bu q=>bG (aJ ab s1 σ H1 _ aU q) λdi s2 ck=>?_) aB;let(x,ay,bK,bh,a,C,ak,aR,ex,cK,ia,c,n,aw,cP):=ck;subst ex;obtain rfl:di=dm a:=bh;exact aez bK cK ia c n aw bu λs3 eA=>(σ,_,eA,cP)
end
def nt(x C:Addr)(od:Option Addr)(T:Addr)(ec:Value)(h:Heap):Prop:=
 T≠x/\∃vs aX sV iX,h.get? x\(⇑C,od,.fields vs,aX)/\vs[1]?\⇑T/\h.get? T\sV/\sV.data=.fields iX/\iX[3]?\ec/\vs[2]?\.none
def nt.q4{x C T:Addr}{h:Heap}(z:nt x C od T ec h):gj x C od h:=let⟨_,vs,aX,_,_,e,_,_,_,_,r⟩:=z;(vs,aX,e,r)
structure oc(aR:List Addr)(x:Addr)(sD:Option Addr)(h h':Heap):Prop where
 keep:∀b o,h.get? b\o->b∉aR->b≠x->some b≠sD->h'.get? b\o
 slot:∀b o,h.get? b\o->b∈aR->∃aX,h'.get? b=some {o with slots:=aX}
 there:∀b o,h.get? b\o->∃dY,h'.get? b\dY
section
variable{M:Model}{A:Around}{E:Value->Shared->Prop}{s:Shared}
def w'{base h:Heap}(aw:h.FunFrames base l)(e:h.get? b\o)(d:o.data=.fields vs):b∉hn l:=λhm=>by
 let(_,dY,bZ,hJ):=aw.mem hm;rw[e]at bZ;cases bZ;exact hJ vs d
def agz{env nT:Env}(hf:env.frame\L)(pW:nT.frame\L):JN nT=JN env:=by
 unfold JN;rw[pW,hf]
def TC{base:Heap}{env nT:Env}{outer:List Env}{L x C:Addr}{aL:Bool}
  (mN:A.frames\(env::outer)) (aw:s.heap.FunFrames base (env::outer)) (hf:env.frame\L) (pW:nT.frame\L) (he:s.heap.get? x\(⇑C,od,.fields vs,aX)) (ax:1<vs.size) (og:vs[2]?\.none)
  (h:∀h' T,oc (hn (env::outer)) x none s.heap h'->↥s<=T->nt x C od T (rawInt L) h'->Q ⟨⟩ {s with heap:=h' }) :
  wpAny M A (do let a <- JN nT;let pl <- entryPlaceOf L aL;let b <- aaK head a .none (rawInt L) .none pl;setField ⇑x 1 b) Q E s:=by
 have cp:x∉hn (env::outer):=w' aw he rfl;rw[agz hf pW];refine wpAny_bind (wpAny_frameOf_fun mN aw hf λaf S=>wpAny_bind (wpAny_entryPlaceOf λpl aq=>?_));unfold aaK newFields;refine wpAny_bind (wpAny_newObj_type ?_ (aq.sizeOk5 _ _ _ _ _));have az:af.get? x\(⇑C,od,.fields vs,aX):=(S.2.1 x cp).trans he;let(iX,aiL,a_):∃iX:Array Value,([head,⇑L,.none,rawInt L,.none]++(if pl.isEmpty then ke 6 ik else pl)).toArray=iX/\iX[3]?\(rawInt L):=(_,rfl,by simp);rw[aiL];have aE:=dX (h:=af) {cls:=.type "traceback",dict:=none,data:=.fields iX} az;have ne:af.objs.size≠x:=C8 (dO az);have rf:af.objs.size=↥s:=S.1;refine wpAny_setField aE rfl ax (h _ af.objs.size (λb o q bY cg _=>?_,λb o q bY=>?_,λb o q=>?_) (Dy rf.symm) (ne,vs.setIfInBounds 1 ⇑af.objs.size,aX,{cls:=.type "traceback",dict:=none,data:=.fields iX},iX,nG _ aE rfl,by simp[ax],?_,rfl,a_,by rw[QC ∅];exact og))
 .rw [kn _ _ (dB cg)];exact dX _ ((S.2.1 b bY).trans q)
 .obtain⟨u3,b7⟩:=S.2.2 b o q;have nb:x≠b:=fun z=>cp (by rw[z];exact bY)
  exact(u3,(kn _ _ nb).trans (dX _ b7))
 .by_cases ae:b=x
  .rw [ae];exact(_,nG _ aE rfl)
  .let(u3,b7):=S.2.2 b o q;exact(_,by rw[kn _ _ (dB ae)];exact dX _ b7)
 .exact (kn _ _ (dB ne)).trans (e7 af rfl)
def aa8{base:Heap}{env nT:Env}{outer:List Env}{L x C:Addr}
  (mN:A.frames\(env::outer)) (aw:s.heap.FunFrames base (env::outer)) (hf:env.frame\L) (pW:nT.frame\L) (he:s.heap.get? x\(⇑C,od,.fields vs,aX)) (af:vs[1]?\.none) (og:vs[2]?\.none)
  (h:∀h' T,oc (hn (env::outer)) x none s.heap h'->↥s<=T->nt x C od T (rawInt L) h'->Q ⟨⟩ {s with heap:=h' }) :
  wpAny M A (noteFrame ⇑x nT) Q E s:=by
 unfold noteFrame;simp only[pW];refine wpAny_bind (wpAny_field he rfl af ?_);rw[if_neg ∅];exact TC mN aw hf pW he (Lx.mp af).1 og h
def aob{base:Heap}{env nT:Env}{outer:List Env}{L x C T:Addr}
  (mN:A.frames\(env::outer)) (aw:s.heap.FunFrames base (env::outer)) (hf:env.frame\L) (pW:nT.frame\L) (z:nt x C od T ec s.heap) (b8:¬(ec==rawInt L)=true)
  (h:∀h' uz,oc (hn (env::outer)) x (some T) s.heap h'->↥s<=uz->nt x C od uz (rawInt L) h'->Q ⟨⟩ {s with heap:=h' }) :
  wpAny M A (noteFrame ⇑x nT) Q E s:=by
 let(ne,vs,aX,sV,iX,he,af,dN,hd,a_,og):=z;unfold noteFrame;simp only[pW];refine wpAny_bind (wpAny_field he rfl af ?_);rw[if_pos (show(dm T != ik)=true from by simp)];refine wpAny_bind (wpAny_field dN hd a_ ?_);rw[if_neg b8];refine wpAny_bind (wpAny_setField dN hd (Lx.mp a_).1 ?_);have iW:T∉hn (env::outer):=w' aw dN hd;have kW:∀b,b≠T->(s.heap.update T (oU (·.setIfInBounds 3 ik))).get? b=s.heap.get? b:=λb ae=>kn _ _ (dB ae)
 have CF:∃dY,(s.heap.update T (oU (·.setIfInBounds 3 ik))).get? T\dY:=(_,nG _ dN (Y' (D3 hd _)));have q3:(s.heap.update T (oU (·.setIfInBounds 3 ik))).FunFrames base (env::outer):=aw.of_keeps λb o e hJ=>(o,(kW b λq=>by rw[q,dN]at e;cases e;exact hJ iX hd).trans e,rfl)
 refine TC (s:={s with heap:=s.heap.update T (oU (·.setIfInBounds 3 ik))}) mN q3 hf pW ((kW x (dB ne)).trans he) (Lx.mp af).1 og λh' uz k w f=>h h' uz (λb o q bY cg dh=>?_,λb o q bY=>?_,λb o q=>?_) ?_ f
 .exact k.keep b o ((kW b λy=>dh (by rw[y])).trans q) bY cg (λy=>by cases y)
 .exact k.slot b o ((kW b λy=>iW (y ▸ bY)).trans q) bY
 .by_cases ae:b=T
  .subst ae;let(dY,bZ):=CF;exact k.there _ _ bZ
  .exact k.there b o ((kW b ae).trans q)
 .exact cH (Dy (aa7 _ _ _).symm) w
def uI{x C T:Addr}{aR:List Addr}(o:Option Addr)(z:nt x C od T ec s.heap)(iW:T∉aR)
  (h:∀h',oc aR x (some T) s.heap h'->nt x C od T (o.elim .none λf=>rawInt f) h'->Q ⟨⟩ {s with heap:=h' }):wpAny M A (setFlight ⇑x o) Q E s:=by
 let(ne,vs,aX,sV,iX,he,af,dN,hd,a_,og):=z;have Lk:3<iX.size:=(Lx.mp a_).1;have kW:∀b,b≠T->(s.heap.update T (oU (·.setIfInBounds 3 (o.elim ik λf=>rawInt f)))).get? b=s.heap.get? b:=λb ae=>kn _ _ (dB ae)
 have CF:=nG (oU (·.setIfInBounds 3 (o.elim ik λf=>rawInt f))) dN (Y' (D3 hd _));unfold setFlight;refine wpAny_bind (wpAny_field he rfl af ?_);rw[if_pos (show(dm T != ik)=true from by simp)];refine wpAny_setField dN hd Lk (h _ (λb o q _ _ dh=>(kW b λy=>dh (by rw[y])).trans q,λb o q bY=>(o.slots,(kW b λy=>iW (y ▸ bY)).trans q),λb o q=>?_)
  (ne,vs,aX,_,_,(kW x (dB ne)).trans he,af,CF,D3 hd _,by simp[Lk],og))
 by_cases ae:b=T
 .subst ae;exact(_,CF)
 .exact (o,(kW b ae).trans q)
end
section
variable{P:Program}{w:World}{H:ar}{h h':Heap}{aR:List Addr}{x C T:Addr}{od:Option Addr}{ec:Value}{sD:Option Addr}{o:eY}
def oc.bf(k:oc aR x sD h h')(ok:eG P w H h)(Yx:∀b∈aR,H b=none)(dN:∀t,sD\t->H t=none)(fb:nk (H x))(new:gj x C od h'):eG P w (upd H x (.ext (gj x C od))) h':=λb u q=>by
 have xM:∀c y,H c\(.own y)->c≠x:=λc y r z=>by subst z;rw[r]at fb;exact fb
 have MU:∀c xs,H c\(.tup xs)->c≠x:=λc xs r z=>by subst z;rw[r]at fb;exact fb
 have kb:∀c v,c≠x->H c≠none->h.get? c\v->h'.get? c\v:=λc v bY cg r=>k.keep c v r (λz=>cg (Yx c z)) bY λz=>cg (dN c z.symm)
 by_cases ae:b=x
 .subst ae;rw[aP]at q;cases q;exact new.ok
 .rw[aO ae]at q;refine(ok b u q).kX (λc v ah r=>?_) (λc r=>by rw[aO (xM c b r)];exact r) λc xs r=>by rw[aO (MU c xs r)];exact r
  rcases ah with rfl|ah
  .exact kb c v ae (by rw[q];exact λz=>by cases z) r
  .exact kb c v (xM c b ah) (by rw[ah];exact λz=>by cases z) r
def oc.un(k:oc aR x sD h h')(dN:∀t,sD\t->H t=none)(fb:nk (H x)):gn aR sD.toList H (upd H x o) h h':=by
 have ai:∀b,H b=none->b≠x:=λb n z=>by subst z;rw[n]at fb;exact fb
 have hm:∀b u,H b\u->¬nk (some u)->b≠x:=λb u q nm z=>by subst z;rw[q]at fb;exact nm fb
 refine(λb u q n bY cg=>k.keep b u q bY (ai b n) λz=>cg (by rw[<- z];simp),λb u q n bY cg=>k.slot b u q bY,λb u q n _=>by rw[aO (ai b n)];exact n,λb u q _=>k.there b u q,
  λb xs q=>by rw[aO (hm b _ q λz=>z)];exact q,λb u xs q=>by rw[aO (hm b _ q λz=>z)];exact q,λb ps q=>(#[],by rw[aO (hm b _ q λz=>z),q];simp))
end
def fm(P:Program)(w:World):hP:=λouter H s E e s'=>
 ∃x C od I T,e=⇑x/\s'.os=s.os/\AllBare s'.gens/\gn (hn outer) [] H I s.heap s'.heap/\eG P w I s'.heap/\I x\(.ext (gj x C od))/\↥s<=T/\I T=none/\nt x C od T .none s'.heap/\E ⇑C od I
def IN(X:a6)(E:St->dG):Prop:=∀(ab:List (Addr×Obj)) (σ:St) (H:ar) (s:Shared) (x C:Addr) (od:Option Addr),Inv X ab σ H s->H x\(.ext (ek x C od))->E σ ⇑C od (upd H x (.ext (gj x C od)))->X.df ⇑x s
def NH(CX:hP)(X:a6)(E:St->dG):Prop:=∀(ab:List (Addr×Obj)) (σ:St) (H:ar) (s:Shared) (e:Value) (s':Shared),Inv X ab σ H s->CX X.stack H s (E σ) e s'->X.df e s'
structure ni(X:a6):Prop where
 st:X.stack=X.env::X.outer
 fr:X.env.frame\X.env.locals
def x3(X:a6)(ab:List (Addr×Obj))(T:Addr):Prop:=(T∈X.ex\/↥X.fB<=T)/\T≠X.env.locals/\(∀x c,X.env.cells.lookup x\c->c≠T)/\∀p∈X.d8++ab,p.1≠T
def l'(X:a6)(ab:List (Addr×Obj))(E:St->dG)(ec:Value)(e:Value)(s':Shared):Prop:=
 ∃aT I x C od T,e=⇑x/\Inv X ab aT I s'/\I x\(.ext (gj x C od))/\I T=none/\x3 X ab T/\nt x C od T ec s'.heap/\E aT ⇑C od I
def Jg(X:a6)(ab:List (Addr×Obj))(E:St->dG)(e:Value)(s':Shared):Prop:=
 ∃aT I x C od,e=⇑x/\Inv X ab aT I s'/\I x\(.ext (ek x C od))/\E aT ⇑C od (upd I x (.ext (gj x C od)))
def oE(X:a6)(ab:List (Addr×Obj))(E:St->dG)(e:Value)(s':Shared):Prop:=Jg X ab E e s'\/∃ec,l' X ab E ec e s'
def wb(X:a6)(E:St->dG)(e:Value)(s':Shared):Prop:=∃ab,oE X ab E e s'
section
variable{X:a6}{ab:List (Addr×Obj)}{σ:St}{H:ar}{s:Shared}{T x C:Addr}{od:Option Addr}{E:St->dG}{M:Model}{A:Around}{sk:Value->Shared->Prop}{Q:Unit->Shared->Prop}{e ec:Value}{h':Heap}
def Ay(J:Inv X ab σ H s)(dN:↥s<=T):x3 X ab T:=by
 have lt:∀{b:Addr} {o:Obj},s.heap.get? b\o->b≠T:=λq z=>by
  subst z;exact absurd (ij (dO q) dN) (qW _)
 refine(.inr (cH J.rf dN),λz=>?_,λx c e=>?_,λp aq=>lt (J.pin p aq).1)
 .let(m,(o,aK,ep,aW,_),_):=J.loc;exact lt aW z.symm
 .let(v,o,aW,_):=J.cell x c e;exact lt aW
def aia(J:Inv X ab σ H s)(k:oc (hn X.stack) x (some T) s.heap h')(ex:H x\(.ext (gj x C od)))(hL:H T=none)(iW:x3 X ab T)(q4:gj x C od h'):Inv X ab σ H {s with heap:=h' }:=by
 have fb:nk (H x):=by rw[ex];exact kB
 have z:∀t,some T\t->H t=none:=λt z=>by cases z;exact hL
 have rH:=k.un (H:=H) (o:=.ext (gj x C od)) z fb;have bU:=k.bf J.bf J.A5 z fb q4;rw[Xz ex]at rH bU;exact J.w2 (s':={s with heap:=h' }) (ch:=[T]) rfl rH bU J.bare λb ae=>by
  obtain rfl:b=T:=by simpa using ae
  exact iW
def P4(F:ni X)(J:Inv X ab σ H s)(k:oc (hn (X.env::X.outer)) x (some T) s.heap h')(ex:H x\(.ext (gj x C od)))(hL:H T=none)(iW:x3 X ab T)(q4:gj x C od h'):Inv X ab σ H {s with heap:=h' }:=
 aia J (by rw[F.st];exact k) ex hL iW q4
def l'.note(F:ni X)(q:l' X ab E ec e s)(b8:¬(ec==rawInt X.env.locals)=true)(h:∀s',l' X ab E (rawInt X.env.locals) e s'->Q ⟨⟩ s'):wpAny M X.A (noteFrame e X.env) Q sk s:=by
 let(σ,H,x,C,od,T,rfl,J,ex,hL,iW,f,w):=q;have aR:s.heap.FunFrames X.base (X.env::X.outer):=by rw[<- F.st];exact J.stack
 exact aob (by rw[<- F.st];exact J.ok.frames) aR F.fr F.fr f b8 λh' uz k fQ yE=>h _ (σ,H,x,C,od,uz,rfl,P4 F J k ex hL iW yE.q4,ex,J.bf.fresh fQ,Ay J fQ,yE,w)
def l'.apJ(F:ni X)(q:l' X ab E (rawInt X.env.locals) e s)(h:Q ⟨⟩ s):wpAny M X.A (noteFrame e X.env) Q sk s:=by
 let(σ,H,x,C,od,T,rfl,J,ex,hL,iW,(ne,vs,aX,sV,iX,he,af,dN,hd,a_,_),w):=q;unfold noteFrame;simp only[F.fr];refine wpAny_bind (wpAny_field he rfl af ?_);rw[if_pos (show(dm T != ik)=true from by simp)];refine wpAny_bind (wpAny_field dN hd a_ ?_);rw[if_pos (show(rawInt X.env.locals==rawInt X.env.locals)=true from by simp)];exact wpAny_pure h
def Jg.note(F:ni X)(q:Jg X ab E e s)(h:∀s',l' X ab E (rawInt X.env.locals) e s'->Q ⟨⟩ s'):wpAny M X.A (noteFrame e X.env) Q sk s:=by
 let(σ,H,x,C,od,rfl,J,ex,w):=q;have aR:s.heap.FunFrames X.base (X.env::X.outer):=by rw[<- F.st];exact J.stack
 let(vs,aX,ai,dS,dF):=(show eh X.prog X.w H s.heap x (.ext (ek x C od))from J.bf _ _ ex).1;have fb:nk (H x):=by rw[ex];exact kB
 refine aa8 (by rw[<- F.st];exact J.ok.frames) aR F.fr F.fr ai dF.1 dF.2 λh' T k fQ f=>h _ ?_
 have z:∀t,none\t->H t=none:=λt z=>by cases z
 have rH:=k.un (H:=H) (o:=.ext (gj x C od)) z fb;have bU:=k.bf J.bf (by rw[<- F.st];exact J.A5) z fb f.q4;rw[<- F.st]at rH;have bK:=J.w2 (s':={s with heap:=h' }) (ch:=[]) rfl rH bU J.bare λb ae=>absurd ae (by simp)
 exact(σ,_,x,C,od,T,rfl,bK,aP,by rw[aO f.1];exact J.bf.fresh fQ,Ay J fQ,f,w)
theorem oE.note(F:ni X)(q:oE X ab E e s)(h:∀s',l' X ab E (rawInt X.env.locals) e s'->Q ⟨⟩ s'):wpAny M X.A (noteFrame e X.env) Q sk s:=by
 rcases q with q|⟨ec,q⟩
 .exact q.note F h
 .by_cases c:(ec==rawInt X.env.locals)=true
  .rw [beq_iff_eq]at c;subst c;exact q.apJ F (h _ q)
  .exact q.note F c h
theorem l'.uI(F:ni X)(o:Option Addr)(q:l' X ab E ec e s)(h:∀s',l' X ab E (o.elim .none λf=>rawInt f) e s'->Q ⟨⟩ s'):wpAny M A (setFlight e o) Q sk s:=by
 let(σ,H,x,C,od,T,rfl,J,ex,hL,iW,f,w):=q;have aR:s.heap.FunFrames X.base (X.env::X.outer):=by rw[<- F.st];exact J.stack
 have hJ:T∉hn (X.env::X.outer):=by
  let(_,_,_,sV,iX,_,_,e,d,_):=id f;exact w' aR e d
 exact L2.uI o f hJ λh' k yE=>h _ (σ,H,x,C,od,T,rfl,P4 F J k ex hL iW yE.q4,ex,hL,iW,yE,w)
def oE.leave(F:ni X)(q:oE X ab E e s)(h:∀s',l' X ab E .none e s'->Q ⟨⟩ s'):wpAny M X.A (leaving X.env e) Q sk s:=by
 unfold leaving;exact wpAny_bind (q.note F λs' du=>du.uI F none h)
def akf(F:ni X):PassesOwn M X.A X.env (oE X ab E):=λe s' q=>by
 refine q.note F λs2 cP=>?_
 show wpAny _ _ _ _ _ _;let(σ,H,x,C,od,T,rfl,J,ex,hL,iW,(ne,vs,aX,sV,iX,he,af,dN,hd,a_),w):=id cP;refine wpAny_bind (wpAny_field he rfl af ?_);rw[if_neg (show ¬(dm T==ik)=true from by simp)];rw[F.fr];exact cP.uI F _ λs3 eC=>.inr (_,eC)
def q6(F:ni X):PassesOwn M X.A X.env (wb X E):=λe s' ⟨ab,q⟩=>by
 have z:=akf (M:=M) F e s' q;refine wpAny_mono z (λ_ s2 cP=>?_) λaE s2 cP=>?_
 all_goals exact wpAny_mono cP (λ_ s3 eC=>(ab,eC)) λb7 s3 eC=>(ab,eC)
def aji:IN (X.iH (wb X E)) E:=λab σ H s x C od J ex q=>(ab,.inl (σ,H,x,C,od,rfl,J.nR,ex,q))
def afp{xn:dG}(J:Inv X ab σ H s)(aF:fm X.prog X.w X.stack H s xn e s')(h:∀C od I,xn C od I->E σ C od I):oE X ab E e s':=by
 let(x,C,od,ay,T,rfl,os,bare,un,bf,ex,dN,hL,ec,q):=aF;exact .inr (_,σ,ay,x,C,od,T,rfl,J.w2 os un bf bare (λb z=>absurd z (by simp)),ex,hL,Ay J dN,ec,h _ _ _ q)
end
def pD{X:a6}{E:dG}:mX (fm X.prog X.w) (X.iH (wb X λ_=>E)) E:=λab σ H s e s' J aF=>(ab,afp J.nR aF λ_ _ _ z=>z)
def AW{X:a6}{E:dG}:IN (X.iH (wb X λ_=>E)) (λ_=>E):=aji
section
variable{P:Program}{w:World}{K:a'}{av:Str->Option Value}{base:Heap}{N:List Str}{qual:Str}{scope:Scope}{f:Addr}{cd:Value}{A:Around}{outer:List Env}{s:Shared}{H:ar}{E:dG}
def apE{e:Value}(q:wb (n3 (fm P w) P w K av base N qual scope f cd A outer s H E) (λ_=>E) e s'):(n3 (fm P w) P w K av base N qual scope f cd A outer s H E).df e s':=by
 let(ab,q):=q;refine q.leave (rfl,rfl) λs2 cP=>?_
 let(σ,ay,x,C,od,T,rfl,J,ex,hL,iW,ec,q):=cP;refine(x,C,od,ay,T,rfl,J.os,J.bare,J.base,J.bf,ex,?_,hL,ec,q);rcases iW.1 with z|z
 .exact absurd z (by show T∉([]:List Addr);simp)
 .exact z
end
def Zq(C:Addr)(m:Str)(sp:bH)(dvs:List V)(E:St->dG)(a4:TE)(t:eE):TE:=λσ H Q=>a4 σ H λx H1=>∃a ak aR,x=⇑a/\H1 a\(.ins C ak aR)/\aR.lookup m=none /\
 t σ H1 λvs ay=>sp (x::(vs++dvs)) ay Q (E σ)
section
variable{X:a6}{CX:hP}{k:Nat}{f C:Addr}{fd:FuncData}{ps:List Str}{sp:bH}{dvs:List V}{ds:List Value}{E:St->dG}{x m:Str}{p pos eR:Pos}{e o:Expr}{aK:List Expr}{a4:TE}{t:eE}
def BT(F:bD X.prog X.w X.K X.av X.base CX k f fd ps sp)(au:eJ k X.A)(ae:ac X.K fd ps ds)(hd:bW dvs ds)(ai:NH CX X E)
  (J:Inv X ab σ H s) (r:bW vs us) (h:sp (vs++dvs) H Q (E σ)):wpAny (model X.prog X.w) X.A (call ⇑f us) (gX X ab σ Q) X.df s:=by
 have c4:bW (vs++dvs) (us++ds):=r.append hd;have aw:↑(us++ds)=↑ps:=by rw[<- ↑c4];exact F.len _ _ _ _ h
 refine wpAny_call (codeAny_mono (F.run X.A X.stack s H (us,[]) (us++ds) (vs++dvs) Q (E σ) au J.CS (ae s us J.es aw) c4 h) λr s' aF=>?_);rcases r with e|(u|_|_|_)
 .exact ai ab σ H s e s' J aF
 all_goals first|exact J.after aF|exact ky aF
def aaa(he:bw X o a4)(c:gh X.K C)(hm:hj X.K C m f)(F:bD X.prog X.w X.K X.av X.base CX k f fd ps sp)(au:eJ k X.A)(ae:ac X.K fd ps ds)(hd:bW dvs ds)(ai:NH CX X E)(aJ:da X (e::aK) t)
  (gJ:starEach (e::aK) X.env=(p'p false (eval e X.env))::starEach aK X.env:=by rfl) (dI:(backTo pos (starEach aK X.env)).any (·.1)=false:=by rfl)
  (cV:eval (.Call (.Attribute o m eR) (e::aK) [] pos) X.env=(do
   let di <- eval o X.env
   standAt eR.atName
   let (f,first) <- holding [di] (getMethod di m pl)
   callWith pos f first (backTo pos (starEach (e::aK) X.env)) (backToKw pos (keywordEach [] X.env))):=by rfl) :
  bw X (.Call (.Attribute o m eR) (e::aK) [] pos) (Zq C m sp dvs E a4 t):=by
 intro ab s σ H Q J h;refine yL (pl:=pl) (bG (he ab s σ H _ J h) λu s1 ck=>?_) cV;let(x,H1,aU,bh,a,ak,aR,ex,cK,l,q):=ck;subst ex;obtain rfl:u=dm a:=bh;refine Cc aU cK c hm l (z_ (first:=[⇑a]) (h₀:=X.base) J.ok.mod.rC hm.bt (bG (aJ pos ab s1 σ H1 _ aU q) λus s2 ⟨vs,ay,bK,r,cP⟩=>(bK.es,?_)) gJ dI);exact BT (us:=⇑a::us) (vs:=⇑a::vs) F au ae hd ai bK (.cons rfl r) cP
end
noncomputable abbrev a6.iQ(X:a6)(d8:List (Addr×Obj))(E:Value->Shared->Prop):a6:={X with d8:=X.d8++d8,df:=E}
noncomputable abbrev a6.aL(X:a6)(e:Value):a6:={X with A:=X.A.mark (some e),calm:=false,df:=λ_ _=>False}
section
variable{X:a6}{ab w9:List (Addr×Obj)}{σ:St}{H:ar}{s:Shared}{E:Value->Shared->Prop}{e:Value}
theorem a6.Ok.iQ(ok:X.Ok)(d8:List (Addr×Obj))(E:Value->Shared->Prop):(X.iQ d8 E).Ok:=
 (ok.mod,ok.kind,ok.glob,ok.blt,ok.above,ok.inj,ok.has,ok.qL,ok.hd,ok.frames,ok.rn,ok.uO,ok.bs,ok.j6,ok.qj,ok.qG,ok.iZ,ok.kA)
def a6.Ok.oW{d8:List (Addr×Obj)}(ok:(X.iQ d8 E).Ok):X.Ok:=
 (ok.mod,ok.kind,ok.glob,ok.blt,ok.above,ok.inj,ok.has,ok.qL,ok.hd,ok.frames,ok.rn,ok.uO,ok.bs,ok.j6,ok.qj,ok.qG,ok.iZ,ok.kA)
theorem a6.Ok.aL(ok:X.Ok)(e:Value):(X.aL e).Ok:=
 (ok.mod,ok.kind,ok.glob,ok.blt,ok.above,ok.inj,ok.has,ok.qL,(λz=>Bool.noConfusion z),ok.frames,ok.rn,ok.uO,ok.bs,ok.j6,ok.qj,ok.qG,ok.iZ,ok.kA)
theorem Inv.iQ(J:Inv X ab σ H s)(E:Value->Shared->Prop):Inv (X.iQ ab E) [] σ H s:=(J.ok.iQ ab E,J.os,J.bare,J.base,J.loc,J.cell,J.free,J.iS,λp aq=>J.pin p (by simpa using aq),J.bf,J.len)
theorem Inv.oW(J:Inv (X.iQ ab E) w9 σ H s):Inv X ab σ H s:=(J.ok.oW,J.os,J.bare,J.base,J.loc,J.cell,J.free,J.iS,λp aq=>J.pin p (Uo _ aq),J.bf,J.len)
theorem Inv.aL(J:Inv X ab σ H s)(e:Value):Inv (X.aL e) ab σ H s:=(J.ok.aL e,J.os,J.bare,J.base,J.loc,J.cell,J.free,J.iS,J.pin,J.bf,J.len)
def Inv.Bc(ok:X.Ok)(J:Inv (X.aL e) ab σ H s):Inv X ab σ H s:=(ok,J.os,J.bare,J.base,J.loc,J.cell,J.free,J.iS,J.pin,J.bf,J.len)
theorem iR.oW(h:iR (X.iQ ab E) w9 D f s'):iR X ab D f s':=by
 cases f with
 |next=>let(aT,I,J,q):=h;exact(aT,I,J.oW,q)
 |brk=>let(aT,I,J,q):=h;exact(aT,I,J.oW,q)
 |cont=>let(aT,I,J,q):=h;exact(aT,I,J.oW,q)
 |ret u=>let(v,aT,I,J,r,q):=h;exact(v,aT,I,J.oW,r,q)
end
def abW{X:a6}{ab:List (Addr×Obj)}{E:St->dG}:NH (fm X.prog X.w) (X.iQ ab (oE X ab E)) E:=by
 intro w9 σ H s e s' J aF;let(x,C,od,ay,T,rfl,os,bare,un,bf,ex,dN,hL,ec,q):=aF;have bK:=J.w2 os un bf bare (λb z=>absurd z (by simp));exact .inr (_,σ,ay,x,C,od,T,rfl,bK.oW,ex,hL,Ay J.oW dN,ec,q)
def Bj {A:Around} (J:Inv X ab σ H s) (bc:X.N.Nodup) (ao:X.N[i]?\n)
  (aw:X.env.scope.names.lookup n\.local) (h:∀s',Inv X ab (σ.set i none) H s'->Q ⟨⟩ s'):wpAny (model X.prog X.w) A (do bindName X.env n .none;unbindBehindTheSuite X.env n pos) Q E s:=by
 have zX:i<↑σ:=by rw[J.len];exact(cv.mp ao).1
 refine wpAny_bind (wpAny_bindName (Ef J bc ao (.inl aw) (v:=.b4) (u:=.none) rfl (λs1 aU=>?_) (.inr aw)));let(m,aL,DX):=aU.loc;have aI:X.env.kindOf n\.local:=aw;let(u,ed,lk):=DX i n .b4 ao (rg zX) (.inl aw);have akt:(m n).isSome=true:=by
  rcases lk with⟨_,e⟩|⟨k,_⟩
  .rw [e];rfl
  .rcases k with k|k <;> (rw[aI]at k;cases k)
 have aq:(X.env.scope.kind == .class||(X.env.scope.kind == .module&&X.env.locals != X.env.globals))=false:=by rw[J.ok.kind];rfl
 unfold unbindBehindTheSuite;refine wpAny_onRaise ?_;unfold unbindName;refine wpAny_bind (wpAny_point (wpAny_bind ?_));unfold deleteName;simp only[aI,aq];rw[if_neg ∅];refine wpAny_bind (wpAny_nsDel_keeps aL λaj v2 q1 aB=>?_);rw[akt];refine wpAny_pure (wpAny_point (h _ ?_));have wy:∀b o,X.fB.heap.get? b\o->b≠X.env.locals:=λb o e=>fM (ij (dO e) aU.ok.above)
 refine(aU.ok,aU.os,aU.bare,(λb o e fK ae ai=>(aB.2 b (wy b o e)).trans (aU.base.keep b o e fK ae ai),λb o e fK ae ai=>?_,aU.base.free,λb o e ai=>?_,aU.base.mD,aU.base.kS,aU.base.mK),(_,q1,λj y v az aE b7=>?_),λy c e=>?_,aU.free,aU.iS,λp aq=>?_,λb ig e=>?_,by simpa using J.len)
 .let(aX,az):=aU.base.slot b o e fK ae ai;exact(aX,(aB.2 b (wy b o e)).trans az)
 .let(dY,az):=aU.base.there b o e ai;exact(dY,(aB.2 b (wy b o e)).trans az)
 .by_cases aZ:j=i
  .subst aZ;rw[rg zX]at aE;cases aE
  .rw[tT (dB aZ)]at aE;let(ig,dE,q):=DX j y v az (by rw[tT (dB aZ)];exact aE) b7;refine(ig,dE,?_);rcases q with⟨k,e⟩|⟨k,c,e,z⟩
   .refine .inl (k,?_);have:y≠n:=λe=>aZ (JT bc az (e ▸ ao))
    simp[this,e]
   .exact .inr (k,c,e,z.sameBut aB (aU.qm y c e))
 .let(fQ,z):=aU.cell y c e;exact(fQ,z.sameBut aB (aU.qm y c e))
 .let(e,fK,ne,hJ,d):=aU.pin p aq;exact((aB.2 p.1 ne).trans e,fK,ne,hJ,d)
 .have Zt:∀c,H c≠none->c≠X.env.locals:=λc q z=>q (by rw[z];exact aU.free)
  refine(aU.bf b ig e).kX (λc v ah q=>(aB.2 c (Zt c ?_)).trans q) (λ_ q=>q) λ_ _ q=>q
  rcases ah with rfl|ah
  .rw [e];exact λz=>by cases z
  .rw [ah];exact λz=>by cases z
noncomputable def g4.gone(D:g4)(i:Nat):g4:={cp:=λσ H=>D.cp (σ.set i none) H,lG:=D.lG,b3:=λσ H=>D.b3 (σ.set i none) H,eX:=λσ H=>D.eX (σ.set i none) H}
def C'(K:a')(c:Addr)(i:Nat)(ja:ea)(D:g4):St->dG:=λσ C od H=>∃hO,C=⇑hO/\hz K C ⇑c\true/\∀x,H x\(.ext (gj x hO od))->ja (D.gone i) (σ.set i (some ⇑x)) H
def Kh(K:a')(c:Addr)(i:Nat)(cy:(St->dG)->ea)(ja:ea):ea:=λD σ H=>cy (C' K c i ja D) D σ H
section
variable{X:a6}{body xS:List Stmt}{nY:Stmt}{x n:Str}{c:Addr}{i:Nat}{cy:(St->dG)->ea}{ja:ea}{fy aq pos:Pos}
theorem ao5(ae:∀ab E,g9 (X.iQ ab (oE X ab E)) body (cy E))(a0:hI X x)(hm:X.av x\⇑c)(cG:∀e,g9 (X.aL e) (nY::xS) ja)(bc:X.N.Nodup)(ao:X.N[i]?\n)
  (aw:X.env.scope.names.lookup n\.local) (F:ni X:=by exact(rfl,rfl)) (fj:(x==("__debug__":Str))=false:=by decide) :
  gv X (.Try body [.ExceptHandler (some (.Name x fy)) (some n) (nY::xS) aq] [] [] pos) (Kh X.K c i cy ja):=by
 intro ab s σ H D J h;refine wpAny_Try_except (wpAny_mono (ae ab _ [] s σ H D (J.iQ _) h) (λf s1 q=>?_) λe s1 q=>?_)
 .have du:=q.oW;cases f with
  |next=>exact wpAny_execs_nil du
  |brk=>exact du
  |cont=>exact du
  |ret u=>exact du
 .refine q.note F λs2 cP=>cP.uI F none λs3 eC=>?_
  let(h8,H1,a,C,od,T,rfl,bK,cK,hL,iW,ec,hO,Gb,em,w):=id eC;cases Gb;refine wpAny_handleBy_cons (codeAny_handlers_test (qR (bK.aL ⇑a) a0 hm ?_ fj)) (λz=>by cases z);have LT:Ky (model X.prog X.w) s3.heap (typeOf ⇑a) ⇑C:=by
   let(vs,aX,e,_):=ec.q4;exact(asD e).andThen .now
  refine(PySem.W.exm_one bK.es LT em).here ?_;rw[if_pos rfl];refine codeAny_handlers_suite_as (eC.uI F none λs4 lD=>?_)
  .obtain⟨h8,H1,mE,C,od,T,JZ,eA,cK,hL,iW,ec,hO,Gb,em,w⟩:=lD;cases Gb;cases JZ;refine Ef (X:=X.aL ⇑a) (eA.aL ⇑a) bc ao (.inl aw) (v:=⇑a) (u:=⇑a) rfl (fun s5 jT=>?_) (.inr aw);refine wpAny_mono (cG ⇑a ab s5 _ H1 (D.gone i) jT (w a cK)) (fun f s5 AG=>?_) fun _ _ z=>ky z
   cases f with
   |next=>let(aT,I,cb,q):=AG;exact Bj (cb.Bc J.ok) bc ao aw λjr mV=>(_,_,mV,q)
   |brk=>let(aT,I,cb,q):=AG;exact Bj (cb.Bc J.ok) bc ao aw λjr mV=>(_,_,mV,q)
   |cont=>let(aT,I,cb,q):=AG;exact Bj (cb.Bc J.ok) bc ao aw λjr mV=>(_,_,mV,q)
   |ret u=>let(v,aT,I,cb,r,q):=AG;exact Bj (cb.Bc J.ok) bc ao aw λjr mV=>(v,_,_,mV,r,q)
end
def aaS{x n:Str}(ae:∀ab E,∃t,g9 (X.iQ ab (oE X ab E)) body t/\t=cy E)(a0:hI X x)(hm:X.av x\⇑c)
  (cG:∀e,∃t,g9 (X.aL e) (nY::xS) t/\t=ja) (bc:X.N.Nodup) (ao:X.N[i]?\n) (aw:X.env.scope.names.lookup n\.local) (F:ni X:=by exact(rfl,rfl))
  (fj:(x==("__debug__":Str))=false:=by decide):gv X (.Try body [.ExceptHandler (some (.Name x fy)) (some n) (nY::xS) aq] [] [] pos) (Kh X.K c i cy ja):=
 ao5 (λab E=>by let(t,h,rfl):=ae ab E;exact h) a0 hm (λe=>by let(t,h,rfl):=cG e;exact h) bc ao aw F fj
def WC(K:a'):Kh K c i cy ja D σ H=cy (C' K c i ja D) D σ H:=rfl
def Vt(K:a') :
  C' K c i ja D σ C od H=∃hO,C=⇑hO/\hz K C ⇑c\true/\∀x,H x\(.ext (gj x hO od))->ja (D.gone i) (σ.set i (some ⇑x)) H:=rfl
def OY(D:g4)(i:Nat)(σ:St)(H:ar):(D.gone i).cp σ H=D.cp (σ.set i none) H:=rfl
def OP(D:g4)(i:Nat)(v:V)(H:ar):(D.gone i).lG v H=D.lG v H:=rfl
theorem OwnTail.has{h:Heap}{bm dp:List Value}(T:OwnTail h bm dp)(e:bm.contains v=true):dp.contains v=true:=by
 induction T with
 |base=>exact e
 |own _ _ _ _ b9=>rw[E2,b9,EI]
def HY(K:a')(E:St->dG)(bI:TE):ea:=λD σ H=>bI σ H λv H1=>∃x C od,v=⇑x/\H1 x\(.ext (ek x C od))/\jO K C/\E σ ⇑C od (upd H1 x (.ext (gj x C od)))
def aay{A:Around}{env:Env}{x:Sem Value}(cG:A.handled=none)
  (h:wpAny M A x (λv s1=>∃e C od vs aX nm q N bs bm R7 sn sub pb col c9 px bU bo jA oL newId,v=⇑e/\bm.contains (.type "BaseException")=true /\
   s1.heap.get? C\(excClassObj nm q C N bs bm R7 sn sub pb col c9 px bU bo jA oL newId)/\s1.heap.get? e\(⇑C,od,.fields vs,aX)/\vs[1]?\.none/\E ⇑e s1) E s) :
  wpAny M A (raiseStmt env (some x) none) Q E s:=by
 unfold raiseStmt;refine wpAny_bind (wpAny_mono h (λv s1 af=>?_) λ_ _ x=>x);let(e,C,od,vs,aX,nm,q,N,bs,bm,R7,sn,sub,pb,col,c9,px,bU,bo,jA,oL,newId,rfl,ae,cq,he,af,wt):=af;have aiH:(dm C::bm).contains (.type "BaseException")=true:=by rw[E2,ae,EI]
 let(aq,g,d,cB,os):=s1
 repeat (first|with_reducible refine wpAny_loadPart_at he ?_|with_reducible refine wpAny_loadPart_at cq ?_|(with_reducible refine wpAny_isSubtype_exc cq ?_;rw[aiH])|(with_reducible refine wpAny_field he rfl af ?_)|wp_step)
 exact wpAny_raiseNew_none cG wt
section
variable{X:a6}{e:Expr}{bI:TE}{pos:Pos}{E:St->dG}
def BQ(he:bw X e bI)(dN:IN X E)(ah:X.calm=true:=by rfl):gv X (.Raise (some e) none pos) (HY X.K E bI):=by
 intro ab s σ H D J h;rw[arm_exec_Raise];refine wpAny_bind (wpAny_standAt (aay (J.ok.hd ah) ?_));refine wpAny_bind (bG (he ab s σ H _ J h) λu s1 ⟨v,H1,aU,r,x,C,od,ev,ex,c,q⟩=>wpAny_bind (wpAny_standAt (wpAny_pure ?_)));subst ev;obtain rfl:u=dm x:=r;let(vs,aX,ai,dS,dF):=(show eh X.prog X.w H1 s1.heap x (.ext (ek x C od))from aU.bf _ _ ex).1;let(fI,Hy):=c.ex;let(dp,N,nm,du,bs,sn,sub,pb,co,c9,px,bU,bo,jA,oL,sW,cq,bc,ao,T):=Lz aU.es Hy;exact(x,C,od,vs,aX,nm,du,N,bs,dp,true,sn,sub,pb,co,c9,px,bU,bo,jA,oL,_,rfl,L2.OwnTail.has T ∅,cq,ai,dF.1,dN ab σ H1 s1 x C od aU ex q)
end
def bV.o7{w:World}{K:a'}{av:Str->Option Value}{base:Heap}{x qual:Str}{st:Stmt}{fd:FuncData}{N ps:List Str}{k:Nat}(F:bV K x qual st f fd)(S:b2 N ps (br st))
  (len:∀vs H Q E,sp vs H Q E->↑vs=↑ps)
  (w0:∀(fG:Value) (A:Around) (outer:List Env) (s:Shared) (H:ar) (vs:List V) (Q:cz) (E:dG),eJ k (A.deeper (envOfC qual (br st) ↥s f fG))->sp vs H Q E ->
   ∃t,g9 ((n3 (fm P w) P w K av base N qual (br st) f fG A outer s H E).iH (wb (n3 (fm P w) P w K av base N qual (br st) f fG A outer s H E) λ_=>E)) (wa st) t/\t {cp:=λ_ I=>Q .b4 I,lG:=Q} (start N vs) H):bD P w K av base (fm P w) (k+1) f fd ps sp:=by
 let(m6,od,dC,doc,pm,an,fG,eX,t9,rfl,lk,lL):=F.ex;refine YL lk lL S len λA outer s H vs Q E au ki=>?_
 let(t,h,q):=w0 fG A outer s H vs Q E au ki;exact(t,λab s1 σ H1 D J hw=>wpAny_mono (h ab s1 σ H1 D (J.iH _) hw) (λ_ _ q=>q.nR) λ_ _ z=>apE z,q)
end L2
namespace L2
open PySem PySem.Spec PyProof.Rows
noncomputable def UX(ao:Int)(n:Nat):iE:=(λi _=>i<n,λi H x I=>I=H/\x=.int (ao-i),λi _=>n<=i)
def ad5{w:World}{K:a'}(it:Addr)(ao:Int)(n:Nat):pv P w K cZ (UX ao n) [it] it (λi h=>IsRangeIter h it (ao+(i:Nat)*(-1)) ((n:Int)-(i:Nat)) (-1))where
 mem:=by simp
 obj:=λi h st b ae=>by
  have e:b=it:=by simpa using ae
  subst e;exact(_,st,λv z=>by
   have z':Gd _=IY v:=z;cases z')
 keep:=λi h h' st k=>k it (by simp) _ st
 item:=by
  intro X d9 hw eS ah i ab s σ H E J hf st a0;subst d9 hw eS;let(f0,f1,f2,eP,f4,fA):=hf it (by simp);have W:=abQ (prog:=X.prog) (w:=X.w) (J.ok.hd ah) it ao (-1) n;refine W.item i s _ _ a0 st λv h' cB aM jR kb=>?_
  let(t,rfl):=aM;have aU:Inv X ab σ H {s with heap:=h',toks:=cB}:=J.turned (λb o ae e=>kb b o (by simpa using ae) e) f0 f1 eP f4 fA;refine(_,rfl,wG (s:={s with heap:=h',toks:=cB}) (n:="range_iterator") jR rfl rfl ∅ (.int (ao-i),H,aU,(t,?_),(rfl,rfl),jR,λb ae=>(hf b ae).1));congr 1;omega
 done:=by
  intro X d9 hw eS ah i ab s σ H E J hf st a0;subst d9 hw eS;let(f0,f1,f2,eP,f4,fA):=hf it (by simp);exact wpAny_pyNext_range_end (J.ok.hd ah) st (by have:n<=i:=a0;omega) λh' dc=>(rfl,J.turned (t':=s.toks) (λb o ae e=>dc b o ae e) f0 f1 eP f4 fA)
 self:=λ_ _ _ _ _ st h=>wpAny_pyIter_rangeiter st h
def S3(a b:Int):J7 a b (-1)=if b<a then a-b else 0:=by
 unfold J7;rw[if_neg ((∅:¬(-1:Int)>0)),(∅:(- -1:Int)=1),aj3];show(if b<a then a-b-1+1 else 0)=_;split <;> omega
def ahB(aJ:-(2 ^ 62)<=a)(rZ:a<2 ^ 62)(ae:-(2 ^ 62)<=b)(fL:b<2 ^ 62):adf a b (-1)=true:=by
 unfold adf;rw[S3];simp only[asG,jt,x5,decide_eq_true_eq,beq_iff_eq,(∅:¬(-1:Int)>0),if_false];split <;> omega
section
variable{X:a6}{cZ:Expr}
def Mu(a4:eE):TI:=λσ H R=>a4 σ H λvs H1=>∃i j:Int,vs=[.int i,.int j,.int (-1)]/\(-1073741824<=i/\i<1073741824/\-1073741824<=j/\j<1073741824)/\R (UX i (i-j).toNat) H1
theorem adE{p pos:Pos}(a0:hI X "range")(hm:X.av "range"=none)(aJ:da X [a,b,c] a4)(aB:starEach [a,b,c] X.env=[(p'p false (eval a X.env)),(p'p false (eval b X.env)),(p'p false (eval c X.env))]:=by rfl)(fH:starEach [b,c] X.env=[(p'p false (eval b X.env)),(p'p false (eval c X.env))]:=by rfl) :
  l9 X cZ (.Call (.Name "range" p) [a,b,c] [] pos) (Mu a4):=by
 intro ab s σ H R J h;refine Call_ (qu J a0 hm boot_range (vO (bG (aJ pos ab s σ H _ J h) λus s1 ck=>?_) (by rw[aB,fH]) (by rw[fH];rfl)));let(vs,H1,aU,bX,bM):=ck;let(i,j,e,(bM,cP,eC,lD),q):=bM;subst e;cases bX with
 | cons r iC=>
  cases iC with
  | cons dE iC=>
   cases iC with
   | cons aq1 iC=>
    cases iC;let(t,rfl):=r;let(t',rfl):=dE;let(AB,rfl):=aq1;refine call_range_3 ∅ ?_ (m2 (ana ()));refine wpAny_pyIter_range (aa0 ..) (ahB () () () ()) ?_;have bK:Inv X ab σ H1 {s1 with heap:=s1.heap.push {cls:=.type "range",data:=.fields #[.int i t,.int j t',.int (-1) AB]},toks:=s1.toks}:=aU.kept λb o e=>dX _ e
    refine((s1.heap.push {cls:=.type "range",data:=.fields #[.int i t,.int j t',.int (-1) AB]}).objs.size,[(s1.heap.push {cls:=.type "range",data:=.fields #[.int i t,.int j t',.int (-1) AB]}).objs.size],_,_,H1,rfl,
     bK.kept (t':=s1.toks) λb o e=>dX _ e,ad5 _ i (i-j).toNat,?_,λb ae=>?_,q)
    .have az:i+((0:Nat):Int)*(-1)=i:=by simp
     have aE:(((i-j).toNat:Nat):Int)-((0:Nat):Int)=J7 i j (-1):=by rw[S3];split <;> omega
     show IsRangeIter _ _ (i+((0:Nat):Int)*(-1)) ((((i-j).toNat:Nat):Int)-((0:Nat):Int)) (-1);rw[az,aE];exact e7 _ rfl
    .have e:b=(s1.heap.push {cls:=.type "range",data:=.fields #[.int i t,.int j t',.int (-1) AB]}).objs.size:=by simpa using ae
     subst e;exact bK.mv (b0 _) (bK.bf.fresh (b0 _))
end
def aml:typeLookup (.type "list_reverseiterator") "__len__"=pure none:=by rw[typeLookup_type,builtinLookup_eq_fast];kernel_rfl
def agh:typeLookup (.type "list_reverseiterator") "__length_hint__"=pure (some (.builtin "list_reverseiterator.__length_hint__")):=by rw[typeLookup_type,builtinLookup_eq_fast];kernel_rfl
section
variable{prog:Program}{w:World}{A:Around}{E:Value->Shared->Prop}{s:Shared}{it l:Addr}{items:Array Value}
def agj(dN:s.TypeIs ⇑it "list_reverseiterator")(h:Q false s):wpAny (model prog w) A (aeZ ⇑it) Q E s:=by
 unfold aeZ;refine wpAny_bind (wpAny_specialOf dN aml ?_);show wpAny _ A (specialOf (dm it) (aa "__length_hint__") >>= _) _ _ _;refine wpAny_bind (wpAny_specialOf dN agh ?_);generalize hp:("list_reverseiterator.__length_hint__":String)=afs
 wp_delta
 rw[show splitId afs\(p'p ("list_reverseiterator") ("__length_hint__"))from by subst hp;ac_nf];subst hp;refine wpAny_bind (wpAny_isInstance (T:="list_reverseiterator") (b:=true) dN (by rw[isSubtype_type];kernel_rfl) ?_);refine wpAny_ite_split (λp9=>absurd p9 ∅) (λ_=>?_);refine wpAny_ite_split (λ_=>?_) (λp9=>absurd ∅ p9);refine wpAny_ite_split (λp9=>absurd p9 ∅) (λ_=>?_);exact wpAny_pure h
abbrev QV(items:Array Value):Nat->Value->Prop:=λi v=>items[items.size-1-i]?\v
def ag3(cG:A.handled=none)(hit:s.heap.IsRevIter it l ((items.size:Int)-1-((0:Nat):Int)))(aw:s.heap.IsList l items)(b8:l≠it)(S:Addr)(Qf:S≠it)(alC:S≠l)(res:Value)(c₀:Nat)
  (e6:s.heap.get? S=some {cls:=.type "list",data:=.seq #[] c₀}) (aL:items.size<=sizeLine)
  (gc:∀h' cB acc c,(∀b o,b≠S->b≠it->s.heap.get? b\o->h'.get? b\o)->h'.get? S=some {cls:=.type "list",dict:=none,data:=.seq acc c,slots:=#[]}->ItemsOf (QV items) acc items.size->R (.ok (.ret res)) {s with heap:=h',toks:=cB}) :
  wpAny (model prog w) A.in1 (LB ⇑S ⇑it res)
   (λfin s'=>match fin with|.done f=>R (.ok f) s'|.again eT=>eT.quiet=true/\codeAny (model prog w) A eT R s') (λe s'=>R (.error e) s') s:=by
 unfold LB;refine wpAny_bind (wpAny_typeOf hit.typeIs ?_);have af:Z4 ⇑S ⇑it=false:=by simp[Z4,Qf]
 have aj:(rr "list_reverseiterator"==rr "list")=false:=∅
 have a_:(rr "list_reverseiterator"==rr "tuple")=false:=∅
 simp only[af,aj,a_,J0,xq,if_false];refine wpAny_bind (wpAny_pyIter_revIter hit ?_);refine wpAny_bind (wpAny_holding (agj hit.typeIs ?_));refine wpAny_ite_split (λp9=>absurd p9 ∅) (λ_=>?_);have W:=Walks.listRev (prog:=prog) (w:=w) (A:=A.in1) cG it l b8 items;have Cr:S∉[it,l]:=by simp only[cT,fq,or_false,not_or];exact(Qf,alC)
 refine wpAny_pure (plainId_quiet PySem.F.plain_extend_loop _,codeAny_extend_loopS W.toS aL S Cr res items.size 0 s #[] c₀ rfl (gx _) (gx _,hit,aw) e6 (ItemsOf.nil _) λs' acc c hm m4 nL=>?_);rw[Moved.eq_with hm];refine gc s'.heap s'.toks acc c (λb o ae ao e=>hm.heap b o (λrL=>?_) e) m4 nL;rcases cT.mp rL with bZ|rL
 .exact ae bZ
 .exact ao (j5.mp rL)
def aeM(cG:A.handled=none)(hit:s.heap.IsRevIter it l ((items.size:Int)-1-((0:Nat):Int)))(aw:s.heap.IsList l items)(b8:l≠it)(aL:items.size<=sizeLine)
  (aV:∀h' cB acc c,(∀b o,b≠it->s.heap.get? b\o->h'.get? b\o)->h'.get? ↥s=some {cls:=.type "list",dict:=none,data:=.seq acc c,slots:=#[]}->ItemsOf (QV items) acc items.size->Q (.ref ↥s) {s with heap:=h',toks:=cB}) :
  wpAny (model prog w) A (call (.type "list") [⇑it]) Q E s:=by
 have li:it<↥s:=by let(_,e,_):=hit;exact dO e
 have Yf:l<↥s:=by let(_,e,_):=aw;exact dO e
 refine callType_codes (Q₁:=λobj dj=>obj=.ref ↥s/\dj={s with heap:=s.heap.push {cls:=.type "list",data:=.seq #[]} }) PySem.F.called_list (PySem.F.typeCall_list_1 _) PySem.F.entry_list_init
  (code_list_new _ (rfl,rfl)) λobj dj h₁=>?_
 let(rfl,rfl):=h₁;have e6:(s.heap.push {cls:=.type "list",data:=.seq #[]}).get? ↥s=some {cls:=.type "list",data:=.seq #[]}:=e7 _ rfl;refine((_,e6,rfl),PySem.F.args_list_init_2 _ _,?_);show wpAny _ _ (do let old <- acY (.ref ↥s);ary (.ref ↥s) (λ_=>#[]);letGo old.toList.reverse;LB (.ref ↥s) ⇑it .none) _ _ _;refine wpAny_bind ?_;unfold acY;refine wpAny_bind (wpAny_seqItems e6 rfl (wpAny_pure ?_));show wpAny _ _ (updateSeq ↥s (λ_=>#[]) >>= λ_=>letGo (#[]:Array Value).toList.reverse >>= λ_=>LB (.ref ↥s) ⇑it .none) _ _ _;refine wpAny_bind (wpAny_updateSeq e6 rfl ?_);have acV:=nG (tx (λ_=>(#[]:Array Value))) e6 rfl;have kW:∀b o,s.heap.get? b\o->((s.heap.push {cls:=.type "list",data:=.seq #[]}).update ↥s (tx (λ_=>(#[]:Array Value)))).get? b=some o:=
  λb o e=>(kn _ _ (dB (fM (dO e)))).trans (dX _ e)
 refine wpAny_bind (wpAny_letGo ?_);refine ag3 (A:=A.in1) cG (hit.at λo e=>kW _ o e) (aw.at λo e=>kW _ o e) b8 _ (dB (fM li)) (dB (fM Yf)) .none _ acV aL λh' cB acc c aI m4 nL=>?_
 exact(rfl,aV h' cB acc c (λb o ae e=>aI b o (fM (dO e)) ae (kW b o e)) m4 nL)
end
section
variable{X:a6}
def MW(K:a')(a4:eE):TE:=λσ H Q=>a4 σ H λvs H1=>∃a xs,vs=[⇑a]/\aH K H1 a xs/\∀l,H1 l=none->Q ⇑l (upd H1 l (.lst xs.reverse))
theorem At{p q pos pos':Pos}(ah:X.calm=true)(a0:hI X "list")(hm:X.av "list"=none)(mC:hI X "reversed")(Jn:X.av "reversed"=none)(aJ:da X [a] a4)(aB:starEach [a] X.env=[(p'p false (eval a X.env))]:=by rfl)
  (fH:starEach [Of (.Name "reversed" q) [a] [] pos'] X.env=(p'p false (eval (Of (.Name "reversed" q) [a] [] pos') X.env))::starEach [] X.env:=by rfl) :
  bw X (.Call (.Name "list" p) [.Call (.Name "reversed" q) [a] [] pos'] [] pos) (MW X.K a4):=by
 intro ab s σ H Q J h;refine wpAny_Call_Name_kw (qu J a0 hm K7 ?_);refine vO ?_ fH rfl;rw[fH];show wpAny _ _ (spliced ((p'p false (eval (Of (.Name "reversed" q) [a] [] pos') X.env))::[])) _ _ s;refine aha ?_;refine Call_ (qu J mC Jn am5 (vO (bG (aJ pos' ab s σ H _ J h) λus s1 ck=>?_) aB rfl));let(vs,H1,aU,bX,bM):=ck;let(a,xs,e,aF,q):=bM;subst e;cases bX with
 | cons r iC=>
  cases iC;cases r;let(a5,cf,pl,ax):=aU.list aF;have aw:=↑cf;have cD:a<↥s1:=by let(_,e,_):=pl.isList;exact dO e
  refine call_reversed_list pl.isList ?_;refine ang ?_;have hit:(s1.heap.push (revObj a ((a5.toArray.size:Int)-1))).IsRevIter ↥s1 a ((a5.toArray.size:Int)-1-((0:Nat):Int)):=by
   refine(_,e7 _ rfl,rfl,?_);simp only[revObj];simp
  have bt:∀b o,s1.heap.get? b\o->(s1.heap.push (revObj a ((a5.toArray.size:Int)-1))).get? b\o:=λb o e=>dX _ e
  refine aeM (aU.ok.hd ah) hit (pl.isList.at λo e=>bt _ o e) (fM cD) (by rw[d2];omega) λh' cB acc c aI bZ nL=>?_
  refine(⇑_,_,aU.laid (o:=.lst xs.reverse) (t':=cB) (λb u e=>aI b u (fM (dO e)) (bt b u e)) (by rw[xY];exact uE _) (by rw[yR];omega,acc.toList,c,?_,bZ),rfl,q _ (aU.bf.fresh (by rw[xY];exact uE _)));have aM:=He (f:=λi=>xs.getD (↑xs-1-i) .b4) (λi v aM=>by
   have tQ:a5.toArray[a5.toArray.size-1-i]?\v:=aM;rw[d2,<- aw,af1]at tQ;have aZ:=(cv.mp tQ).1;have ai:xs[↑xs-1-i]?\xs[↑xs-1-i]:=bJ ();let(w,hw,lP):=cf.get ai;rw[tQ]at hw;cases hw;rw[gG,ai];exact lP) nL
  have kD:(el a5.toArray.size).map (λi=>xs.getD (↑xs-1-i) .b4)=xs.reverse:=by
   rw[d2,<- aw];refine q7 (by simp) λi af aj=>?_
   rw[nZ,Sk,List.getElem_reverse,gG,bJ (by simp at aj;omega)];rfl
  rw[kD]at aM;exact aM
end
section
variable{prog:Program}{w:World}{A:Around}{R:Result->Shared->Prop}{J:Addr}{bQ wr:List Addr}{n:Nat}{P:Nat->Value->Prop}{St:Nat->Heap->Prop}
def Z9(P:Nat->Value->Prop)(rP:Nat->Nat->Bool)(j:Nat)(acc:Array Value):Prop:=(j=0/\acc=#[])\/∃nz i,j=i+1/\acc=#[nz,nz]/\P (argBest rP i) nz
theorem akF(W:Walks prog w A.in1 J bQ wr n P St)(rP:Nat->Nat->Bool)(adw:CmpOf prog w A.in1 .Lt P rP)(S:Addr)(Cr:S∉bQ)(md:Value)(DB:Str) :
  ∀(k j:Nat) (s:Shared) (acc:Array Value) (c:Nat),n-j=k->j<=n->St j s.heap->Z9 P rP j acc ->
  s.heap.get? S=some {cls:=.type "list",dict:=none,data:=.seq acc c,slots:=#[]} ->
  (∀v h' cB,(n=0/\v=md)\/(0<n/\P (argBest rP (n-1)) v)->(∀b o,b∉wr->b≠S->s.heap.get? b\o->h'.get? b\o)->R (.ok (.ret v)) {s with heap:=h',toks:=cB}) ->
  codeAny (model prog w) A (.builtin "min.loop" ([⇑J,.none,⇑S],[(p'p DB md)])) R s:=by
 have Wu:S∉wr:=λh=>Cr (W.sub _ h)
 have xE:(toString "min"++toString ".loop":String)="min.loop":=by decide
 intro k
 induction k with
 |zero=>
  intro j s acc c aI aZ gJ gT e6 gc;have MB:j=n:=()
  refine codeAny_builtin ao' ?_;rw[ajG zd _];show wpAny _ A.in1 (seqItems? ⇑S >>= _) _ _ s;refine wpAny_bind (wpAny_seqItems e6 rfl ?_);show wpAny _ A.in1 (tryCatch (pyNext ⇑J) _ >>= _) _ _ s;refine wpAny_bind (wpAny_tryCatch (W.done s _ _ (MB ▸ gJ) λh' cB j3=>?_));have m4:=j3 S _ Wu e6;rcases gT with⟨h0,rfl⟩|⟨nz,i,ao,rfl,d9⟩
  .show wpAny _ A.in1 (rule _ >>= _) _ _ _;refine wpAny_bind (wpAny_rule (wpAny_pure ?_));exact gc md h' cB (.inl ((),rfl)) λb o mu om e=>j3 b o mu e
  .show wpAny _ A.in1 (updateSeq S (λ_=>#[]) >>= _) _ _ _;refine wpAny_bind ?_;refine wpAny_updateSeq m4 rfl (wpAny_bind (wpAny_letGo (wpAny_pure ?_)));refine gc nz _ cB (.inr ((),by rw[show n-1=i by omega];exact d9)) λb o mu om e=>(kn _ _ (dB om)).trans (j3 b o mu e)
 | succ k b9=>
  intro j s acc c aI aZ gJ gT e6 gc;have cD:j<n:=()
  refine codeAny_builtin ao' ?_;rw[ajG zd _];show wpAny _ A.in1 (seqItems? ⇑S >>= _) _ _ s;refine wpAny_bind (wpAny_seqItems e6 rfl ?_);show wpAny _ A.in1 (tryCatch (pyNext ⇑J) _ >>= _) _ _ s;refine wpAny_bind (wpAny_tryCatch (W.item j s _ _ cD gJ λv h' cB d9 TV j3=>?_));have m4:=j3 S _ Wu e6;have put:∀qf:Heap,qf=h'.update S (tx (λ_=>#[v,v]))->St (j+1) qf:=λqf e=>by
   subst e;exact W.frame _ _ _ TV λb aeq o e=>(kn _ _ (λh:S=b=>Cr (by rw[h];exact aeq))).trans e
  rcases gT with⟨h0,rfl⟩|⟨nz,i,ao,rfl,WR⟩
  .show wpAny _ A.in1 (updateSeq S (λ_=>#[v,v]) >>= _) _ _ _;refine wpAny_bind ?_;refine wpAny_updateSeq m4 rfl ?_;rw[xE];refine wpAny_pure (plainId_quiet zd _,b9 (j+1) _ #[v,v] _ () cD (put _ rfl) (.inr (v,j,rfl,rfl,by subst h0;exact d9)) (nG _ m4 rfl) λjv qf x4 qU zx=>?_);exact gc jv qf x4 qU λb o mu om e=>zx b o mu om ((kn _ _ (dB om)).trans (j3 b o mu e))
  .subst ao;show wpAny _ A.in1 (tryCatch (holding [v,v] (richCompare .Lt v nz >>= _)) _ >>= _) _ _ _;refine wpAny_bind (wpAny_tryCatch (wpAny_holding (wpAny_bind (adw (i+1) (argBest rP i) v nz _ _ _ d9 WR ?_))));refine wpAny_bind (wpAny_holding (wpAny_truthy_bool ?_));refine wpAny_bind (wpAny_letGo (wpAny_pure ?_));cases ae:rP (i+1) (argBest rP i)with
   |true=>
    simp only[if_true];refine wpAny_bind ?_;refine wpAny_updateSeq m4 rfl (wpAny_bind (wpAny_letGo ?_));rw[xE];refine wpAny_pure (plainId_quiet zd _,b9 (i+1+1) _ #[v,v] _ () cD (put _ rfl) (.inr (v,i+1,rfl,rfl,by simp only[argBest,ae,if_true];exact d9)) (nG _ m4 rfl) λjv qf x4 qU zx=>?_);exact gc jv qf x4 qU λb o mu om e=>zx b o mu om ((kn _ _ (dB om)).trans (j3 b o mu e))
   |false=>
    simp only[xq,if_false];refine wpAny_bind (wpAny_letGo ?_);rw[xE];refine wpAny_pure (plainId_quiet zd _,b9 (i+1+1) _ #[nz,nz] c () cD TV (.inr (nz,i+1,rfl,rfl,by simp only[argBest,ae,xq,if_false];exact WR)) m4 λjv qf x4 qU zx=>?_);exact gc jv qf x4 qU λb o mu om e=>zx b o mu om (j3 b o mu e)
end
section
variable{prog:Program}{w:World}{A:Around}{E:Value->Shared->Prop}{s:Shared}
def ami(a d:Value):argsOk "min" ([a],[(p'p (aa "default") d)]):=by unfold argsOk;kernel_rfl
theorem alM{a5:Array Value}(cG:A.handled=none)(aw:s.heap.IsList l a5)(bF:List Int)(aI:a5.size=↑bF)(aM:∀(i:Nat) (v:Value),a5[i]?\v->∃t,v=lJ (bF.getD i 0) t)
  (aV:∀v h' cB,(bF=[]/\v=md)\/(∃m t,bF.min?\m/\v=.int m t)->(∀b o,s.heap.get? b\o->h'.get? b\o)->Q v {s with heap:=h',toks:=cB}) :
  wpAny (model prog w) A (call (.builtin "min") [⇑l] [(p'p (aa "default") md)]) Q E s:=by
 have xE:(toString "min"++toString ".loop":String)="min.loop":=by decide
 have cD:l<↥s:=by let(_,e,_):=aw;exact dO e
 refine wpAny_call (codeAny_call_builtin PySem.F.plain_min PySem.F.entry_min ?_);simp only[checkBuiltinCall,PySem.F.kind_min];have key:wpAny (model prog w) A.in1 (Builtin.«min» ([⇑l],[(p'p (aa "default") md)])) (λfin s'=>match fin with
   | .done f=>(match (Except.ok f:Result)with|.ok (.ret v)=>Q v s'|.ok _=>False|.error e=>E e s')
   | .again eT=>eT.quiet=true/\codeAny (model prog w) A eT (λr s'=>match r with|.ok (.ret v)=>Q v s'|.ok _=>False|.error e=>E e s') s') E s:=by
  show wpAny _ A.in1 (aeP "min" ["key","default"] 0 ([],[(p'p (aa "default") md)]) >>= _) _ _ s;refine wpAny_bind (wpAny_of_eq (show aeP "min" ["key","default"] 0 ([],[(p'p (aa "default") md)])=pure [none,some md]from rfl) ?_);refine wpAny_bind (wpAny_pure ?_);refine wpAny_bind (wpAny_pyIter_list aw ?_);refine wpAny_bind (wpAny_newObj_type ?_);rw[xE];have W:=ajc (prog:=prog) (w:=w) (A:=A.in1) cG ↥s l (fM cD) a5;have oG:(s.heap.push {cls:=.type "list_iterator",data:=.fields #[⇑l,.int 0 0]}).objs.size=↥s+1:=xY ..;refine wpAny_pure (plainId_quiet zd _,akF W _ (CmpOf.ints_lt (λi=>bF.getD i 0) λi v h=>aM i v h) _ ?_ md _ a5.size 0 _ #[] _ rfl (gx _) ?_ (.inl (rfl,rfl)) (e7 _ rfl) λv h' cB d9 j3=>?_)
  .show (s.heap.push _).objs.size∉_;rw[oG];simp only[cT,fq,or_false,not_or];exact(ahr _,dB (fM (Q3 cD)))
  .exact W.frame 0 (s.heap.push {cls:=.type "list_iterator",data:=.fields #[⇑l,.int 0 0]}) _ ((_,e7 _ rfl,rfl,rfl),aw.push _) λb _ o e=>dX _ e
  .refine aV v h' cB ?_ λb o e=>j3 b o (λhm=>?_) ?_ (dX _ (dX _ e))
   .rcases d9 with⟨h0,af⟩|⟨h0,af⟩
    .exact .inl (XS.mp (),af)
    .obtain⟨t,e⟩:=aM _ v af;have ae:=argBest_lt (fun i=>bF.getD i 0) (a5.size-1);refine .inr ⟨_,t,?_,e⟩;rw[abZ];have ao:argBest (fun i j=>decide (bF.getD i 0<bF.getD j 0)) (a5.size-1)<↑bF:=()
     refine(?_,λb fL=>?_)
     .rw [gG,bJ ao];exact nH ao
     .let(j,aZ,rfl):=sG fL;have:=ae.2 j ();rw[gG (i:=j),bJ aZ]at this;exact this
   .rw [j5.mp hm]at e;exact absurd (dO e) (qW _)
   .rw [oG];exact fM (Q3 (dO e))
 cases aad:Manifest.signature? "min" with
 |none=>exact wpAny_pure key
 |some sig=>
  have aJ:=ami ⇑l md;have rZ:Bind.checkArgs "min" sig ([⇑l],[(p'p (aa "default") md)])=pure ⟨⟩:=by simpa only[argsOk,aad]using aJ
  simp only[rZ];exact wpAny_pure key
end
section
variable{X:a6}
def Ho(K:a')(a4:eE)(i0:TE):TE:=λσ H Q=>a4 σ H λvs H1=>i0 σ H1 λy ay=>∃l bF,vs=[⇑l]/\aH K ay l (gR V.int bF)/\Q (match bF.min? with|some m=>.int m|none=>y) ay
theorem ZW{p bt pos:Pos}(ah:X.calm=true)(a0:hI X "min")(hm:X.av "min"=none)(aJ:da X [a] a4)(hd:bw X d i0)
  (he:∀pos,backTo pos (starEach [a] X.env)=(p'p false (eval a X.env))::backTo pos (starEach [] X.env):=by intro _;rfl) (dI:∀pos,(backTo pos (starEach [a] X.env)).any (·.1)=false:=by intro _;rfl) :
  bw X (.Call (.Name "min" p) [a] [(some "default",d,bt)] pos) (Ho X.K a4 i0):=by
 intro ab s σ H Q J h;refine wpAny_Call_Name_kw (qu J a0 hm ((∅:bootBuiltins "min"\(.builtin "min"))) ?_);refine callWith_kw (id:="min") (bG (aJ pos ab s σ H _ J h) λus s1 ck=>?_) (he:=he pos) (hplain:=dI pos);let(vs,H1,aU,bX,bM):=ck;refine kws_cons (bG (hd ab s1 σ H1 _ aU bM) λv s2 cm=>eo cm λy ay bK c4 cP=>kws_nil ?_);let(l,bF,rfl,aF,q):=cP;cases bX with
 | cons r iC=>
  cases iC;cases r;let(a5,cf,pl,ax):=bK.list aF;have aw:=↑cf;rw[a9]at aw;refine alM (bK.ok.hd ah) pl.isList bF (by rw[d2];omega) (λi v aM=>?_) λjv h' cB tQ aI=>(_,ay,bK.kept aI,?_,q)
  .rw[af1]at aM;have ao:i<↑bF:=by have:=(cv.mp aM).1;omega
   let(w,hw,lP):=cf.get (show(bF.map V.int)[i]?\(.int bF[i])by rw[d7,bJ ao];rfl);rw[aM]at hw;cases hw;rw[gG,bJ ao];exact lP
  .rcases tQ with⟨rfl,rfl⟩|⟨m,t,hm,rfl⟩
   .exact c4
   .rw [hm];exact(t,rfl)
end
structure oQ(K:a')(C:Addr):Prop where
 x:jO K C
 aJ:dM K ⇑C "__class__"\(some (.builtin "object.__class__"))
 aL:u7 K (.builtin "object.__class__") "__get__"\(some (.builtin "getset_descriptor.__get__"))
 qI:I9 K (.builtin "object.__class__")\true
 hm:xl K C (.type "object")\true
section
variable{prog:Program}{w:World}{A:Around}{E:Value->Shared->Prop}{s:Shared}{K:a'}{x C:Addr}{od:Obj}{ak:Addr}{vs:Array Value}{aX:Array (Option Value)}
theorem ae6(c:oQ K C)(fe:K.In s.heap)(cb:wc s.heap x (⇑C,some ak,.fields vs,aX) C (some od))(h:Q (some ⇑C) {s with toks:=s.toks+1}) :
  wpAny (model prog w) A (getAttr? ⇑x "__class__") Q E s:=by
 let(cd,ah,m7):=tX c.x.hd;let(VO,qh,NO):=tX c.x.di;rw[ah]at qh;cases qh;have hf:PySem.W.findObj K C (some od) "__class__"\(.bind (.builtin "getset_descriptor.__get__") (.builtin "object.__class__")):=PySem.W.findObj_data (by rw[ah];rfl) c.aJ c.aL c.qI;have hm:=c.hm;have ga:=c.x.ga;have gt:=c.x.gt;let(aq,g,d,t,os):=s;have Wg:=cb.type (M:=model prog w);have jz:=FG (M:=model prog w) fe ga;have L2:=FG (M:=model prog w) fe gt;have lQ:=PySem.W.looks_find (M:=model prog w) fe cb hf;have FB:=PySem.F.excAttr_ValueError;have eP:=FB.ga.bind ⇑x;have L_:(w8 "BaseException.__getattribute__"==w8 "object.__getattribute__")=false:=∅
 have pj:(onTheHeap (dm C)&&w8 "BaseException.__getattribute__"==w8 "object.__getattribute__")=false:=by rw[L_];rfl
 unfold getAttr? getAttrBy? getAttrBy;refine wpAny_bind (wpAny_mkText (wpAny_bind (wpAny_attempt (wpAny_holding (wpAny_bind (Wg.at (wpAny_bind (jz.at ?_))))))));dsimp only;rw[if_neg (by rw[pj];decide)];unfold getAttrByItsOwn
 repeat (any_goals (first|assumption|with_reducible refine PySem.W.Looks.at (by assumption) ?_|wp_step))
 have ne:cd.mro.isEmpty=false:=by
  cases q:cd.mro with
  |nil=>rw[q]at NO;cases NO
  |cons _ _=>rfl
 have sub:Ky (model prog w) aq (isInstance ⇑x (.type "BaseException")) true:=
  Wg.andThen (akZ fe (by unfold xl;rw[ah,SQ,if_neg (by rw[ne];decide),G8 "BaseException" ∅ NO]))
 refine codeAny_call_builtin FB.ga.plain PySem.F.entry_bexc_ga (@PySem.W.check_slot (model prog w) _ _ (aq,g,d,t+1,os) "BaseException.__getattribute__" "BaseException" "__getattribute__" ⇑x [.str "__class__" t] [] _ ∅ ∅ sub (PySem.F.args_bexc_ga ⇑x (.str "__class__" t)) ?_);unfold Builtin.«object.__getattribute__»
 repeat (any_goals (first|assumption|with_reducible refine PySem.W.Looks.at (by assumption) ?_|wp_step))
 refine PySem.W.class_get (s:=(aq,g,d,t+1,os)) (ox:=(⇑C,some ak,.fields vs,aX)) (od:=some od) fe cb hm ?_;refine wpAny_pure ?_;show wpAny _ _ (handedOut ⇑C) _ _ _;exact PySem.W.handed_on rfl (wpAny_pure h)
set_option tactic.hygienic true in
def OI(c:oQ K C):PySem.W.KitX K ⇑x ⇑C (λh=>∃ak vs aX od,wc h x (⇑C,some ak,.fields vs,aX) C (some od))where
 ty:=λ_ _ _ ⟨_,_,_,_,J⟩=>J.type
 it:=λ_ _ X _=>by
  let(ak5,lB,_):=tX c.x.hd;unfold Ly at lB;split at lB
  .rename_i eT d' VO u3 aW;intro arz jI sk s' k q;unfold isType loadHead;exact wpAny_bind (wpAny_loadPart (k _ _ (X _ _ aW)) (wpAny_pure q))
  .cases lB
 ne:=λh cI c9 a5 n aX X ks=>by
  let(ak5,lB,_):=tX c.x.hd;refine Bool.eq_false_iff.mpr λq=>?_
  have e:C=cI:=Value.ref.inj (beq_iff_eq.mp q);subst e;unfold Ly at lB;split at lB
  .rename_i eT d' VO u3 aW;have z:=(X _ _ aW).symm.trans ks;cases z
  .cases lB
 ca:=λX ⟨_,_,_,_,J⟩ k=>ae6 c X J k
end
def OU{x C ak:Addr}{aR:List (Str×V)}(J:Inv X ab σ H s)(e:H x\(.ext (gj x C (some ak))))(ia:H ak\(.ext (fY ak aR))) :
  ∃ak vs aX od,wc s.heap x (⇑C,some ak,.fields vs,aX) C (some od):=by
 let(vs,aX,ai,_):=(show eh X.prog X.w H s.heap x (.ext (gj x C (some ak)))from J.bf _ _ e).1;let(dQ,bY,r,d3):=(show eh X.prog X.w H s.heap ak (.ext (fY ak aR))from J.bf _ _ ia).1;let(od,aW,DX):=Kn bY;exact(ak,vs,aX,od,ai,rfl,rfl,aW)
def ajK:lh X (.builtin "isinstance") (λxs H Q=>∃x C ak aR D b,xs=[⇑x,⇑D]/\H x\(.ext (gj x C (some ak)))/\H ak\(.ext (fY ak aR))/\oQ X.K C/\jH X.K ⇑C ⇑D\b/\Q (.bE b) H):=by
 intro ab s σ H xs us Q J r h;let(x,C,ak,aR,D,b,rfl,e,ia,c,aI,q):=h;let(u,zr,rfl,bh,c4):=XL r;cases(show u=dm x from bh);cases(show zr=dm D from c4);exact PySem.W.kia_one (OI c) J.es (OU J e ia) aI (λz=>nomatch z) λcB=>(.bE b,H,J.tok _,rfl,q)
theorem Si:∀{cs:List Addr} {us:List Value},bW (cs.map V.ref) us->us=cs.map dm
 |[],_,.nil=>rfl
 |c::cs,_,.cons r t=>by
  rw[Si t];cases(show _=dm c from r);rfl
def ajN:lh X (.builtin "isinstance") (λxs H Q=>∃(x C ak:Addr) (aR:List (Str×V)) (cI:Addr) (cs:List Addr) (b:Bool),xs=[⇑x,⇑cI]/\H x\(.ext (gj x C (some ak)))/\H ak\(.ext (fY ak aR))/\oQ X.K C/\H cI\(.tup (cs.map V.ref))/\z8 X.K ⇑C (cs.map dm)\b/\Q (.bE b) H):=by
 intro ab s σ H xs us Q J r h;let(x,C,ak,aR,cI,cs,b,rfl,e,ia,c,r7,aI,q):=h;let(u,zr,rfl,bh,c4):=XL r;cases(show u=dm x from bh);cases(show zr=dm cI from c4);let(_,a5,cf,aqs,af,aj,n,a_):=(show eh X.prog X.w H s.heap cI (.tup (cs.map V.ref))from J.bf _ _ r7);have az:=Si cf;subst az;let(cl,c9,amP,aX):=aqs;cases(show cl=rr "tuple" from aj);cases(show amP=Data.seq _ n from a_);exact PySem.W.kia_tup (OI c) J.es (OU J e ia) af aI (λz=>nomatch z) λcB=>(.bE b,H,J.tok _,rfl,q)
noncomputable def al2(CX:hP)(P:Program)(w:World)(K:a')(av:Str->Option Value)(base:Heap)(N:List Str)(qual:Str)(scope:Scope)(f:Addr)(cd:Value)(A:Around)(outer:List Env)(s:Shared)(H:ar)(E:dG):a6 where
 prog:=P
 w:=w
 K:=K
 av:=av
 base:=base
 A:=A.deeper (envOfC qual scope ↥s f cd)
 N:=N
 fB:=s
 s9:=H
 env:=envOfC qual scope ↥s f cd
 outer:=outer
 stack:=envOfC qual scope ↥s f cd::outer
 ex:=[]
 calm:=false
 fn:=λ_=>true
 d8:=[]
 df:=λe s'=>wpAny (model P w) (A.deeper (envOfC qual scope ↥s f cd)) (leaving (envOfC qual scope ↥s f cd) e) (λ_ qt=>CX outer H s E e qt) (λbZ qt=>CX outer H s E bZ qt) s'
section
variable{α:Type}{M:List α->Prop}
theorem gp(h:∀a,M [a]):∀us:List α,↑us=1->M us|[a],_=>h a
theorem ht(h:∀a b,M [a,b]):∀us:List α,↑us=2->M us|[a,b],_=>h a b
theorem gy(h:∀a b c,M [a,b,c]):∀us:List α,↑us=3->M us|[a,b,c],_=>h a b c
theorem Ar(h:∀a b c d,M [a,b,c,d]):∀us:List α,↑us=4->M us|[a,b,c,d],_=>h a b c d
theorem U4(h:∀a b c d e,M [a,b,c,d,e]):∀us:List α,↑us=5->M us|[a,b,c,d,e],_=>h a b c d e
theorem BW(h:∀a b c d e f g,M [a,b,c,d,e,f,g]):∀us:List α,↑us=7->M us|[a,b,c,d,e,f,g],_=>h a b c d e f g
theorem aaU(h:∀a b c d e f g i,M [a,b,c,d,e,f,g,i]):∀us:List α,↑us=8->M us|[a,b,c,d,e,f,g,i],_=>h a b c d e f g i
end
structure zi(K:a')(C:Addr):Prop where
 hd:EB K C=true
 di:((Ly K C).any λcd=>zf cd.mro)=true
 hC:dM K ⇑C "__setattr__"\(some (.builtin "object.__setattr__"))
 ga:dM K ⇑C "__getattribute__"\(some (.builtin "BaseException.__getattribute__"))
 gt:dM K ⇑C "__getattr__"\none
def Ce{K:a'}(b:zi K C)(m:rk K C f):jO K C:=(b.hd,b.di,b.hC,b.ga,b.gt,_,m.e)
structure ry(K:a')(C:Addr):Prop where
 aJ:dM K ⇑C "__class__"\(some (.builtin "object.__class__"))
 aL:u7 K (.builtin "object.__class__") "__get__"\(some (.builtin "getset_descriptor.__get__"))
 qI:I9 K (.builtin "object.__class__")\true
 hm:xl K C (.type "object")\true
def DW{K:a'}(x:jO K C)(b:ry K C):oQ K C:=(x,b.aJ,b.aL,b.qI,b.hm)
def aoL{K:a'}(i:L7 K ⇑f=true)(e:vg K C f=true)(k:q9 K ⇑C=true):rk K C f:=(e,beq_iff_eq.mp i,k)
theorem aok{bF:List Int}:∀{a5:List Value},bW (bF.map V.int) a5->∃xs:List (Int×Tok),a5=xs.map (λp=>lJ p.1 p.2)/\xs.map (·.1)=bF:=by
 induction bF with
 |nil=>intro a5 r;cases r;exact([],rfl,rfl)
 | cons k bF b9=>
  intro a5 r;cases r with
  |cons h t=>
   let(xs,az,aE):=b9 t;let(cB,rfl):=(show ∃t,_=lJ k t from h);exact((p'p k cB)::xs,by rw[dZ,<- az],by rw[dZ,aE])
section
variable{X:a6}
def ZM(ah:X.calm=true):lh X (.builtin "max") (λxs H Q=>∃l bF m,xs=[⇑l]/\aH X.K H l (gR V.int bF)/\(m∈bF/\∀k∈bF,k<=m)/\Q (.int m) H):=by
 intro ab s σ H xs us Q J r h;let(l,bF,m,rfl,aF,hm,q):=h;let(u,rfl,ed):=k1 r;cases ed;let(a5,cf,pl,ax):=J.list aF;let(xs,az,aE):=aok cf;have tb:a5.toArray=intItems xs.toArray:=by rw[az];unfold intItems;simp
 have amB:s.heap.IsList l (intItems xs.toArray):=by rw[<- tb];exact pl.isList
 have ta:↑xs=↑bF:=by rw[<- aE,a9]
 have b8:0<xs.toArray.size:=by
  rw[d2,ta];exact List.length_pos_of_mem hm.1
 refine max_intList (J.ok.hd ah) amB b8 λv h' cB aM aI=>(.int m,H,J.kept aI,?_,q)
 let(eH,rfl):=intItems_at aM;refine(eH,?_);have ae:=argBest_gt (numAt xs.toArray) (xs.toArray.size-1);generalize argBest (λi j=>decide (numAt xs.toArray i>numAt xs.toArray j)) (xs.toArray.size-1)=j at ae⊢;have aL:∀i,i<↑bF->bF[i]?\(numAt xs.toArray i):=λi ao=>by
  rw[numAt_eq,gG];show bF[i]?\(((xs.map (·.1))[i]?).getD 0);rw[aE,bJ ao];rfl
 rw[d2]at ae b8;have af:=hm.2 _ (cC (aL j ()));let(i,ao):=pJ hm.1;have tb:i<↑bF:=(cv.mp ao).1;have aj:=ae.2 i ();have a_:m=numAt xs.toArray i:=d6 (ao.symm.trans (aL i tb));rw[show numAt xs.toArray j=m by omega]
def Mo(K:a'):V->List V->ar->cz->Prop:=λx vs H Q=>∃l bF k,x=⇑l/\vs=[.int k]/\aH K H l (gR V.int bF)/\k∈bF/\↑bF<=1000/\Q (.int (bF.idxOf k:Nat)) H
def acT:nv X "list.index" (Mo X.K):=by
 intro ab s σ H x xs v us Q J bh cf h;let(l,bF,k,rfl,rfl,aF,aI,aw,q):=h;cases(show v=dm l from bh);let(u,rfl,ed):=k1 cf;let(qC,rfl):=(show ∃t,u=lJ k t from ed);let(a5,yP,pl,ax):=J.list aF;have ao:=amy yP;have hlen:=↑ao;have aZ:bF.idxOf k<↑bF:=anh.mpr aI;let((cls,c9,data,aX),aW,ah,n,hd):=id pl.isList;simp only at ah hd;subst ah hd;refine call_meets B2 (_,aW,rfl) akY (aiu _ _)
  (aaA l a5.toArray n c9 aX (.int k qC) (isInt k) (bF.idxOf k) (by simpa[hlen]using aZ) () ?_ ?_) (aW,λy bg=>(eq_isInt k qC ao y (by simpa using bg)).at _ _,.int _,H,J.tok _,(_,rfl),q)
 .show isInt k a5[bF.idxOf k]=true;rw[isInt_at k ao _ () aZ];simpa using List.getElem_idxOf aZ
 .intro j aor cD;show isInt k a5[j]=false;rw[isInt_at k ao j (by simpa using aor) ()];exact ne_of_lt_idxOf cD _
end
def lE(p d:Addr):Heap->Prop:=λh=>PySem.W.KdlKeysView h p d
def lE.ok{w:World}{h:Heap}{p d:Addr}(z:lE p d h):eh P w H h p (.ext (lE p d)):=
 (z,let⟨o,aW,_⟩:=z;(o,aW),λ_ _ dS k=>let⟨o,aW,x⟩:=dS;(o,k o aW,x))
def akS{w:World}{k:Key}(h:(hh P w).is k u=true):bN (dC k) u:=by
 rcases re h with⟨i,t,rfl,rfl⟩|⟨x,t,rfl,rfl⟩
 .exact (t,rfl)
 .exact (t,rfl)
theorem N7:∀{vj:List α} {v5:List β},Paired F vj v5->∀{i:Nat} {b:β},v5[i]?\b->∃a,vj[i]?\a/\F a b
 |[],[],_,i,b,h=>by simp at h
 | a::vj,c::v5,r,i,b,h=>by
  cases r with
  | cons f r=>
   cases i with
   |zero=>exact(a,rfl,by rw[show b=c by simpa using h.symm];exact f)
   |succ i=>
    rw[wF]at h⊢;exact N7 r h
section
variable{X:a6}
def oI:V->List V->ar->cz->Prop:=λx vs H Q=>∃d kvs,x=⇑d/\vs=[]/\H d\(.bL kvs)/\∀p,H p=none->Q ⇑p (upd H p (.ext (lE p d)))
def aeU:nv X "dict.keys" oI:=by
 intro ab s σ H x xs v us Q J bh cf h;let(d,kvs,rfl,rfl,e,q):=h;cases(show v=dm d from bh);cases cf;let(z,hd,vs,rel,c9):=t7 J.bf e;refine call_meetsIn abU c9.typeIs PySem.F.entry_dict_keys (PySem.F.args_dict_keys_1 _) (PySem.W.kdl_meets_keys (hh X.prog X.w) d hd) ((_,c9),?_);exact(⇑_,_,J.laid (o:=.ext (lE _ d)) (t':=s.toks) (λb u e=>dX _ e) (b0 _) (lE.ok (_,e7 _ rfl,rfl,rfl)),rfl,q _ (J.bf.fresh (b0 _)))
def ag2(ah:X.calm=true):lh X (.type "list") (λxs H Q=>∃p d kvs,xs=[⇑p]/\H p\(.ext (lE p d))/\H d\(.bL kvs)/\∀l,H l=none->Q ⇑l (upd H l (.lst (kvs.map λq=>dC q.1)))):=by
 intro ab s σ H xs us Q J r h;let(p,d,kvs,rfl,ep,ia,q):=h;let(u,rfl,ed):=k1 r;cases ed;let(z,hd,vs,rel,c9):=t7 J.bf ia;have aM:lE p d s.heap:=(show eh X.prog X.w H s.heap p (.ext (lE p d))from J.bf _ _ ep).1;let(Wr,bl):=c9.dictAt;have hlen:=↑rel;refine alr (PySem.W.kdl_keys (knd:=hh X.prog X.w) (kvs:=vs) (ep:=Wr)) (J.ok.hd ah) (aM,bl) () λh' cB acc c aI e6 nL=>?_
 refine(⇑_,_,J.laid (o:=.lst (kvs.map λq=>dC q.1)) (t':=cB) aI (b0 _) (by rw[a9];exact z,acc.toList,c,?_,e6),rfl,q _ (J.bf.fresh (b0 _)));have aM:=He (f:=λi=>((kvs[i]?).map λq=>dC q.1).getD .b4) (λi v aM=>by
  let(k,x,az,aE):=aM;let(a,b7,gY,_):=N7 rel az;rw[b7];show bN (dC a.1) v;rw[gY];exact akS aE) nL
 have kD:(el ↑vs).map (λi=>((kvs[i]?).map λq=>dC q.1).getD .b4)=kvs.map λq=>dC q.1:=by
  rw[<- hlen];refine q7 (by simp) λi af aj=>?_
  rw[nZ,Sk,nZ,bJ (by simpa using aj)];rfl
 rw[kD]at aM;exact aM
def Kb(K:a'):V->List V->ar->cz->Prop:=λx vs H Q=>∃l ys k j,x=⇑l/\vs=[.str k]/\aH K H l (bz ys)/\ys[j]?\k/\(∀m,m<j->ys[m]? ≠ some k)/\↑ys<=1000/\Q (.int (j:Nat)) H
theorem Iz(k:Str):∀{vs:List Value} {ns:List Str},StrsAre vs ns->∀(j:Nat) (af:j<↑vs) (aj:j<↑ns),isStrOf k vs[j]=(ns[j]==k)
 |_,_,.cons n t _,0,_,_=>rfl
 |_,_,.cons n t r,j+1,af,aj=>Iz k r j (ae3 af) (ae3 aj)
theorem X1:∀{vs:List Value} {ns:List Str},StrsAre vs ns->↑vs=↑ns
 |_,_,.nil=>rfl
 |_,_,.cons _ _ r=>congrArg (· + 1) (X1 r)
def Wb:nv X "list.index" (Kb X.K):=by
 intro ab s σ H x xs v us Q J bh cf h;let(l,bF,k,j,rfl,rfl,aF,aI,sr,aw,q):=h;cases(show v=dm l from bh);let(u,rfl,ed):=k1 cf;let(qC,rfl):=(show ∃t,u=qF k t from ed);let(a5,yP,pl,ax):=J.list aF;have ao:=Zo yP;have hlen:=X1 ao;have aZ:j<↑bF:=(cv.mp aI).1;let((cls,c9,data,aX),aW,ah,n,hd):=id pl.isList;simp only at ah hd;subst ah hd;refine call_meets B2 (_,aW,rfl) akY (aiu _ _)
  (aaA l a5.toArray n c9 aX (.str k qC) (isStrOf k) j (by simpa[hlen]using aZ) () ?_ ?_) (aW,λy bg=>(eq_isStrOf k qC ao y (by simpa using bg)).at _ _,.int _,H,J.tok _,(_,rfl),q)
 .show isStrOf k a5[j]=true;rw[Iz k ao _ () aZ];simpa using(cv.mp aI).2
 .intro m hm cD;show isStrOf k a5[m]=false;rw[Iz k ao m (by simpa using hm) ()];have:=sr m cD;rw[bJ ()]at this;simpa using this
end
abbrev pq:=St->ar->Str->(Str->ar->Prop)->Prop
def r_(X:a6)(aK:List Expr)(t:pq):Prop:=
 ∀(ab:List (Addr×Obj)) (s:Shared) (σ:St) (H:ar) (Q:Str->ar->Prop) (acc:Str) (R:Str->Shared->Prop),Inv X ab σ H s->t σ H acc Q ->
  (∀out I s',Inv X ab σ I s'->↑out<=sizeLine->Q out I->R out s')->Joins (model X.prog X.w) X.A X.df (evalEach aK X.env) acc R s
def Hv:pq:=λ_ H acc Q=>↑acc<=sizeLine/\Q acc H
def Iv(c:Str)(t:pq):pq:=λσ H acc Q=>↑acc+↑c<=sizeLine/\t σ H (acc++c) Q
def HT(bI:TE)(t:pq):pq:=λσ H acc Q=>bI σ H λv H1=>∃i,v=.int i/\i.natAbs.log2<1920/\↑acc+↑(aa (toString i))<=sizeLine/\t σ H1 (acc++aa (toString i)) Q
def KR(bI:TE)(t:pq):pq:=λσ H acc Q=>bI σ H λv H1=>∃x,v=.str x/\↑x<=1000/\↑acc+↑x<=sizeLine/\t σ H1 (acc++x) Q
def J9(t:pq):TE:=λσ H Q=>t σ H nN λy H1=>Q (.str y) H1
section
variable{X:a6}{e:Expr}{aK:List Expr}{t:pq}{bI:TE}{pos:Pos}
def VU:r_ X [] Hv:=λab s σ H Q acc R J q h=>h acc H s J q.1 q.2
def QU{k:Nat}(h:r_ X aK t):r_ X (.Constant (.str c) k pos::aK) (Iv c t):=λab s σ H Q acc R J q gc=>by
 show wpAny _ _ _ _ _ _;exact WW (c,_,rfl,by rw[strLen_append];exact q.1,h ab _ σ H Q _ R (J.tok _) q.2 gc)
def Ue(he:bw X e bI)(h:r_ X aK t):r_ X (.FormattedValue e (-1) none pos::aK) (HT bI t):=λab s σ H Q acc R J q gc=>by
 show wpAny _ _ _ _ _ _;refine wpAny_FormattedValue_plain (bG (he ab s σ H _ J q) λu s1 ck=>?_);let(v,H1,aU,r,i,ev,ao,ax,bM):=ck;subst ev;let(cB,rfl):=(show ∃cB,u=lJ i cB from r);exact wpAny_formatField_int ao (_,_,rfl,by rw[strLen_append];exact ax,h ab _ σ H1 Q _ R (aU.tok _) bM gc)
def WZ(he:bw X e bI)(h:r_ X aK t):r_ X (.FormattedValue e (-1) none pos::aK) (KR bI t):=λab s σ H Q acc R J q gc=>by
 show wpAny _ _ _ _ _ _;refine wpAny_FormattedValue_plain (bG (he ab s σ H _ J q) λu s1 ck=>?_);let(v,H1,aU,r,x,ev,ai,ax,bM):=ck;subst ev;let(cB,rfl):=(show ∃cB,u=qF x cB from r);exact formatField_str (λt' ai1=>(x,_,rfl,by rw[strLen_append];exact ax,h ab _ σ H1 Q _ R (aU.tok _) bM gc)) (by rw[sizeLine_eq];omega)
def Rw(h:r_ X (e::aE::aK) t):bw X (.JoinedStr (e::aE::aK) pos) (J9 t):=by
 intro ab s σ H Q J q;refine wpAny_JoinedStr (h ab s σ H _ _ _ J q λout I s' jZ aw du=>(aw,?_));exact(.str out,I,jZ.tok _,(_,rfl),du)
end
section
variable{P:Program}{w:World}{A:Around}{E:Value->Shared->Prop}{s:Shared}
structure uD(h:Heap)(d:Addr)(o:Obj)(aK:Array DictEntry)(ep:Nat):Prop where
 at_:h.get? d\o
 ex:o.ExactDict
 dat:o.data=.dict aK ep
def aaM(r:uD s.heap d o aK ep):s.TypeIs ⇑d "dict":=(o,r.at_,r.ex.1)
def acD(hd:(d==sysModules)=false)(r:uD s.heap d o aK ep)
  (aV:Q (.ref ↥s) {s with heap:=s.heap.push {cls:=.type "dict_keyiterator",data:=.fields #[⇑d,.int 0 0,.int aK.size 0,.int ep 0]} }) :
  wpAny (model P w) A (pyIter ⇑d) Q E s:=by
 have dN:=aaM r;refine wpAny_pyIter_slot dN amq (wpAny_call_entry amq dN F.entry_dict_iter ?_ (F.args_dict_iter_1 _));unfold Builtin.«dict.__iter__» ata;refine wpAny_bind (wpAny_bind (wpAny_notOrdered_dict dN (wpAny_pure ?_)));show wpAny _ _ (aoS d >>= _) _ _ s;unfold aoS;rw[if_neg (by rw[hd];exact gZ)];refine wpAny_bind (wpAny_pure (wpAny_bind (wpAny_dictEntries r.at_ r.dat (wpAny_bind (wpAny_dictEpoch r.at_ r.dat ?_)))));refine wpAny_bind (wpAny_newObj_type (wpAny_pure (_,rfl,"dict_keyiterator",_,(_,e7 _ rfl,rfl),Cs.lookup,?_)));simpa[rawInt]using aV
def dL{it d:Addr}{e:DictEntry}(hit:s.heap.IsKeyIter it d i aK.size ep)(r:uD s.heap d o aK ep)(ai:aK[i]?\e)
  (aV:∀h',h'.IsKeyIter it d (i+1) aK.size ep->wu it s.heap h'->Q (some e.key) {s with heap:=h' }):wpAny (model P w) A (pyNext ⇑it) Q E s:=by
 let(PZ,aW,ah,hd):=id hit;have Ii:agW "dict_keyiterator"=false:=∅
 have cD:i<aK.size:=by
  rcases ajS i aK.size with h|h
  .exact h
  .rw [adO h]at ai;cases ai
 unfold pyNext;refine wpAny_bind (wpAny_attempt (wpAny_callSpecial?_slot (name:=aa "__next__") hit.typeIs Cs
  (wpAny_call_entry Cs hit.typeIs aeI ?_ (aeD _))))
 refine wpAny_bind (wpAny_pure (wpAny_bind (wpAny_bind ?_)))
 first|refine wpAny_bind (wpAny_typeNameOfWhole_keyiter hit.typeIs (wpAny_pure ?_))|refine wpAny_bind (wpAny_typeNameOf_keyiter hit.typeIs (wpAny_pure ?_))
 refine wpAny_bind (wpAny_fieldsOf aW hd ?_);simp only[Ii,xq,if_false];show wpAny _ _ (if(dm d==ik)=true then _ else _) _ _ s;rw[if_neg (show ¬((dm d==ik)=true)from gZ)];refine wpAny_bind (wpAny_pure (wpAny_bind (wpAny_dictEntries r.at_ r.dat ?_)));rw[if_neg (by simp)];refine wpAny_bind (wpAny_pure (wpAny_bind (wpAny_dictEpoch r.at_ r.dat ?_)));rw[if_neg (by simp)];refine wpAny_pure ?_;simp only[show ¬((i:Int)<0)from by omega,if_false,pN,ai];refine wpAny_bind ?_
 first|refine wpAny_bind (wpAny_typeNameOfWhole_keyiter hit.typeIs (wpAny_pure ?_))|refine wpAny_bind (wpAny_typeNameOf_keyiter hit.typeIs (wpAny_pure ?_))
 refine wpAny_bind (wpAny_isOneOf_keyiter hit.typeIs ?_);show wpAny _ _ (setField ⇑it 1 (rawInt ((i:Int)+1)) >>= _) _ _ s;refine wpAny_bind (wpAny_setField aW hd (by simp) ?_);have Py:(s.heap.update it (oU (·.setIfInBounds 1 (rawInt ((i:Int)+1))))).IsKeyIter it d (i+1) aK.size ep:=
  (_,nG _ aW (Y' (D3 hd _)),(Obj.cls_mapFields ..).trans ah,by rw[D3 hd];simp[rawInt])
 refine wpAny_bind (wpAny_holding (wpAny_bind (wpAny_isOneOf_keyiter (s:={s with heap:=s.heap.update it (oU (·.setIfInBounds 1 (rawInt ((i:Int)+1))))}) Py.typeIs ?_)));show wpAny _ _ (pure e.key) _ _ _;exact wpAny_pure (wpAny_pure (_,rfl,wpAny_pure (aV _ Py (adu ..))))
def ajC{it d:Addr}(cG:A.handled=none)(hit:s.heap.IsKeyIter it d i aK.size ep)(r:uD s.heap d o aK ep)(ai:aK.size<=i)
  (aV:∀h',Heap.ExtBut it s.heap h'->Q none {s with heap:=h' }):wpAny (model P w) A (pyNext ⇑it) Q E s:=by
 let(PZ,aW,ah,hd):=id hit;have Ii:agW "dict_keyiterator"=false:=∅
 unfold pyNext;refine wpAny_bind (wpAny_attempt (wpAny_callSpecial?_slot (name:=aa "__next__") hit.typeIs Cs
  (wpAny_call_entry Cs hit.typeIs aeI ?_ (aeD _))))
 refine wpAny_bind (wpAny_pure (wpAny_bind (wpAny_bind ?_)))
 first|refine wpAny_bind (wpAny_typeNameOfWhole_keyiter hit.typeIs (wpAny_pure ?_))|refine wpAny_bind (wpAny_typeNameOf_keyiter hit.typeIs (wpAny_pure ?_))
 refine wpAny_bind (wpAny_fieldsOf aW hd ?_);simp only[Ii,xq,if_false];show wpAny _ _ (if(dm d==ik)=true then _ else _) _ _ s;rw[if_neg (show ¬((dm d==ik)=true)from gZ)];refine wpAny_bind (wpAny_pure (wpAny_bind (wpAny_dictEntries r.at_ r.dat ?_)));rw[if_neg (by simp)];refine wpAny_bind (wpAny_pure (wpAny_bind (wpAny_dictEpoch r.at_ r.dat ?_)));rw[if_neg (by simp)];refine wpAny_pure ?_;simp only[show ¬((i:Int)<0)from by omega,if_false,pN,adO ai];refine wpAny_bind ?_
 first|refine wpAny_bind (wpAny_typeNameOfWhole_keyiter hit.typeIs (wpAny_pure ?_))|refine wpAny_bind (wpAny_typeNameOf_keyiter hit.typeIs (wpAny_pure ?_))
 show wpAny _ _ (setField ⇑it 0 .none >>= _) _ _ s;refine wpAny_bind (wpAny_setField aW hd (by simp) ?_);show wpAny _ _ (newExc (.type "StopIteration") [] >>= _) _ _ _;refine wpAny_bind ?_;simp only[newExc,newTuple];refine wpAny_bind (wpAny_newObj_type ?_ (by size_fits));refine wpAny_bind (m:=firstArgMember _ _) (wpAny_of_eq (a:=ik) (by first|rfl|(simp only[firstArgMember];rfl)) ?_);refine wpAny_newObj_type ?_ (by size_fits);simp only[raiseNew];refine wpAny_bind (wpAny_handled ?_);rw[show A.in1.handled=none from cG];refine wpAny_bind (wpAny_pure (wpAny_throw ?_));refine wpAny_bind (wpAny_isInstance (T:="StopIteration") (b:=true) (_,e7 _ rfl,rfl) isSubtype_stop ?_);exact wpAny_pure (aV _ (((adu ..).extBut.push _).push _))
end
section
variable{X:a6}{ab:List (Addr×Obj)}{σ:St}{H:ar}{s:Shared}{a b:Addr}{kvs:List (List Key×V)}{k:List Key}{v:V}{r:Value}{A:Around}{E:Value->Shared->Prop}
def ach(J:Inv X ab σ H s)(fb:nk (H a))(ex:∃u,s.heap.get? a\u)(new:eh X.prog X.w (upd H a dY) s.heap a dY):Inv X ab σ (upd H a dY) s:=
 J.un (t':=s.toks) (h':=s.heap) (gn.write fb (.inl rfl) (λ_ _ _ q=>q) ex) (J.bf.write fb (.inl rfl) (λ_ _ _ q=>q) ex new)
end
def mY(p d:Addr):Heap->Prop:=λh=>h.IsItemsView p d
def mY.ok{w:World}{h:Heap}{p d:Addr}(z:mY p d h):eh P w H h p (.ext (mY p d)):=
 (z,let⟨o,aW,_⟩:=z;(o,aW),λ_ _ dS k=>let⟨o,aW,x⟩:=dS;(o,k o aW,x))
section
variable{X:a6}
def FI:V->List V->ar->cz->Prop:=λx vs H Q=>∃d kvs,x=⇑d/\vs=[]/\H d\(.bL kvs)/\∀p,H p=none->Q ⇑p (upd H p (.ext (mY p d)))
def ZN:nv X "dict.items" FI:=by
 intro ab s σ H x xs v us Q J bh cf h;let(d,kvs,rfl,rfl,e,q):=h;cases(show v=dm d from bh);cases cf;let(z,hd,vs,rel,c9):=t7 J.bf e;refine call_meetsIn apB c9.typeIs PySem.F.entry_dict_items (PySem.F.args_dict_items_1 _) (meets_dict_items (hh X.prog X.w) d hd) ((_,c9),?_);exact(⇑_,_,J.laid (o:=.ext (mY _ d)) (t':=s.toks) (λb u e=>dX _ e) (b0 _) (mY.ok (_,e7 _ rfl,rfl,rfl)),rfl,q _ (J.bf.fresh (b0 _)))
end
section
open AutoSeq1 (wpAny_loadPart')
open MeetsSeq MeetsSeq2 MeetsSeq3 SeqRoads2
variable{P:Program}{w:World}{l b:Addr}{xs ys:Array Value}{n m:Nat}{c9 atl:Option Addr}{aX a7:Array (Option Value)}
end
theorem ajk(aD:(kvs.map (·.1)).Nodup){k:Key}(h:(p'p k v)∈kvs):c6 kvs k\v:=by
 induction kvs with
 |nil=>cases h
 | cons c2 r b9=>
  rw[dZ,sZ]at aD;unfold c6;rw[oo];rcases cT.mp h with e|e
  .rw [<- e];simp
  .have b8:c2.1≠k:=λz=>aD.1 (by rw[z];exact dg.mpr ((p'p k v),e,rfl))
   rw[decide_eq_false b8];exact b9 aD.2 e
section
variable{X:a6}{ab:List (Addr×Obj)}{σ:St}{H:ar}{s:Shared}
structure rQ(H:ar)(p:Addr)(ps:List Addr)(bF:List (List (Key×V))):Prop where
 at_:H p\(.lst (ps.map V.ref))
 len:↑ps=↑bF
 al:∀(j:Nat) (a:Addr) (kvs:List (Key×V)),ps[j]?\a->bF[j]?\kvs->H a\(.bL kvs)
end
section
variable{X:a6}{ab:List (Addr×Obj)}{σ:St}{H:ar}{s:Shared}{d:Addr}{o:Obj}{kvs:List (Key×V)}
def UL(J:Inv X ab σ H s)(e:H d\(.bL kvs))(g:s.heap.get? d\o):Inv X ab σ (upd H d (.eO o (.bL kvs))) s:=
 ach J (by rw[e];exact kB) (o,g) (g,J.bf d _ e)
def alJ(J:Inv X ab σ H s)(e:H d\(.eO o (.bL kvs)))(hJ:∀o u,X.s9 d≠some (.eO o u)):Inv X ab σ (upd H d (.bL kvs)) s:=by
 have ne:∀{b:Addr} {u:Option eY},H b=u->(∀dY,u≠some (.eO dY (.bL kvs)))->b≠d:=λ{b u} q h z=>h o (by rw[<- q,z];exact e)
 refine(J.ok,J.os,J.bare,(J.base.keep,J.base.slot,λb dY q n ai=>?_,J.base.there,λb xs q=>?_,λb dY u q=>?_,λb ps q=>?_),J.loc,J.cell,?_,λx c q=>?_,λp aq=>?_,λb u q=>?_,J.len)
 .have h:=J.base.free b dY q n ai;rw[aO (ne h (λ_ z=>by cases z))];exact h
 .have h:=J.base.mD b xs q;rw[aO (ne h (λ_ z=>by cases z))];exact h
 .have h:=J.base.kS b dY u q;rw[aO (λz=>hJ dY u (by rw[<- z];exact q))];exact h
 .let(m,h):=J.base.mK b ps q;exact(m,by rw[aO (ne h (λ_ z=>by cases z))];exact h)
 .rw [aO (ne J.free (λ_ z=>by cases z))];exact J.free
 .rw [aO (ne (J.iS x c q) (λ_ z=>by cases z))];exact J.iS x c q
 .let(af,aj,a_):=J.pin p aq;exact(af,by rw[aO (ne aj (λ_ z=>by cases z))];exact aj,a_)
 .by_cases ae:b=d
  .subst ae;rw[aP]at q;cases q;exact(J.bf b _ e).2
  .rw[aO ae]at q;refine(J.bf b u q).kX (λ_ _ _ r=>r) (λc r=>?_) (λc xs r=>?_)
   .rw [aO (ne r (λ_ z=>by cases z))];exact r
   .rw [aO (ne r (λ_ z=>by cases z))];exact r
end
noncomputable def XB(d:Addr)(o:Obj)(kvs:List (Key×V)):iE:=
 (λi H=>H d\(.eO o (.bL kvs))/\i<↑kvs,λi H x I=>I=H/\∃k v,kvs[i]?\(p'p k v)/\x=dC k,λi H=>H d\(.eO o (.bL kvs))/\↑kvs<=i)
def amU{w:World}{K:a'}{d it:Addr}(ex:o.ExactDict)(aW:o.data=.dict aK ep)
  (aw:aK.size=↑kvs) (bF:∀(i:Nat) (e:DictEntry),aK[i]?\e->∃k v,kvs[i]?\(p'p k v)/\bN (dC k) e.key):pv P w K cZ (XB d o kvs) [it] it (λi h=>h.IsKeyIter it d i aK.size ep)where
 mem:=by simp
 obj:=λi h st b ae=>by
  have e:b=it:=by simpa using ae
  subst e;let(o,e,c,d):=st;exact(o,e,λv z=>by rw[d]at z;cases z)
 keep:=λi h h' st k=>st.at λo e=>k it (by simp) o e
 item:=by
  intro X d9 hw eS ah i ab s σ H E J hf st a0;subst d9 hw eS;let(aF,ai):=a0;have r:uD s.heap d o aK ep:=((J.bf d _ aF).1,ex,aW);let(f0,f1,f2,eP,f4,fA):=hf it (by simp);let(q,VJ):∃q,aK[i]?\q:=(_,acg (show i<aK.size by omega));let(k,v,rb,KA):=bF i q VJ;refine dL st r VJ λh' jR hs=>?_
  have aU:Inv X ab σ H {s with heap:=h' }:=J.turned (t':=s.toks) (λb o ae e=>(hs.2 b ae).trans e) f0 f1 eP f4 fA;let(q0,e,c,c9):=id jR;exact(_,rfl,wG (s:={s with heap:=h' }) e c c9 ∅ (dC k,H,aU,KA,(rfl,k,v,rb,rfl),jR,λb ae=>(hf b ae).1))
 done:=by
  intro X d9 hw eS ah i ab s σ H E J hf st a0;subst d9 hw eS;let(aF,ai):=a0;have r:uD s.heap d o aK ep:=((J.bf d _ aF).1,ex,aW);let(f0,f1,f2,eP,f4,fA):=hf it (by simp);exact ajC (J.ok.hd ah) st r () λh' dc=>(rfl,J.turned (t':=s.toks) (λb o ae e=>dc b o ae e) f0 f1 eP f4 fA)
 self:=λ_ _ _ _ _ st h=>wpAny_pyIter_keyiter st h
def We{w:World}{k:Key}(h:(hh P w).is k v=true):bN (dC k) v:=by
 rcases re (k:=k) (v:=v) h with⟨i,t,rfl,rfl⟩|⟨x,t,rfl,rfl⟩
 .exact (t,rfl)
 .exact (t,rfl)
theorem SY{w:World}:∀{aK:List DictEntry} {vs:List (Key×Value)} {kvs:List (Key×V)},Pairs (hh P w) aK vs->e1 kvs vs->↑aK=↑kvs/\∀(i:Nat) (e:DictEntry),aK[i]?\e->∃k v,kvs[i]?\(p'p k v)/\bN (dC k) e.key
 |_,_,_,.nil,r=>by
  unfold e1 at r;cases r;exact(rfl,λi e h=>by simp at h)
 | _,_,_,.cons aI _ t,r=>by
  unfold e1 at r;cases r with
  | @cons p q ps qs h dE=>
   let(l,al):=SY t (kvs:=ps) dE;refine(by rw[gw,gw,l],λi e he=>?_);cases i with
   |zero=>
    cases he;refine(p.1,p.2,rfl,We (P:=P) (w:=w) ?_);rw[h.1];exact aI
   |succ i=>exact al i e he
section
variable{X:a6}{cZ:Expr}
def Kl(dp:TE):TI:=λσ H R=>dp σ H λx H1=>∃d kvs,x=⇑d/\H1 d\(.bL kvs)/\∀o,R (XB d o kvs) (upd H1 d (.eO o (.bL kvs)))
def anC(aw:bw X l dp):l9 X cZ l (Kl dp):=by
 intro ab s σ H R J h;refine bG (aw ab s σ H _ J h) λv s1 cm=>eo cm λx H1 aU bX bM=>?_
 let(d,kvs,e,ia,q):=bM;subst e;cases bX;let(_,hd,vs,rel,o,aK,ep,g,ex,dat,_,pr,_):=t7 aU.bf ia;let(aw,bF):=SY pr rel;have bK:=UL aU ia g;refine acD hd (g,ex,dat) ?_;refine(↥s1,[↥s1],_,_,_,rfl,bK.kept (t':=s1.toks) λb o e=>dX _ e,amU ex dat (by rw[<- aw];exact l2.symm) (λi e h=>bF i e (by rw[<- Ko]at h;exact h)),(_,e7 _ rfl,rfl,rfl),λb ae=>?_,q o);have e:b=↥s1:=by simpa using ae
 subst e;exact bK.mv (b0 _) (bK.bf.fresh (b0 _))
def LM(t:TE):TE:=λσ H Q=>∃d kvs,H d\(.bL kvs)/\t σ H λv I=>∃o,I d\(.eO o (.bL kvs))/\Q v (upd I d (.bL kvs))
def aoH{e:Expr}{t:TE}(h:bw X e t):bw X e (LM t):=by
 intro ab s σ H Q J q;let(d,kvs,ia,q):=q;refine bG (h ab s σ H _ J q) λv s1 ⟨x,H1,aU,bX,o,az,bM⟩=>(x,_,alJ aU az (λdY u z=>?_),bX,bM)
 have:=J.base.kS d dY u z;rw[ia]at this;cases this
def MQ:V->List V->ar->cz->Prop:=λx vs H Q=>∃z,x=.str z/\vs=[]/\↑z<=sizeLine/\Q (.str (TR z)) H
def ai8:nv X "str.rstrip" MQ:=by
 intro ab s σ H x xs v us Q J bh cf h;let(z,rfl,rfl,ax,q):=h;let(t,rfl):=bh;cases cf;exact PySem.SC.rstrip (λt' k=>(.str _,H,J.tok _,(_,rfl),q)) ax
def M':V->List V->ar->cz->Prop:=λx vs H Q=>∃z i,x=.str z/\vs=[.int i]/\PadOk i=true/\Q (.str (qx z i)) H
def VF:nv X "str.ljust" M':=by
 intro ab s σ H x xs v us Q J bh cf h;let(z,i,rfl,rfl,aq,q):=h;let(t,rfl):=bh;let(u,rfl,t',rfl):=k1 cf;exact PySem.SC.ljust aq λt' k=>(.str _,H,J.tok _,(_,rfl),q)
end
def GB{w:World}{K:a'}(x:K.lookup a\(.type "dict",none,.dict aK n,#[]))(y:Lf w.params aK.toList)
  (z:∀x v,(p'p x v)∈kvs->∃ig,uv K a x\(some ig)/\bN v ig):z4 w K ⇑a kvs:=(a,aK,n,rfl,x,y,z)
def Jv{K:a'}{x:Str}(h:uv K a x\(some u))(r:bN v u):∃ig,uv K a x\(some ig)/\bN v ig:=(u,h,r)
section
open PySem.Spec PyProof.Rows
variable{prog:Program}{w:World}{A:Around}{E:Value->Shared->Prop}{s:Shared}
end
def d4(t u:ea)(D:g4)(σ:St)(H:ar):Nm t u D σ H=(t {D with cp:=u D} σ H):=rfl
def WB(K:a'):Rp K a4 eH f D σ H=(eH σ H λy H1=>a4 σ H1 λx ay=>eV x λa=>∃C ak aR,ay a\(.ins C ak aR)/\gh K C/\cY K C f/\↑aR<1000 /\
 D.cp σ (upd ay a (.ins C ak (dz f y aR)))):=rfl
def WO(K:a')(rd:V->V->ar->cz->Prop):UQ K a4 eH rd f D σ H=(a4 σ H λx H1=>∃a C ak aR v,x=⇑a/\H1 a\(.ins C ak aR)/\gh K C/\cY K C f/\aR.lookup f\v /\
 eH σ H1 λy ay=>rd v y ay λz bq=>∃fc oR,bq a\(.ins C fc oR)/\↑oR<1000/\D.cp σ (upd bq a (.ins C fc (dz f z oR)))):=rfl
def Uz(t:eE):G2 C m sp dvs E a4 t σ H Q=(a4 σ H λx H1=>eV x λa=>∃ak aR,H1 a\(.ins C ak aR)/\aR.lookup m=none /\
 t σ H1 λvs ay=>sp (x::(vs++dvs)) ay Q E):=rfl
def Rk(t:eE):FN C sp dvs E t σ H Q=(t σ H λvs H1=>∀x ak,H1 x=none->H1 ak=none->ak≠x ->
 sp (⇑x::(vs++dvs)) (upd (upd H1 ak (.own x)) x (.ins C ak [])) (λv ay=>v=.b4/\Q ⇑x ay) E):=rfl
def To(K:a')(x:V)(lo:Option Int)(ao:Option Int)(H:ar)(Q:cz):Y5 K x lo ao H Q=(∃a xs,x=⇑a/\b1 K H a xs /\
 ¬(fx.c3 ↑xs 0 lo=0/\fx.c3 ↑xs ↑xs ao=↑xs)/\∀p,H p=none->Q ⇑p (upd H p (.tup (k_ xs lo ao)))):=rfl
def PG(K:a')(x:V):Yd K x y H Q=(∃a b xs ys,x=⇑a/\y=⇑b/\b1 K H a xs/\b1 K H b ys/\xs≠[]/\↑xs+↑ys<=sizeLine /\
 (ys=[]->Q ⇑a H)/\(ys≠[]->∀p,H p=none->Q ⇑p (upd H p (.tup (xs++ys))))):=rfl
def Vm(t:eE):Vc oK m oy E a4 t σ H Q=(a4 σ H λx H1=>∃a C ak aR,x=⇑a/\H1 a\(.ins C ak aR)/\oK C/\aR.lookup m=none /\
 t σ H1 λvs ay=>oy C (x::vs) ay Q E):=rfl
def Um(K:a'):XZ K a4 eH f D σ H=(eH σ H λy H1=>a4 σ H1 λx ay=>∃a C,x=⇑a/\ay a\(.ext (ek a C none))/\jO K C/\cY K C f /\
 ∀ak,ay ak=none->ak≠a->D.cp σ (upd (upd ay a (.ext (ek a C (some ak)))) ak (.ext (fY ak [(f,y)])))):=rfl
def PR(K:a'):Yl K a4 eH f D σ H=(eH σ H λy H1=>a4 σ H1 λx ay=>∃a C ak aR,x=⇑a/\ay a\(.ext (ek a C (some ak)))/\ay ak\(.ext (fY ak aR))/\jO K C/\cY K C f/\↑aR<1000 /\
 D.cp σ (upd ay ak (.ext (fY ak (dz f y aR))))):=rfl
def X6(t:eE):Zq C m sp dvs E a4 t σ H Q=(a4 σ H λx H1=>∃a ak aR,x=⇑a/\H1 a\(.ins C ak aR)/\aR.lookup m=none /\
 t σ H1 λvs ay=>sp (x::(vs++dvs)) ay Q (E σ)):=rfl
def dW(cb:iE)(g:gr)(cy:ea)(D:g4)(σ:St)(H:ar):Prop:=∃W:Nat->Nat->St->ar->Prop,(∃m,W 0 m σ H)/\∀i m σ H,W i m σ H ->
 (cb.stop i H/\D.cp σ H)\/(cb.go i H/\∃N:St->ar->Prop,(∀aT I,N aT I->∃dV,dV<m/\W (i+1) dV aT I)/\∀x I,cb.qM i H x I->g x σ I λc8 ay=>cy {D with cp:=N,eX:=N,b3:=D.cp} c8 ay)
def R0:OO d3 g cy D σ H=d3 σ H λcb H1=>dW cb g cy D σ H1:=rfl
def dv(cb:iE)(g:gr)(de:TT)(bI:TE)(dK:St)(Q:cz)(H:ar):Prop:=∃W:Nat->Nat->List V->ar->Prop,(∃m,W 0 m [] H)/\so cb g de bI dK Q W
def N8:JX d3 g de bI sel σ H Q=d3 σ H λcb H1=>dv cb g de bI (mx sel σ) Q H1:=rfl
def YV:Ug a4 σ H R=(a4 σ H λvs H1=>mI vs λx=>gg x λj=>-4611686018427387904<=j/\j<4611686018427387904/\R (kY 0 j.toNat) H1):=rfl
def Sj:Pc a4 σ H R=(a4 σ H λvs H1=>∃i j:Int,vs=[.int i,.int j]/\(-4611686018427387904<=i/\i<4611686018427387904/\-4611686018427387904<=j/\j<4611686018427387904)/\R (kY i (j-i).toNat) H1):=rfl
def aea(f:α->β):[].map f=[]:=rfl
def Zz(f:α->β)(a:α)(l:List α):(a::l).map f=f a::l.map f:=rfl
def apc(l:List α):[]++l=l:=rfl
def aoK(a:α)(l r:List α):(a::l)++r=a::(l++r):=rfl
def amj(a b:α)(l:List α):(a::l).set 0 b=b::l:=rfl
def ab8(a b:α)(l:List α)(n:Nat):(a::l).set (n+1) b=a::l.set n b:=rfl
def agL(a:α)(l:List α):(a::l)[0]?\a:=rfl
def ajs(a:α)(l:List α)(n:Nat):(a::l)[n+1]? = l[n]?:=rfl
def abR:↑([]:List α)=0:=rfl
def ame(a:α)(l:List α):↑(a::l)=↑l+1:=rfl
def aoh(f:α->Option β):(none:Option α).bind f=none:=rfl
def aoP(f:α->Option β)(a:α):(some a).bind f=f a:=rfl
def afN(a:Option α):(some a).join=a:=rfl
def agB:(none:Option (Option α)).join=none:=rfl
def TH(sel:List (Option Nat))(σ:St):mx sel σ=sel.map λo=>o.bind λj=>(σ[j]?).join:=rfl
theorem cX{t u:ea}(b:Bool)(ah:∀Q:Bool->ar->Prop,Q b H->c σ H Q)(af:b=true->t D σ H)(aj:b=false->u D σ H):Hi c t u D σ H:=by
 refine ah _ ?_;cases b with
 |true=>exact af rfl
 |false=>exact aj rfl
theorem jW{t u:ea}(R:Bool->ar->Prop)(ah:∀Q:Bool->ar->Prop,(∀b I,R b I->Q b I)->c σ H Q)(af:∀I,R true I->t D σ I)(aj:∀I,R false I->u D σ I):Hi c t u D σ H:=by
 refine ah _ λb I r=>?_
 cases b with
 |true=>exact af I r
 |false=>exact aj I r
def VT{t:ea}{D:g4}{σ:St}{H:ar}(R:St->ar->Prop)(h:∀i6:g4,(∀σ H,R σ H->i6.cp σ H)->i6.lG=D.lG->i6.b3=D.b3->i6.eX=D.eX->t i6 σ H)(gc:∀σ H,R σ H->D.cp σ H):t D σ H:=h D gc rfl rfl rfl
def DA{t:ea}{D:g4}{σ:St}{H:ar}(R:St->ar->Prop)(h:∀i6:g4,(∀σ H,R σ H->i6.cp σ H)->t i6 σ H)(gc:∀M,M=D.cp->∀σ H,R σ H->M σ H):t D σ H:=h D (gc _ rfl)
def Xh{p:Prop}(h:∀q,q=p->q):p:=h p rfl
def OF{t u:ea}{D:g4}{σ:St}{H:ar}(R:St->ar->Prop)(h:∀i6:g4,(∀σ H,R σ H->i6.cp σ H)->t i6 σ H)(gc:∀M,M=u D->∀σ H,R σ H->M σ H):Nm t u D σ H:=h {D with cp:=u D} (gc _ rfl)
def Ym(v:V)(ah:∀Q:cz,Q v H->bI σ H Q)(h:D.lG v H):CZ bI D σ H:=ah _ h
def gQ(x y:Str):↑(x++y)=↑x+↑y:=by
 show(x.cps++y.cps).size=_;rw[Array.size_append];rfl
def dW.range{lo:Int}{n:Nat}{g:gr}{cy:ea}{D:g4}{σ:St}{H:ar}(Pv:Nat->St->ar->Prop)(h0:Pv 0 σ H)
  (aB:∀i σ H,i<n->Pv i σ H->g (.int (lo+i)) σ H λc8 ay=>cy {D with cp:=Pv (i+1),eX:=Pv (i+1),b3:=D.cp} c8 ay) (hd:∀σ H,Pv n σ H->D.cp σ H):dW (kY lo n) g cy D σ H:=akN Pv h0 aB hd
def dW.list{K:a'}(Pv:Nat->St->ar->Prop)(h0:Pv 0 σ H)(aw:∀i σ H,i<=↑xs->Pv i σ H->aH K H a xs)
  (aB:∀i x σ H,xs[i]?\x->Pv i σ H->g x σ H λc8 ay=>cy {D with cp:=Pv (i+1),eX:=Pv (i+1),b3:=D.cp} c8 ay) (hd:∀σ H,Pv ↑xs σ H->D.cp σ H):dW (oX K a) g cy D σ H:=acw Pv h0 aw aB hd
def dv.list{K:a'}(Pv:Nat->List V->ar->Prop)(ax:↑xs<=sizeLine)(h0:Pv 0 [] H)(aw:∀i ys H,i<=↑xs->Pv i ys H->aH K H a xs/\↑ys<=i)
  (aB:∀i x ys H,xs[i]?\x->Pv i ys H->qP Pv g de bI dK i x ys H) (hd:∀ys H,Pv ↑xs ys H->∀p,H p=none->Q ⇑p (upd H p (.lst ys))):dv (oX K a) g de bI dK Q H:=anv Pv ax h0 aw aB hd
def dv.a5(Pv:Nat->List V->ar->Prop)(ax:↑xs<=sizeLine)(h0:Pv 0 [] H)(aw:∀i ys H,i<=↑xs->Pv i ys H->↑ys<=i)
  (aB:∀i x ys H,xs[i]?\x->Pv i ys H->qP Pv g de bI dK i x ys H) (hd:∀ys H,Pv ↑xs ys H->∀p,H p=none->Q ⇑p (upd H p (.lst ys))):dv (zV xs) g de bI dK Q H:=WP Pv ax h0 aw aB hd
def dv.range{lo:Int}{n:Nat}{g:gr}{de:TT}{bI:TE}{dK:St}{Q:cz}{H:ar}(Pv:Nat->List V->ar->Prop)(ax:n<=sizeLine)(h0:Pv 0 [] H)(aw:∀i ys H,i<=n->Pv i ys H->↑ys<=i)
  (aB:∀i ys H,i<n->Pv i ys H->qP Pv g de bI dK i (.int (lo+i)) ys H) (hd:∀ys H,Pv n ys H->∀p,H p=none->Q ⇑p (upd H p (.lst ys))):dv (kY lo n) g de bI dK Q H:=Zx Pv ax h0 aw aB hd
def SO{α β:Type}{xs:List α}{i:Nat}{x:α}(f:α->β)(h:xs[i]?\x):(xs.take (i+1)).map f=(xs.take i).map f++[f x]:=by
 rw[tn,h,ew];rfl
def dv.ak_{xs:List V}{g:gr}{bI:TE}{dK:St}{Q:cz}{H:ar}(f:V->V)(ax:↑xs<=sizeLine)(aB:∀(i:Nat) (x:V) (N:V->ar->Prop),xs[i]?\x->N (f x) H->g x dK H λc8 ay=>Sub dK c8/\bI c8 ay N)
  (hd:∀p,H p=none->Q ⇑p (upd H p (.lst (xs.map f)))):dv (zV xs) g r9 bI dK Q H:=by
 refine dv.a5 (λi ys I=>I=H/\ys=(xs.take i).map f) ax (rfl,rfl) (λi ys I ao ⟨_,e⟩=>?_) (λi x ys I ai ⟨az,aE⟩ N bc=>?_) (λys I ⟨az,aE⟩ p aq=>?_)
 .rw [e,a9,fw];omega
 .subst az;exact aB i x (λy cc=>N (ys++[y]) cc) ai (bc _ _ (rfl,by rw[aE,SO f ai]))
 .subst az;rw[aE,kR];exact hd p aq
def dv.Ik{lo:Int}{n:Nat}{g:gr}{bI:TE}{dK:St}{Q:cz}{H:ar}(f:Nat->V)(ax:n<=sizeLine)(aB:∀(i:Nat) (N:V->ar->Prop),i<n->N (f i) H->g (.int (lo+i)) dK H λc8 ay=>Sub dK c8/\bI c8 ay N)
  (hd:∀p,H p=none->Q ⇑p (upd H p (.lst ((el n).map f)))):dv (kY lo n) g r9 bI dK Q H:=by
 refine dv.range (λi ys I=>I=H/\ys=(el i).map f) ax (rfl,rfl) (λi ys I ao ⟨_,e⟩=>?_) (λi ys I ao ⟨az,aE⟩ N bc=>?_) (λys I ⟨az,aE⟩ p aq=>?_)
 .rw [e,a9,kf];exact b0 _
 .subst az;exact aB i (λy cc=>N (ys++[y]) cc) ao (bc _ _ (rfl,by rw[aE,Hc,ew];rfl))
 .subst az;rw[aE];exact hd p aq
theorem dv.alo{K:a'}(f:V->eY)(aw:aH K H a xs)(ax:↑xs<=sizeLine)(aL:∀x,qE (f x)=true)
  (aB:∀(i:Nat) (x:V) (H1:ar) (N:V->ar->Prop),xs[i]?\x->aC H H1->(aG H->aG H1)->(∀q,H1 q=none->N ⇑q (upd H1 q (f x)))->g x dK H1 λc8 ay=>Sub dK c8/\bI c8 ay N)
  (hd:∀(qs:List Addr) (H1:ar),aC H H1->(aG H->aG H1)->↑qs=↑xs->(∀(j:Nat) (q:Addr) (x:V),qs[j]?\q->xs[j]?\x->H1 q\(f x)/\H q=none)->∀p,H1 p=none->Q ⇑p (upd H1 p (.lst (qs.map V.ref)))):dv (oX K a) g r9 bI dK Q H:=by
 refine dv.list (λi ys I=>∃qs:List Addr,ys=qs.map V.ref/\↑qs=i/\aC H I/\(aG H->aG I)/\∀(j:Nat) (q:Addr) (x:V),qs[j]?\q->xs[j]?\x->I q\(f x)/\H q=none) ax
  ([],rfl,rfl,aC.refl H,id,λj q x h _=>by simp at h) ?_ ?_ ?_
 .rintro i ys I ao a3;refine Xh λt8 ba=>?_
  let(qs,e,aE,a7,_,_):=a3;subst ba;exact(aw.same a7,by rw[e,a9];omega)
 .rintro i x ys I ai ⟨qs,az,aE,a7,a8,al⟩ N bc;refine aB i x I (fun y cc=>N (ys++[y]) cc) ai a7 a8 fun q aF=>bc _ _ ⟨qs++[q],by rw[az,ew];rfl,by rw[c',aE];rfl,a7.gm (a7.free aF),fun n=>(a8 n).upd (aL x),fun j du Ww af aj=>?_⟩
  by_cases aZ:j<↑qs
  .rw [sv aZ]at af;let(dS,dF):=al j du Ww af aj;exact(by rw[aO (cM dS aF)];exact dS,dF)
  .rw[sS ()]at af;have zH:j-↑qs=0:=by
    cases cG:j-↑qs with
    |zero=>rfl
    |succ n=>rw[cG]at af;simp at af
   rw[zH]at af;have b7:q=du:=by simpa using af
   subst b7;have gY:j=i:=()
   subst gY;rw[ai]at aj;cases aj;exact(aP,a7.free aF)
 .intro ys I (qs,az,aE,a7,a8,al) p aq;subst az;exact hd qs I a7 a8 aE al p aq
def dW.of(Pv:Nat->St->ar->Prop)(h0:Pv 0 σ H)(wq:∀i σ H,i<n->Pv i σ H->cb.go i H)(gJ:∀σ H,Pv n σ H->cb.stop n H)
  (aB:∀i σ H x I,i<n->Pv i σ H->cb.qM i H x I->g x σ I λc8 ay=>cy {D with cp:=Pv (i+1),eX:=Pv (i+1),b3:=D.cp} c8 ay) (hd:∀σ H,Pv n σ H->D.cp σ H):dW cb g cy D σ H:=by
 refine(λi m σ H=>m=n-i/\i<=n/\Pv i σ H,(n,by simp,gx _,h0),?_);intro i m σ H (rfl,ao,p);by_cases cD:i<n
 .exact .inr (wq i σ H cD p,Pv (i+1),λaT I sz=>(n-(i+1),(),rfl,cD,sz),λx I y=>aB i σ H x I cD p y)
 .have e:i=n:=()
  subst e;exact .inl (gJ σ H p,hd σ H p)
def dv.of(Pv:Nat->List V->ar->Prop)(ax:n<=sizeLine)(h0:Pv 0 [] H)(wq:∀i ys H,i<n->Pv i ys H->cb.go i H)(gJ:∀ys H,Pv n ys H->cb.stop n H)(aw:∀i ys H,i<n->Pv i ys H->↑ys<=i)
  (aB:∀i ys H x I,i<n->Pv i ys H->cb.qM i H x I->qP Pv g de bI dK i x ys I) (hd:∀ys H,Pv n ys H->∀p,H p=none->Q ⇑p (upd H p (.lst ys))):dv cb g de bI dK Q H:=by
 refine(λi m ys H=>m=n-i/\i<=n/\Pv i ys H,(n,by simp,gx _,h0),?_);intro i m ys H (rfl,ao,p);by_cases cD:i<n
 .have Fh:=aw i ys H cD p;refine .inr (wq i ys H cD p,(),λx I y=>?_);exact aB i ys H x I cD p y (λjG I=>∃dV,dV<n-i/\dV=n-(i+1)/\i+1<=n/\Pv (i+1) jG I) λjG I r=>(n-(i+1),(),rfl,cD,r)
 .have e:i=n:=()
  subst e;exact .inl (gJ ys H p,hd ys H p)
section
variable{K:a'}{a b:Addr}{xs ys:List V}{g:gr}{cy:ea}{D:g4}{σ dK:St}{H:ar}{de:TT}{bI:TE}{Q:cz}
def dW.enum(Pv:Nat->St->ar->Prop)(h0:Pv 0 σ H)(aw:∀i σ H,i<=↑xs->Pv i σ H->aH K H a xs)
  (aB:∀i x σ H p,xs[i]?\x->Pv i σ H->H p=none->g ⇑p σ (upd H p (.tup [.int i,x])) λc8 ay=>cy {D with cp:=Pv (i+1),eX:=Pv (i+1),b3:=D.cp} c8 ay) (hd:∀σ H,Pv ↑xs σ H->D.cp σ H):dW (A8 K a) g cy D σ H:=by
 refine dW.of (n:=↑xs) Pv h0 (λi σ H ao p=>(xs,xs[i],aw i σ H (sg ao) p,by simp[ao])) (λσ H p=>(xs,aw _ σ H (b0 _) p,b0 _)) (λi σ H v I ao p y=>?_) hd;let(q,x,aF,rfl,ai,rfl):=y;exact aB i x σ H q (ai xs (aw i σ H (sg ao) p)) p aF
def dv.enum(Pv:Nat->List V->ar->Prop)(ax:↑xs<=sizeLine)(h0:Pv 0 [] H)(aw:∀i ys H,i<=↑xs->Pv i ys H->aH K H a xs/\↑ys<=i)
  (aB:∀i x ys H p,xs[i]?\x->Pv i ys H->H p=none->qP Pv g de bI dK i ⇑p ys (upd H p (.tup [.int i,x]))) (hd:∀ys H,Pv ↑xs ys H->∀p,H p=none->Q ⇑p (upd H p (.lst ys))):dv (A8 K a) g de bI dK Q H:=by
 refine dv.of (n:=↑xs) Pv ax h0 (λi ys H ao p=>(xs,xs[i],(aw i ys H (sg ao) p).1,by simp[ao])) (λys H p=>(xs,(aw _ ys H (b0 _) p).1,b0 _)) (λi ys H ao p=>(aw i ys H (sg ao) p).2) (λi zs H v I ao p y=>?_) hd;let(q,x,aF,rfl,ai,rfl):=y;exact aB i x zs H q (ai xs (aw i zs H (sg ao) p).1) p aF
def ajH{p:Addr}{x y:V}(h:b1 K H p [x,y])(q:R ((σ.set i (some x)).set j (some y)) H):u' K 2 (s7 (gu i) (s7 (gu j) y6)) ⇑p σ H R:=
 (p,_,rfl,h,rfl,x,_,rfl,y,_,rfl,rfl,q)
def vh{p:Addr}{x y:V}(q:R ((σ.set i (some x)).set j (some y)) (upd H p (.tup [x,y]))):u' K 2 (s7 (gu i) (s7 (gu j) y6)) ⇑p σ (upd H p (.tup [x,y])) R:=
 ajH (.inl (.inl aP)) q
end
theorem Sub.DG{v w:Option V}:Sub (none::none::r) (v::w::r):=by
 refine(rfl,λi u h=>?_)
 match i with
 |0=>cases h
 |1=>cases h
 |i+2=>exact h
theorem Sub.YI{v w z:Option V}:Sub (none::none::none::r) (v::w::z::r):=by
 refine(rfl,λi u h=>?_)
 match i with
 |0=>cases h
 |1=>cases h
 |2=>cases h
 |i+3=>exact h
def dv.tu{K:a'}(aw:aH K H a xs)(ax:↑xs<=sizeLine)(he:↑zs=↑xs)
  (aB:∀(i:Nat) (x z:V) (N:V->ar->Prop),xs[i]?\x->zs[i]?\z->N z H->g x dK H λc8 ay=>Sub dK c8/\bI c8 ay N) (hd:∀p,H p=none->Q ⇑p (upd H p (.lst zs))):dv (oX K a) g r9 bI dK Q H:=by
 refine dv.list (λi ys I=>I=H/\ys=zs.take i) ax (rfl,rfl) (λi ys I ao ⟨cR,e⟩=>?_) (λi x ys I ai ⟨az,aE⟩ N bc=>?_) (λys I ⟨az,aE⟩ p aq=>?_)
 .subst cR;exact(aw,by rw[e,fw];omega)
 .subst az;have ao:i<↑zs:=by rw[he];exact(cv.mp ai).1
  have e2:zs[i]?\zs[i]:=bJ ao;exact aB i x zs[i] (λy cc=>N (ys++[y]) cc) ai e2 (bc _ _ (rfl,by rw[aE,tn,e2];rfl))
 .subst az;rw[aE,<- he,kR];exact hd p aq
def dv.Zv{K:a'}(aw:b1 K H a xs)(ax:↑xs<=sizeLine)(he:↑zs=↑xs)
  (aB:∀(i:Nat) (x z:V) (N:V->ar->Prop),xs[i]?\x->zs[i]?\z->N z H->g x dK H λc8 ay=>Sub dK c8/\bI c8 ay N) (hd:∀p,H p=none->Q ⇑p (upd H p (.lst zs))):dv (BE K a) g r9 bI dK Q H:=by
 refine Ry (xs:=xs) (λi ys I=>I=H/\ys=zs.take i) ax (rfl,rfl) (λi ys I ao ⟨cR,e⟩=>?_) (λi x ys I ai ⟨az,aE⟩ N bc=>?_) (λys I ⟨az,aE⟩ p aq=>?_)
 .subst cR;exact(aw,by rw[e,fw];omega)
 .subst az;have ao:i<↑zs:=by rw[he];exact(cv.mp ai).1
  have e2:zs[i]?\zs[i]:=bJ ao;exact aB i x zs[i] (λy cc=>N (ys++[y]) cc) ai e2 (bc _ _ (rfl,by rw[aE,tn,e2];rfl))
 .subst az;rw[aE,<- he,kR];exact hd p aq
def dv.acx{lo:Int}{n:Nat}{ss:List (Option V)}{g:gr}{de:TT}{bI:TE}{dK:St}{Q:cz}{H:ar}(ax:n<=sizeLine)(he:↑ss=n)
  (aB:∀(i:Nat) (o:Option V) (ys:List V) (N:List V->ar->Prop),i<n->ss[i]?\o->N (ys++o.toList) H->g (.int (lo+i)) dK H λc8 ay=>Sub dK c8/\de c8 ay λc bq=>if c=true then bI c8 bq λy cc=>N (ys++[y]) cc else N ys bq)
  (hd:∀p,H p=none->Q ⇑p (upd H p (.lst (ss.flatMap H8)))):dv (kY lo n) g de bI dK Q H:=by
 refine dv.range (λi ys I=>I=H/\ys=(ss.take i).flatMap H8/\↑ys<=i) ax (rfl,rfl,b0 _) (λi ys I ao ⟨cR,e,bZ⟩=>bZ) (λi ys I ao ⟨az,aE,b7⟩ N bc=>?_) (λys I ⟨az,aE,_⟩ p aq=>?_)
 .subst az;have nq:i<↑ss:=()
  have e2:ss[i]?\ss[i]:=bJ nq;refine aB i ss[i] ys N ao e2 (bc _ _ (rfl,by rw[aE,tn,e2,List.flatMap_append];simp,?_));rw[c'];cases ss[i] <;> simp <;> omega
 .subst az;rw[aE,<- he,kR];exact hd p aq
theorem N4(Pv:St->ar->Prop)(zc:St->ar->Nat)(h0:Pv σ H)
  (aB:∀σ H,Pv σ H->∃b:Bool,(∀Q:Bool->ar->Prop,Q b H->c σ H Q)/\(b=true->cy {D with cp:=λaT I=>Pv aT I/\zc aT I<zc σ H,eX:=λaT I=>Pv aT I/\zc aT I<zc σ H,b3:=D.cp} σ H)/\(b=false->D.cp σ H)):Oc c cy D σ H:=by
 refine(λm σ H=>m=zc σ H/\Pv σ H,(_,rfl,h0),?_);intro m σ H (rfl,p);let(b,ah,af,aj):=aB σ H p;refine ah _ ?_;cases b with
 |true=>exact(_,λaT I ⟨sz,l⟩=>(_,l,rfl,sz),af rfl)
 |false=>exact aj rfl
theorem Sub.name:Sub (none::r) (v::r):=by
 refine(rfl,λi w h=>?_);cases i with
 |zero=>cases h
 |succ i=>exact h
def bO{x:Str}{e:Expr}(bc:X.N.Nodup)(he:bw X e bI)(ao:X.N[i]?\x:=by rfl)(ai:Loc X.env.scope x:=by exact m2 rfl)(aB:swapsWith e (some (.Name x pos')) pos.line X.env=pure false:=by rfl)(hf:X.fn x=true\/X.env.scope.names.lookup x\.local:=by first|exact .inl rfl|exact .inr rfl|assumption):gv X (.Assign [.Name x pos'] e pos) (uN bI (gu i)):=K_ bc ao ai he aB hf
def b6{x:Str}(bc:X.N.Nodup)(ao:X.N[i]?\x:=by rfl)(ai:Loc X.env.scope x:=by exact m2 rfl)(hf:X.fn x=true\/X.env.scope.names.lookup x\.local:=by first|exact .inl rfl|exact .inr rfl|assumption):nr X (.Name x pos) (gu i):=SB bc ao ai hf
def bP(au:Ae X r)(aJ:bw X a a4)(ae:bw X b cy)(aB:UZ b:=by exact λ_ _=>rfl):bw X (.Subscript a b pos) (sJ r a4 cy):=akc au aJ ae aB
def bT{k:Nat}{fd:FuncData}{x:Str}{p pos:Pos}{e:Expr}{t:eE}(F:bD X.prog X.w X.K X.av X.base cN k f fd ps sp)(au:eJ k X.A)(hm:X.av x\⇑f)(aI:q9 X.K ⇑f=true)(ae:ac X.K fd ps [])(aJ:da X (e::aK) t)(a0:hI X x:=by rfl)(fj:(x==("__debug__":Str))=false:=by decide)(he:starEach (e::aK) X.env=(p'p false (eval e X.env))::starEach aK X.env:=by rfl)(dI:(backTo pos (starEach aK X.env)).any (·.1)=false:=by rfl):bw X (.Call (.Name x p) (e::aK) [] pos) (yl sp [] xn t):=pM F au a0 hm aI ae .nil cJ aJ fj he dI
end L2
local macro_rules|`(tactic|nofun)=>do let f(s:String):=(s.splitOn " ").toArray.map fun x=>Lean.mkCIdent x.toName;let c:=f "L2.AQ L2.t2 L2.DV L2.NW L2.M0 L2.L6 L2.HQ L2.Jq L2.MD L2.g7 L2.d4 L2.Gy L2.CZ L2.Ki L2.GP L2.gu L2.y6 L2.s7 L2.u' L2.Jc L2.uN L2.HM L2.Kv L2.sJ L2.LF L2.sY L2.pT L2.BY L2.FC L2.J_ L2.Me L2.G9 L2.WB L2.WO L2.Hz L2.vb L2.wS L2.NI L2.JK L2.yl L2.Uz L2.Rk L2.Ek L2.NP L2.Lb L2.KU L2.To L2.PG L2.MY L2.K1 L2.Lc L2.Lr L2.KO L2.AR L2.JO L2.Ld L2.FQ L2.Ic L2.JJ L2.Hw L2.J2 L2.MZ L2.II L2.FO L2.r9 L2.Nz L2.Mp L2.MN L2.Ie L2.Vm L2.FM L2.Iy L2.Ng L2.Ib L2.MF L2.Lq L2.Kx L2.Nw L2.Mq L2.Um L2.PR L2.X6 L2.HY L2.Mu L2.MW L2.Ho L2.Mo L2.oI L2.Kb L2.Hv L2.Iv L2.HT L2.KR L2.J9 L2.FI L2.Kl L2.LM L2.MQ L2.M' L2.R0 L2.N8 L2.YV L2.Sj L2.WC L2.Vt L2.OY L2.OP L2.SR L2.Sd L2.PY L2.Ra L2.Tp L2.start L2.TH Nat.reduceAdd Nat.reduceSub List.replicate";let a:=f "L2.n3 L2.al2 L2.a6.xy L2.a6.iH L2.a6.block L2.a6.iQ L2.a6.aL L2.aea L2.Zz L2.apc L2.aoK L2.amj L2.ab8 L2.agL L2.ajs L2.abR L2.ame L2.aoh L2.aoP L2.afN L2.agB"++c;let b:=c++f "L2.anB L2.alx L2.aio L2.ahd L2.ant List.map_cons List.map_nil Option.bind_none Option.bind_some Option.join_some Option.join_none List.length_cons List.length_nil Nat.zero_add List.cons_append List.nil_append List.append_nil List.set_cons_zero List.set_cons_succ List.getElem?_cons_zero List.getElem?_cons_succ Option.some.injEq L2.V.int.injEq L2.V.bE.injEq L2.V.str.injEq L2.V.ref.injEq L2.V.ty.injEq exists_eq_left' exists_eq_left exists_and_left List.cons.injEq and_true true_and and_assoc Int.zero_add reduceCtorEq false_and exists_false and_false ite_true ite_false if_true if_false Bool.false_eq_true L2.H3 L2.CI false_or or_false Bool.not_true Bool.not_false decide_true decide_false";`(tactic|((try dsimp only [$[$a:ident],*]);(try simp only [$[$b:ident],*])))
local macro_rules | `(tactic| walk_at "B")=>`(tactic| first | rfl | (dsimp only [L2.a6.block];done) | (dsimp only [L2.a6.block];exact rfl))
local macro_rules | `(tactic| walk_at "F")=>`(tactic| exact ⟨rfl,rfl,rfl,∅,rfl,∅,∅⟩)
namespace L2
open PySem
def cn{P:Program}{w:World}{K:a'}{av:Str->Option Value}{base:Heap}{C:hP}{m n:Nat}{f a:Addr}{fd b:FuncData}{ps q:List Str}{sp S:bH}(h:bD P w K av base C m f fd ps sp)(g:bD P w K av base C n f fd ps sp->bD P w K av base C (n+1) a b q S)(hm:m<=n:=by decide):bD P w K av base C (n+1) a b q S:=g (h.mono hm)
end L2
set_option hygiene false
local macro_rules | `(tactic| walk_at "O")=>`(tactic| (intro vs H Q E h;repeat (first | (obtain ⟨rfl,_⟩:=h;rfl) | (obtain ⟨_,h⟩:=h))))
set_option hygiene true
set_option hygiene false
local macro_rules | `(tactic| ac_rfl)=>`(tactic| refine Xh fun t8 ba=>?_)
local macro_rules | `(tactic| exists $e,0)=>`(tactic| refine DA $e (fun i6 bB=>?_) fun t8 ba=>?_)
local macro_rules | `(tactic| exists $e,1)=>`(tactic| refine DA $e (fun D bB=>?_) fun t8 ba=>?_)
local macro_rules | `(tactic| exists $e,3)=>`(tactic| refine OF $e (fun i6 bB=>?_) fun t8 ba=>?_)
local macro_rules | `(tactic| exists $e,4)=>`(tactic| refine OF $e (fun D bB=>?_) fun t8 ba=>?_)
local macro_rules | `(tactic| exists $e,9)=>`(tactic| refine ($e) (by walk_at "O") (fun _ _ _ s H vs Q E au h=>?_))
set_option hygiene true
namespace My
open PySem L2
local macro_rules|`(~~~$x)=>`(some (L2.V.ref $x))
abbrev kl:List Str:=["self","name"]
abbrev lj:List Str:=["plan","name","turn"]
abbrev kF:List Str:=["self","name","start","end","off","near","least"]
abbrev vy:List Str:=["spans","name"]
abbrev DP:List Str:=["self","good"]
abbrev Hl:List Str:=["self","low","high"]
abbrev Ah:List Str:=["word","signs","most"]
abbrev ri:List Str:=["crossing","one","other"]
abbrev si:List Str:=["crossing","size","spans"]
abbrev tN:List Str:=["plan","name"]
abbrev BM:List Str:=["self","choices"]
abbrev Am:List Str:=["word","most_figures"]
abbrev CN:List Str:=["_law_script","_law_k","_law_many"]
abbrev B4:List Str:=["self","kind","name","start","end","off","near","least"]
abbrev y1:List Str:=["name","rows"]
abbrev u0:List Str:=["book","name"]
abbrev vz:List Str:=["plan","turn","many"]
abbrev uq:List Str:=["_law_script"]
abbrev uU:List Str:=["self","row","told"]
abbrev Fp:List Str:=["reader","places","start"]
abbrev BZ:List Str:=["sort","name","start","end","off","near","least"]
abbrev BV:List Str:=["places","way","second"]
abbrev AM:List Str:=["plan","turn"]
abbrev Ea:List Str:=["size","spans","name"]
abbrev zt:List Str:=["crossing","text"]
abbrev wW:List Str:=["reader","part"]
abbrev GN:List Str:=["_law_places","_law_one","_law_other"]
abbrev A4:List Str:=["_law_desk","_law_row"]
abbrev xO:List Str:=["self","way"]
abbrev zK:List Str:=["self","way","at"]
abbrev yx:List Str:=["self","way","other","at"]
abbrev JB:List Str:=["word","low","high"]
abbrev HZ:List Str:=["reader","ways"]
abbrev Ey:List Str:=["reader","places","ways"]
abbrev LO:List Str:=["begin","rows"]
abbrev Eo:List Str:=["places","way","place"]
abbrev BA:List Str:=["crossing","spans"]
abbrev Ij:List Str:=["way","size","spans"]
abbrev EX:List Str:=["reader","crossing","size","spans"]
abbrev CA:List Str:=["size","spans","place"]
abbrev D0:List Str:=["crossing","one","other","since_one","since_other"]
abbrev Aq:List Str:=["crossing","size","rows"]
abbrev G1:List Str:=["_law_places","_law_ways_here"]
abbrev BP:List Str:=["_law_script","_law_places","_law_ways_here"]
abbrev Ex:List Str:=["_law_made","_law_spans_here"]
abbrev E4:List Str:=["_law_places","_law_ways_here","_law_rows_here"]
abbrev D5:List Str:=["_law_way","_law_row"]
abbrev Ci:List Str:=["_law_script","_law_desk","_law_rows_here","_law_name","_law_far"]
abbrev Bs:List Str:=["_law_script","_law_made","_law_spans_here","_law_texts","_law_desk","_law_answer","_law_far","_law_rows_here","_law_way","_law_shown"]
abbrev B9:List Str:=["self","places","ways"]
abbrev CE:List Str:=["self","crossing","size","spans"]
abbrev ER:List Str:=["self","row"]
abbrev Br:List Str:=["self","first","parts","text"]
abbrev BK:List Str:=["self","first","parts"]
abbrev Fe:List Str:=["called","begin","turns","name"]
abbrev Az:List Str:=["name","begin","turns"]
abbrev Lg:List Str:=["begin","rows","figures","texts"]
abbrev Nh:List Str:=["size","spans","place","name","begin","turns","others"]
abbrev Gp:List Str:=["at","span","place"]
abbrev La:List Str:=["later","many","begin","size"]
seal L2.da L2.bw L2.gv L2.g9 L2.h6 L2.f5
def lX(K:a')(a:Addr)(xs:List V):Prop:=∀H:ar,b1 K H a xs
def aoz{K:a'}{a5:Array Value}{n:Nat}(x:K.lookup a\(.type "tuple",c9,.seq a5 n,aX))(y:a5.size<=sizeLine)(z:bW xs a5.toList):lX K a xs:=
 λ_=>.inr (_,a5,n,x,rfl,rfl,y,z)
def Ka(w:World)(K:a')(a:Addr)(bF:List Str):Prop:=∃aK n,(a==sysModules)=false/\K.lookup a\(.type "dict",none,.dict aK n,#[])/\Lf w.params aK.toList/\bW (bF.map V.str) (aK.toList.map (·.key))
def aa9{w:World}{K:a'}{n:Nat}{bF:List Str}(x:K.lookup a\(.type "dict",none,.dict aK n,#[]))(y:Lf w.params aK.toList)(u:(a==sysModules)=false)(z:bW (bF.map V.str) (aK.toList.map (·.key))):Ka w K a bF:=(aK,n,u,x,y,z)
noncomputable def top(i:Nat):Stmt:=PySem.Challenge.pw_lampway_k90_whole_round_at_a_desk.main.body.getD i (.Pass (0,0,0,0))
def amd:b2 ["text"] ["text"] (br (top 16)):=∅
def afy:b2 Ah Ah (br (top 17)):=∅
def O_:b2 Am Am (br (top 18)):=∅
def PN:b2 ["word","low","high","number"] JB (br (top 19)):=∅
def acQ:b2 ["word"] ["word"] (br (top 20)):=∅
def aj':b2 ["word"] ["word"] (br (top 21)):=∅
def ab5:b2 ["text"] ["text"] (br (top 24)):=∅
def PF:b2 ["reader","places"] ["reader"] (br (top 38)):=∅
def Pt:b2 ["reader","ways","name"] HZ (br (top 39)):=∅
def agk:b2 Fp Fp (br (top 40)):=∅
def afj:b2 BZ BZ (br (top 41)):=∅
def rK:b2 ["reader","places","ways","sort","name","start","end","off","near","least"] Ey (br (top 42)):=∅
def x8:b2 ["text","rows","places","ways","reader"] ["text"] (br (top 43)):=∅
def Rj:b2 ["name","rows","signs"] y1 (br (top 49)):=∅
def JR:b2 Lg LO (br (top 50)):=∅
def xV:b2 ["texts","rows","place","row","text"] ["texts"] (br (top 51)):=∅
def W6:b2 ["places","way","place","steps"] Eo (br (top 53)):=∅
def ZB:b2 BV BV (br (top 54)):=∅
def JH:b2 ["crossing","one","other","way","second"] ri (br (top 55)):=∅
def Ig:b2 ["crossing","one","other","way","second"] ri (br (top 56)):=∅
def Xd:b2 ["crossing","spans","name"] BA (br (top 96)):=∅
def r8:b2 ["crossing","size","spans","place","span","name","begin","turns","way","needed"] si (br (top 99)):=∅
def zj:b2 ["crossing","size","spans","since","name","one","other"] si (br (top 102)):=∅
def apR:b2 lj lj (br (top 79)):=∅
def NF:b2 ["plan","turn","shown","name"] AM (br (top 80)):=∅
def alQ:b2 lj lj (br (top 81)):=∅
def V1:b2 ["plan","name","wait"] tN (br (top 82)):=∅
def wh:b2 ["marks","size","steps","untils","place"] ["marks"] (br (top 84)):=∅
def afU:b2 ["marks"] ["marks"] (br (top 85)):=∅
def amI:b2 vy vy (br (top 90)):=∅
def xw:b2 ["size","spans","name","marks","begin","turns","step"] Ea (br (top 91)):=∅
def tB:b2 ["way","size","spans","shown","begin","turns","step"] Ij (br (top 92)):=∅
def Q1:b2 ["reader","size"] ["reader"] (br (top 93)):=∅
def AY:b2 ["reader","crossing","size","spans","name","begin","turns"] EX (br (top 94)):=∅
def xP:b2 ["crossing","text","rows","size","spans","reader"] zt (br (top 95)):=∅
def yi:b2 Nh CA (br (top 98)):=∅
def wf:b2 ["crossing","one","other","since_one","since_other","between","turn","steps"] D0 (br (top 101)):=∅
def ye:b2 ["crossing","size","rows","spans","name","begin","turns"] Aq (br (top 104)):=∅
def OZ:b2 ["reader","name"] ["reader"] (br (top 128)):=∅
def VL:b2 ["reader","turn"] ["reader"] (br (top 130)):=∅
def abG:b2 wW wW (br (top 133)):=∅
def Fb:b2 ["told","reader","first","parts"] ["told"] (br (top 134)):=∅
def u6:b2 ["row","told","line_end","text","first","parts"] ["row"] (br (top 135)):=∅
def ZD:b2 u0 u0 (br (top 149)):=∅
def acC:b2 ["shown"] ["shown"] (br (top 150)):=∅
def anE:b2 lj lj (br (top 151)):=∅
def K2:b2 ["plan","name","wait","turn"] tN (br (top 152)):=∅
def ah7:b2 vz vz (br (top 153)):=∅
def On:b2 ["_law_script","_law_k","_law_many","_law_cell","_law_seed"] CN (br (top 158)):=∅
def pX:b2 ["_law_script","_law_places","_law_ways_here","_law_k","_law_sort","_law_start","_law_end","_law_name","_law_numbers"] uq (br (top 159)):=∅
def yg:b2 ["_law_places","_law_one","_law_other","_law_inside","_law_place"] GN (br (top 160)):=∅
def vD:b2 ["_law_places","_law_ways_here","_law_groups_here","_law_way","_law_put","_law_group"] G1 (br (top 161)):=∅
def kT:b2 ["_law_script","_law_places","_law_ways_here","_law_spans_here","_law_at","_law_group","_law_length","_law_way","_law_k","_law_i","_law_turns"] BP (br (top 162)):=∅
def wg:b2 ["_law_desk","_law_row","_law_told_here","e"] A4 (br (top 163)):=∅
def tD:b2 ["_law_made","_law_spans_here","_law_crossing","_law_way","_law_plan","_law_one"] Ex (br (top 164)):=∅
def uB:b2 ["_law_places","_law_ways_here","_law_rows_here","_law_one","_law_other","_law_behind","_law_turn","_law_back"] E4 (br (top 165)):=∅
def nj:b2 ["_law_way","_law_row","_law_ready","_law_fade","_law_starts","_law_ahead","_law_behind","_law_follows","_law_k","_law_one","_law_turns","_law_least"] D5 (br (top 166)):=∅
def Uf:b2 ["_law_script","_law_desk","_law_rows_here","_law_name","_law_far","_law_words_of","_law_k","_law_at","_law_wait"] Ci (br (top 167)):=∅
def mc:b2 Bs uq (br (top 168)):=∅
def amG:b2 xO xO (br (fF (top 5) 0)):=∅
def anT:b2 zK zK (br (fF (top 6) 0)):=∅
def apj:b2 yx yx (br (fF (top 7) 0)):=∅
def an9:b2 kl kl (br (fF (top 9) 0)):=∅
def aqc:b2 uU uU (br (fF (top 23) 0)):=∅
def ir:b2 ["self"] ["self"] (br (fF (top 23) 1)):=∅
def ab9:b2 ["self"] ["self"] (br (fF (top 23) 2)):=∅
def af6:b2 DP DP (br (fF (top 23) 4)):=∅
def PD:b2 ["self","choices","found"] BM (br (fF (top 23) 5)):=∅
def Zk:b2 ["self","low","high","found"] Hl (br (fF (top 23) 6)):=∅
def acq:b2 ["self"] ["self"] (br (fF (top 23) 7)):=∅
def afM:b2 B4 B4 (br (fF (top 26) 0)):=∅
def ag1:b2 kF kF (br (fF (top 27) 0)):=∅
def ajT:b2 ["self"] ["self"] (br (fF (top 27) 1)):=∅
def agA:b2 ["self"] ["self"] (br (fF (top 27) 2)):=∅
def Z_:b2 kF kF (br (fF (top 28) 0)):=∅
def lv:b2 ["self"] ["self"] (br (fF (top 28) 1)):=∅
def ao0:b2 ["self"] ["self"] (br (fF (top 28) 2)):=∅
def ac8:b2 kF kF (br (fF (top 29) 0)):=∅
def bv:b2 ["self"] ["self"] (br (fF (top 29) 1)):=∅
def aom:b2 ["self"] ["self"] (br (fF (top 29) 2)):=∅
def Gs:b2 ["self","places","ways","number","way"] B9 (br (fF (top 37) 0)):=∅
def ZY:b2 ["self"] ["self"] (br (fF (top 37) 1)):=∅
def afm:b2 kl kl (br (fF (top 37) 2)):=∅
def apG:b2 kl kl (br (fF (top 37) 3)):=∅
def P9:b2 ["self","crossing","size","spans","name"] CE (br (fF (top 89) 0)):=∅
def aif:b2 ["self"] ["self"] (br (fF (top 156) 0)):=∅
def De:b2 ["self","row","first","parts","text"] ER (br (fF (top 156) 1)):=∅
def Zh:b2 ["self","first","parts","text","crossing","stages"] Br (br (fF (top 156) 2)):=∅
def O3:b2 ["self","first","parts","plan"] BK (br (fF (top 156) 4)):=∅
noncomputable abbrev ww:List (Str×V):=[(p'p (aa ".") (.str (aa "stop"))),(p'p (aa ":") (.str (aa "ready"))),(p'p (aa "|") (.str (aa "free"))),(p'p (aa "~") (.str (aa "fade")))]
noncomputable abbrev Ot:List (Str×V):=[(p'p (aa "stop") (.str (aa "."))),(p'p (aa "ready") (.str (aa ":"))),(p'p (aa "free") (.str (aa "|"))),(p'p (aa "fade") (.str (aa "~")))]
set_option genInjectivity false in
set_option genInjectivity false in
structure bA where
 {xc Hh C3 Ps Mx wn y5 AF GV MR Hf Dp zW Kp Hk ED Cq Io Ew Bi Al wM y2 GQ DQ IX F4 MV Cz Cj C5 K8 Ec C0 z9 CT Bf Fc Tl KN D2 MP Cv wQ BH No Bu DM Fl Et IL Lu Es AE Fm C_ Ch CD G' xx y9 xX x7 va Gc EN CO wI C4 xC Bl wX Bt ii zG D7 Cp xv B5 Bx xr vU Re lc An y3 x9 Af yj gz E1 i2 i_ jc hu YU YN g_ V' h3 sf ad eW eI eL Cg GE YC Ut O' U_ XF U0 T' TP Zr K3:Addr}
 {zD I2 AP I3 IK H0 yV Dw IQ Jt HF AD ym G0 Ke EH C9 Mm Eu DN BN DD AS Mz bn G7 J3 MO Ep CP Ds Lw Em Bh yQ D1 E8 AJ MM FK Ft M3 DC w7 CM B3 A6 am Aw D9 KW HU A0 Au Bb D6 Be BC CW D' DH E' EK y7 Gn Im IB Er ME EZ HI CL Mh Gx ET GI Gw Fd Jd I8 B0 zB Ni Ag CB AH Go Ca Ff:FuncData}
 {V3 V7 RE YH YP TN UE NX T4 bi QP N0 O2 V2 QW PA R8 T6:Value}
noncomputable abbrev Oj(t:bA):List (Str×V):=[(p'p (aa "crossing") (⇑t.GE)),(p'p (aa "plan") (⇑t.YC)),(p'p (aa "stages") (⇑t.Ut)),(p'p (aa "colours") (⇑t.O')),(p'p (aa "wait") (⇑t.U_)),(p'p (aa "longest") (⇑t.XF)),(p'p (aa "draw") (⇑t.U0)),(p'p (aa "turn") (⇑t.T')),(p'p (aa "worst") (⇑t.TP)),(p'p (aa "shortest") (⇑t.Zr))]
def _root_.L2.bV.nb{K:a'}{x qual:Str}{st:Stmt}{fd:FuncData}(F:bV K x qual st f fd)(ps)(h:∀(dC doc pm:Value) (an:Option Addr) (fG eX:Value) (us:List Value),↑us=↑ps->bindArgs (w1 x qual (E5 st) (wa st) (br st) .none dC doc pm an fG eX) (us,[])=pure (ps.zip us):=by intro _ _ _ _ _ _;first|exact gp λ_=>rfl|exact gy λ_ _ _=>rfl|exact ht λ_ _=>rfl|exact BW λ_ _ _ _ _ _ _=>rfl|exact Ar λ_ _ _ _=>rfl|exact U4 λ_ _ _ _ _=>rfl|exact aaU λ_ _ _ _ _ _ _ _=>rfl):ac K fd ps []:=F.binds h
section
variable(w:World)(K:a')(av:Str->Option Value)(t:bA)
abbrev a0_aa:=(av "words"\⇑t.xc)/\(bV K "words" "words" (top 16) t.xc t.zD)/\(av "is_made_of"\⇑t.Hh)/\(bV K "is_made_of" "is_made_of" (top 17) t.Hh t.I2)/\(av "is_number"\⇑t.C3)/\(bV K "is_number" "is_number" (top 18) t.C3 t.AP)/\(av "figured"\⇑t.Ps)/\(bV K "figured" "figured" (top 19) t.Ps t.I3)/\(av "turned"\⇑t.Mx)/\(bV K "turned" "turned" (top 20) t.Mx t.IK)
abbrev a0_ab:=(av "is_name"\⇑t.wn)/\(bV K "is_name" "is_name" (top 21) t.wn t.H0)/\(av "readers"\⇑t.y5)/\(bV K "readers" "readers" (top 24) t.y5 t.yV)/\(av "read_ring"\⇑t.AF)/\(bV K "read_ring" "read_ring" (top 38) t.AF t.Dw)/\(av "read_new_name"\⇑t.GV)/\(bV K "read_new_name" "read_new_name" (top 39) t.GV t.IQ)/\(av "read_end"\⇑t.MR)/\(bV K "read_end" "read_end" (top 40) t.MR t.Jt)
abbrev a0_ac:=(av "made_way"\⇑t.Hf)/\(bV K "made_way" "made_way" (top 41) t.Hf t.HF)/\(av "read_way"\⇑t.Dp)/\(bV K "read_way" "read_way" (top 42) t.Dp t.AD)/\(av "read_crossing"\⇑t.zW)/\(bV K "read_crossing" "read_crossing" (top 43) t.zW t.ym)/\(av "drawn_way"\⇑t.Kp)/\(bV K "drawn_way" "drawn_way" (top 49) t.Kp t.G0)/\(av "drawn"\⇑t.Hk)/\(bV K "drawn" "drawn" (top 50) t.Hk t.Ke)
abbrev a0_ad:=(av "undrawn"\⇑t.ED)/\(bV K "undrawn" "undrawn" (top 51) t.ED t.EH)/\(av "in_bow"\⇑t.Cq)/\(bV K "in_bow" "in_bow" (top 53) t.Cq t.C9)/\(av "bows_cross"\⇑t.Io)/\(bV K "bows_cross" "bows_cross" (top 54) t.Io t.Mm)/\(av "meet"\⇑t.Ew)/\(bV K "meet" "meet" (top 55) t.Ew t.Eu)/\(av "gap"\⇑t.Bi)/\(bV K "gap" "gap" (top 56) t.Bi t.DN)
abbrev a0_ae:=(av "refuse_never"\⇑t.Al)/\(bV K "refuse_never" "refuse_never" (top 96) t.Al t.BN)/\(av "refuse_short"\⇑t.wM)/\(bV K "refuse_short" "refuse_short" (top 99) t.wM t.DD)/\(av "refuse_clash"\⇑t.y2)/\(bV K "refuse_clash" "refuse_clash" (top 102) t.y2 t.AS)/\(av "colour"\⇑t.GQ)/\(bV K "colour" "colour" (top 79) t.GQ t.Mz)/\(av "colours"\⇑t.DQ)/\(bV K "colours" "colours" (top 80) t.DQ t.bn)
abbrev a0_af:=(av "next_free"\⇑t.IX)/\(bV K "next_free" "next_free" (top 81) t.IX t.G7)/\(av "longest"\⇑t.F4)/\(bV K "longest" "longest" (top 82) t.F4 t.J3)/\(av "until_marked"\⇑t.MV)/\(bV K "until_marked" "until_marked" (top 84) t.MV t.MO)/\(av "since_marked"\⇑t.Cz)/\(bV K "since_marked" "since_marked" (top 85) t.Cz t.Ep)/\(av "spans_of"\⇑t.Cj)/\(bV K "spans_of" "spans_of" (top 90) t.Cj t.CP)
abbrev a0_ag:=(av "free_marks"\⇑t.C5)/\(bV K "free_marks" "free_marks" (top 91) t.C5 t.Ds)/\(av "lamp"\⇑t.K8)/\(bV K "lamp" "lamp" (top 92) t.K8 t.Lw)/\(av "read_size"\⇑t.Ec)/\(bV K "read_size" "read_size" (top 93) t.Ec t.Em)/\(av "read_span"\⇑t.C0)/\(bV K "read_span" "read_span" (top 94) t.C0 t.Bh)/\(av "read_plan"\⇑t.z9)/\(bV K "read_plan" "read_plan" (top 95) t.z9 t.yQ)
abbrev a0_ah:=(av "turns_to_next_begin"\⇑t.CT)/\(bV K "turns_to_next_begin" "turns_to_next_begin" (top 98) t.CT t.D1)/\(av "refuse_clash_of"\⇑t.Bf)/\(bV K "refuse_clash_of" "refuse_clash_of" (top 101) t.Bf t.E8)/\(av "made_plan"\⇑t.Fc)/\(bV K "made_plan" "made_plan" (top 104) t.Fc t.AJ)/\(av "read_name"\⇑t.Tl)/\(bV K "read_name" "read_name" (top 128) t.Tl t.MM)/\(av "read_turn"\⇑t.KN)/\(bV K "read_turn" "read_turn" (top 130) t.KN t.FK)
abbrev a0_ai:=(av "read_part"\⇑t.D2)/\(bV K "read_part" "read_part" (top 133) t.D2 t.Ft)/\(av "read_words"\⇑t.MP)/\(bV K "read_words" "read_words" (top 134) t.MP t.M3)/\(av "read_saying"\⇑t.Cv)/\(bV K "read_saying" "read_saying" (top 135) t.Cv t.DC)/\(av "looked_up"\⇑t.wQ)/\(bV K "looked_up" "looked_up" (top 149) t.wQ t.w7)/\(av "colours_row"\⇑t.BH)/\(bV K "colours_row" "colours_row" (top 150) t.BH t.CM)
abbrev a0_aj:=(av "wait_row"\⇑t.No)/\(bV K "wait_row" "wait_row" (top 151) t.No t.B3)/\(av "longest_row"\⇑t.Bu)/\(bV K "longest_row" "longest_row" (top 152) t.Bu t.A6)/\(av "draw_rows"\⇑t.DM)/\(bV K "draw_rows" "draw_rows" (top 153) t.DM t.am)/\(av "_law_draw"\⇑t.Fl)/\(bV K "_law_draw" "_law_draw" (top 158) t.Fl t.Aw)/\(av "_law_ways"\⇑t.Et)/\(bV K "_law_ways" "_law_ways" (top 159) t.Et t.D9)
abbrev a0_ak:=(av "_law_meet"\⇑t.IL)/\(bV K "_law_meet" "_law_meet" (top 160) t.IL t.KW)/\(av "_law_groups"\⇑t.Lu)/\(bV K "_law_groups" "_law_groups" (top 161) t.Lu t.HU)/\(av "_law_spans"\⇑t.Es)/\(bV K "_law_spans" "_law_spans" (top 162) t.Es t.A0)/\(av "_law_told"\⇑t.AE)/\(bV K "_law_told" "_law_told" (top 163) t.AE t.Au)/\(av "_law_rows"\⇑t.Fm)/\(bV K "_law_rows" "_law_rows" (top 164) t.Fm t.Bb)
abbrev a0_al:=(av "_law_safe"\⇑t.C_)/\(bV K "_law_safe" "_law_safe" (top 165) t.C_ t.D6)/\(av "_law_ordered"\⇑t.Ch)/\(bV K "_law_ordered" "_law_ordered" (top 166) t.Ch t.Be)/\(av "_law_waits"\⇑t.CD)/\(bV K "_law_waits" "_law_waits" (top 167) t.CD t.BC)/\(av "law"\⇑t.G')/\(bV K "law" "law" (top 168) t.G' t.CW)/\(av "Never"\⇑t.ad)/\(dM K ⇑t.ad "__init__"\(some ⇑t.xx))
abbrev a0_am:=(bV K "__init__" "Never.__init__" (fF (top 5) 0) t.xx t.D')/\(av "Short"\⇑t.eW)/\(dM K ⇑t.eW "__init__"\(some ⇑t.y9))/\(bV K "__init__" "Short.__init__" (fF (top 6) 0) t.y9 t.DH)/\(av "Clash"\⇑t.eI)/\(dM K ⇑t.eI "__init__"\(some ⇑t.xX))/\(bV K "__init__" "Clash.__init__" (fF (top 7) 0) t.xX t.E')/\(av "NoName"\⇑t.eL)/\(dM K ⇑t.eL "__init__"\(some ⇑t.x7))/\(bV K "__init__" "NoName.__init__" (fF (top 9) 0) t.x7 t.EK)
abbrev a0_an:=(av "RowReader"\⇑t.gz)/\(dM K ⇑t.gz "__init__"\(some ⇑t.va))/\(bV K "__init__" "RowReader.__init__" (fF (top 23) 0) t.va t.y7)/\(dM K ⇑t.gz "ahead"\(some ⇑t.Gc))/\(bV K "ahead" "RowReader.ahead" (fF (top 23) 1) t.Gc t.Gn)/\(dM K ⇑t.gz "has_more"\(some ⇑t.EN))/\(bV K "has_more" "RowReader.has_more" (fF (top 23) 2) t.EN t.Im)/\(dM K ⇑t.gz "take"\(some ⇑t.CO))/\(bV K "take" "RowReader.take" (fF (top 23) 4) t.CO t.IB)/\(dM K ⇑t.gz "one_of"\(some ⇑t.wI))
abbrev a0_ao:=(bV K "one_of" "RowReader.one_of" (fF (top 23) 5) t.wI t.Er)/\(dM K ⇑t.gz "figures"\(some ⇑t.C4))/\(bV K "figures" "RowReader.figures" (fF (top 23) 6) t.C4 t.ME)/\(dM K ⇑t.gz "finish"\(some ⇑t.xC))/\(bV K "finish" "RowReader.finish" (fF (top 23) 7) t.xC t.EZ)/\(av "Way"\⇑t.E1)/\(dM K ⇑t.E1 "__init__"\(some ⇑t.Bl))/\(bV K "__init__" "Way.__init__" (fF (top 26) 0) t.Bl t.HI)/\(av "CarWay"\⇑t.i2)/\(dM K ⇑t.i2 "__init__"\(some ⇑t.wX))
abbrev a0_ap:=(bV K "__init__" "CarWay.__init__" (fF (top 27) 0) t.wX t.CL)/\(dM K ⇑t.i2 "ready"\(some ⇑t.Bt))/\(bV K "ready" "CarWay.ready" (fF (top 27) 1) t.Bt t.Mh)/\(dM K ⇑t.i2 "fade"\(some ⇑t.ii))/\(bV K "fade" "CarWay.fade" (fF (top 27) 2) t.ii t.Gx)/\(av "FootWay"\⇑t.i_)/\(dM K ⇑t.i_ "__init__"\(some ⇑t.zG))/\(bV K "__init__" "FootWay.__init__" (fF (top 28) 0) t.zG t.ET)/\(dM K ⇑t.i_ "ready"\(some ⇑t.D7))/\(bV K "ready" "FootWay.ready" (fF (top 28) 1) t.D7 t.GI)
abbrev a0_aq:=(dM K ⇑t.i_ "fade"\(some ⇑t.Cp))/\(bV K "fade" "FootWay.fade" (fF (top 28) 2) t.Cp t.Gw)/\(av "TramWay"\⇑t.jc)/\(dM K ⇑t.jc "__init__"\(some ⇑t.xv))/\(bV K "__init__" "TramWay.__init__" (fF (top 29) 0) t.xv t.Fd)/\(dM K ⇑t.jc "ready"\(some ⇑t.B5))/\(bV K "ready" "TramWay.ready" (fF (top 29) 1) t.B5 t.Jd)/\(dM K ⇑t.jc "fade"\(some ⇑t.Bx))/\(bV K "fade" "TramWay.fade" (fF (top 29) 2) t.Bx t.I8)/\(av "Crossing"\⇑t.hu)
abbrev a0_ar:=(dM K ⇑t.hu "__init__"\(some ⇑t.xr))/\(bV K "__init__" "Crossing.__init__" (fF (top 37) 0) t.xr t.B0)/\(dM K ⇑t.hu "names"\(some ⇑t.vU))/\(bV K "names" "Crossing.names" (fF (top 37) 1) t.vU t.zB)/\(dM K ⇑t.hu "number"\(some ⇑t.Re))/\(bV K "number" "Crossing.number" (fF (top 37) 2) t.Re t.Ni)/\(dM K ⇑t.hu "called"\(some ⇑t.lc))/\(bV K "called" "Crossing.called" (fF (top 37) 3) t.lc t.Ag)/\(av "Plan"\⇑t.g_)/\(dM K ⇑t.g_ "__init__"\(some ⇑t.An))
abbrev a0_as:=(bV K "__init__" "Plan.__init__" (fF (top 89) 0) t.An t.CB)/\(av "Desk"\⇑t.h3)/\(dM K ⇑t.h3 "__init__"\(some ⇑t.y3))/\(bV K "__init__" "Desk.__init__" (fF (top 156) 0) t.y3 t.AH)/\(dM K ⇑t.h3 "say"\(some ⇑t.x9))/\(bV K "say" "Desk.say" (fF (top 156) 1) t.x9 t.Go)/\(dM K ⇑t.h3 "take_text"\(some ⇑t.Af))/\(bV K "take_text" "Desk.take_text" (fF (top 156) 2) t.Af t.Ca)/\(dM K ⇑t.h3 "answer_of_plan"\(some ⇑t.yj))/\(bV K "answer_of_plan" "Desk.answer_of_plan" (fF (top 156) 4) t.yj t.Ff)
abbrev a0_at:=(gh K t.gz)/\(n8 K t.gz t.va)/\(hj K t.gz "ahead" t.Gc)/\(hj K t.gz "has_more" t.EN)/\(hj K t.gz "take" t.CO)/\(hj K t.gz "one_of" t.wI)/\(hj K t.gz "figures" t.C4)/\(hj K t.gz "finish" t.xC)/\(cY K t.gz "row")/\(cY K t.gz "told")
abbrev a0_au:=(cY K t.gz "place")/\(gh K t.E1)/\(gh K t.i2)/\(n8 K t.i2 t.wX)/\(hj K t.i2 "ready" t.Bt)/\(hj K t.i2 "fade" t.ii)/\(cY K t.i2 "kind")/\(cY K t.i2 "name")/\(cY K t.i2 "start")/\(cY K t.i2 "end")
abbrev a0_av:=(cY K t.i2 "off")/\(cY K t.i2 "near")/\(cY K t.i2 "least")/\(gh K t.i_)/\(n8 K t.i_ t.zG)/\(hj K t.i_ "ready" t.D7)/\(hj K t.i_ "fade" t.Cp)/\(cY K t.i_ "kind")/\(cY K t.i_ "name")/\(cY K t.i_ "start")
abbrev a0_aw:=(cY K t.i_ "end")/\(cY K t.i_ "off")/\(cY K t.i_ "near")/\(cY K t.i_ "least")/\(gh K t.jc)/\(n8 K t.jc t.xv)/\(hj K t.jc "ready" t.B5)/\(hj K t.jc "fade" t.Bx)/\(cY K t.jc "kind")/\(cY K t.jc "name")
abbrev a0_ax:=(cY K t.jc "start")/\(cY K t.jc "end")/\(cY K t.jc "off")/\(cY K t.jc "near")/\(cY K t.jc "least")/\(gh K t.hu)/\(n8 K t.hu t.xr)/\(hj K t.hu "names" t.vU)/\(hj K t.hu "number" t.Re)/\(hj K t.hu "called" t.lc)
abbrev a0_ay:=(cY K t.hu "places")/\(cY K t.hu "ways")/\(cY K t.hu "numbers")/\(av "Stages"\⇑t.YU)/\(gh K t.YU)/\(av "Keeper"\⇑t.YN)/\(gh K t.YN)/\(gh K t.g_)/\(n8 K t.g_ t.An)/\(cY K t.g_ "crossing")
abbrev a0_az:=(cY K t.g_ "size")/\(cY K t.g_ "spans")/\(cY K t.g_ "lamps")/\(cY K t.g_ "untils")/\(av "Wanted"\⇑t.V')/\(gh K t.V')/\(gh K t.h3)/\(n8 K t.h3 t.y3)/\(hj K t.h3 "say" t.x9)/\(hj K t.h3 "take_text" t.Af)
abbrev a0_ba:=(hj K t.h3 "answer_of_plan" t.yj)/\(cY K t.h3 "crossings")/\(cY K t.h3 "plans")/\(cY K t.h3 "keepers")/\(av "LampError"\⇑t.sf)/\(Px K t.sf "__init__")/\(zi K t.ad)/\(rk K t.ad t.xx)/\(cY K t.ad "way")/\(ry K t.ad)
abbrev a0_bb:=(jH K ⇑t.ad ⇑t.ad\true)/\(jH K ⇑t.ad ⇑t.eW\false)/\(jH K ⇑t.ad ⇑t.eI\false)/\(jH K ⇑t.ad ⇑t.eL\false)/\(hz K ⇑t.ad ⇑t.sf\true)/\(hz K ⇑t.ad ⇑t.ad\true)/\(hz K ⇑t.ad ⇑t.eW\false)/\(hz K ⇑t.ad ⇑t.eI\false)/\(hz K ⇑t.ad ⇑t.eL\false)/\(zi K t.eW)
abbrev a0_bc:=(rk K t.eW t.y9)/\(cY K t.eW "way")/\(cY K t.eW "at")/\(ry K t.eW)/\(jH K ⇑t.eW ⇑t.ad\false)/\(jH K ⇑t.eW ⇑t.eW\true)/\(jH K ⇑t.eW ⇑t.eI\false)/\(jH K ⇑t.eW ⇑t.eL\false)/\(hz K ⇑t.eW ⇑t.sf\true)/\(hz K ⇑t.eW ⇑t.ad\false)
abbrev a0_bd:=(hz K ⇑t.eW ⇑t.eW\true)/\(hz K ⇑t.eW ⇑t.eI\false)/\(hz K ⇑t.eW ⇑t.eL\false)/\(zi K t.eI)/\(rk K t.eI t.xX)/\(cY K t.eI "way")/\(cY K t.eI "other")/\(cY K t.eI "at")/\(ry K t.eI)/\(jH K ⇑t.eI ⇑t.ad\false)
abbrev a0_be:=(jH K ⇑t.eI ⇑t.eW\false)/\(jH K ⇑t.eI ⇑t.eI\true)/\(jH K ⇑t.eI ⇑t.eL\false)/\(hz K ⇑t.eI ⇑t.sf\true)/\(hz K ⇑t.eI ⇑t.ad\false)/\(hz K ⇑t.eI ⇑t.eW\false)/\(hz K ⇑t.eI ⇑t.eI\true)/\(hz K ⇑t.eI ⇑t.eL\false)/\(zi K t.eL)/\(rk K t.eL t.x7)
abbrev a0_bf:=(cY K t.eL "name")/\(ry K t.eL)/\(jH K ⇑t.eL ⇑t.ad\false)/\(jH K ⇑t.eL ⇑t.eW\false)/\(jH K ⇑t.eL ⇑t.eI\false)/\(jH K ⇑t.eL ⇑t.eL\true)/\(hz K ⇑t.eL ⇑t.sf\true)/\(hz K ⇑t.eL ⇑t.ad\false)/\(hz K ⇑t.eL ⇑t.eW\false)/\(hz K ⇑t.eL ⇑t.eI\false)
abbrev a0_bg:=(hz K ⇑t.eL ⇑t.eL\true)/\(t.i2≠t.i_)/\(t.i2≠t.jc)/\(t.i_≠t.jc)/\(Tr K t.E1 "__init__" t.Bl)/\(av "AHEAD"\t.V3)/\(bN (.int 9) t.V3)/\(av "COLOURS"\t.V7)/\(z4 w K t.V7 ww)/\(av "FIGURES"\t.RE)
abbrev a0_bh:=(bN (.str (aa "0123456789")) t.RE)/\(av "FORMS"\⇑t.Cg)/\(z4 w K ⇑t.Cg (Oj t))/\(Ka w K t.Cg [(aa "crossing"),(aa "plan"),(aa "stages"),(aa "colours"),(aa "wait"),(aa "longest"),(aa "draw"),(aa "turn"),(aa "worst"),(aa "shortest")])/\(lX K t.GE [V.str (aa "name")])/\(lX K t.YC [V.str (aa "name"),V.str (aa "name")])/\(lX K t.Ut [V.str (aa "name"),V.str (aa "name")])/\(lX K t.O' [V.str (aa "name"),V.str (aa "turn")])/\(lX K t.U_ [V.str (aa "name"),V.str (aa "name"),V.str (aa "turn")])/\(lX K t.XF [V.str (aa "name"),V.str (aa "name")])
abbrev a0_bi:=(lX K t.U0 [V.str (aa "name"),V.str (aa "turn"),V.str (aa "many")])/\(lX K t.T' [V.str (aa "name"),V.str (aa "names")])/\(lX K t.TP [V.str (aa "name"),V.str (aa "name")])/\(lX K t.Zr [V.str (aa "name"),V.str (aa "wants")])/\(av "LEAST_PLACES"\t.YH)/\(bN (.int 2) t.YH)/\(av "LETTERS"\t.YP)/\(bN (.str (aa "abcdefghijklmnopqrstuvwxyz")) t.YP)/\(av "MOST_DRAWN"\t.TN)/\(bN (.int 200) t.TN)
abbrev a0_bj:=(av "MOST_FIGURES"\t.UE)/\(bN (.int 3) t.UE)/\(av "MOST_LEAST"\t.NX)/\(bN (.int 60) t.NX)/\(av "MOST_LETTERS_drawing"\t.T4)/\(bN (.int 8) t.T4)/\(av "MOST_LETTERS_words"\t.bi)/\(bN (.int 8) t.bi)/\(av "MOST_NEAR"\t.QP)/\(bN (.int 30) t.QP)
abbrev a0_bk:=(av "MOST_OFF"\t.N0)/\(bN (.int 30) t.N0)/\(av "MOST_PLACES"\t.O2)/\(bN (.int 99) t.O2)/\(av "MOST_SIZE"\t.V2)/\(bN (.int 240) t.V2)/\(av "MOST_SPANS"\t.QW)/\(bN (.int 3) t.QW)/\(av "MOST_TURN_FIGURES"\t.PA)/\(bN (.int 59) t.PA)
abbrev a0_bl:=(av "MOST_WAYS"\t.R8)/\(bN (.int 12) t.R8)/\(av "SIGNS"\t.T6)/\(z4 w K t.T6 Ot)/\(av "WITH_TEXT"\⇑t.K3)/\(lX K t.K3 [V.str (aa "crossing"),V.str (aa "plan"),V.str (aa "stages")])/\(av "refuse_clash_plans"\⇑t.y2)/\(av "refuse_never_plans"\⇑t.Al)/\(av "refuse_short_plans"\⇑t.wM)/\(av "all"=none)
abbrev a0_bm:=(av "enumerate"=none)/\(av "int"=none)/\(av "isinstance"=none)/\(av "len"=none)/\(av "list"=none)/\(av "max"=none)/\(av "min"=none)/\(av "range"=none)/\(av "reversed"=none)/\(av "str"=none)
abbrev a0_bn:=(∀(s:Shared) (u:Value),BindsTo s t.CW ([u],[]) [(p'p ("_law_script") u)])
end
structure Txt(w:World)(K:a')(av:Str->Option Value)(t:bA):Prop where
 ou:a0_aa K av t
 pe:a0_ab K av t
 oF:a0_ac K av t
 o':a0_ad K av t
 su:a0_ae K av t
 oO:a0_af K av t
 oT:a0_ag K av t
 oJ:a0_ah K av t
 oY:a0_ai K av t
 o5:a0_aj K av t
 pg:a0_ak K av t
 pQ:a0_al K av t
 sl:a0_am K av t
 UV:a0_an K av t
 vd:a0_ao K av t
 u_:a0_ap K av t
 v7:a0_aq K av t
 xj:a0_ar K av t
 v8:a0_as K av t
 o2:a0_at K t
 qn:a0_au K t
 oZ:a0_av K t
 pC:a0_aw K t
 pH:a0_ax K t
 uC:a0_ay K av t
 rN:a0_az K av t
 pa:a0_ba K av t
 EA:a0_bb K t
 rF:a0_bc K t
 tp:a0_bd K t
 uR:a0_be K t
 wT:a0_bf K t
 qw:a0_bg w K av t
 pU:a0_bh w K av t
 tW:a0_bi K av t
 oV:a0_bj av t
 oS:a0_bk av t
 oD:a0_bl w K av t
 pk:a0_bm av
 ape:a0_bn t
section
variable{w:World}{K:a'}{av:Str->Option Value}{t:bA}(T:Txt w K av t)
include T
def Txt.Og:=T.ou.1
def Txt.E7:=T.ou.2.1
def Txt.Fy:=T.ou.2.2.1
def Txt.wV:=T.ou.2.2.2.1
def Txt.Qc:=T.ou.2.2.2.2.1
def Txt.zJ:=T.ou.2.2.2.2.2.1
def Txt.aiX:=T.ou.2.2.2.2.2.2.1
def Txt.Jr:=T.ou.2.2.2.2.2.2.2.1
def Txt.acd:=T.ou.2.2.2.2.2.2.2.2.1
def Txt.It:=T.ou.2.2.2.2.2.2.2.2.2
def Txt.Vb:=T.pe.1
def Txt.A9:=T.pe.2.1
def Txt.R5:=T.pe.2.2.1
def Txt.BO:=T.pe.2.2.2.1
def Txt.aaw:=T.pe.2.2.2.2.1
def Txt.Nr:=T.pe.2.2.2.2.2.1
def Txt.acy:=T.pe.2.2.2.2.2.2.1
def Txt.Kt:=T.pe.2.2.2.2.2.2.2.1
def Txt.acF:=T.pe.2.2.2.2.2.2.2.2.1
def Txt.NK:=T.pe.2.2.2.2.2.2.2.2.2
def Txt.amg:=T.oF.1
def Txt.ID:=T.oF.2.1
def Txt.aql:=T.oF.2.2.1
def Txt.JQ:=T.oF.2.2.2.1
def Txt.agD:=T.oF.2.2.2.2.1
def Txt.Pi:=T.oF.2.2.2.2.2.1
def Txt.aoE:=T.oF.2.2.2.2.2.2.1
def Txt.H4:=T.oF.2.2.2.2.2.2.2.1
def Txt.ahA:=T.oF.2.2.2.2.2.2.2.2.1
def Txt.Hs:=T.oF.2.2.2.2.2.2.2.2.2
def Txt.KK:=T.o'.1
def Txt.NN:=T.o'.2.1
def Txt.QO:=T.o'.2.2.1
def Txt.D4:=T.o'.2.2.2.1
def Txt.ahw:=T.o'.2.2.2.2.1
def Txt.zn:=T.o'.2.2.2.2.2.1
def Txt.alK:=T.o'.2.2.2.2.2.2.1
def Txt.Il:=T.o'.2.2.2.2.2.2.2.1
def Txt.api:=T.o'.2.2.2.2.2.2.2.2.1
def Txt.JY:=T.o'.2.2.2.2.2.2.2.2.2
def Txt.Ny:=T.su.2.1
def Txt.NU:=T.su.2.2.2.1
def Txt.Jl:=T.su.2.2.2.2.2.1
def Txt.aqM:=T.su.2.2.2.2.2.2.1
def Txt.F1:=T.su.2.2.2.2.2.2.2.1
def Txt.Yh:=T.su.2.2.2.2.2.2.2.2.1
def Txt.EY:=T.su.2.2.2.2.2.2.2.2.2
def Txt.afX:=T.oO.1
def Txt.IU:=T.oO.2.1
def Txt.adX:=T.oO.2.2.1
def Txt.Kz:=T.oO.2.2.2.1
def Txt.U2:=T.oO.2.2.2.2.1
def Txt.EL:=T.oO.2.2.2.2.2.1
def Txt.ahy:=T.oO.2.2.2.2.2.2.1
def Txt.Gr:=T.oO.2.2.2.2.2.2.2.1
def Txt.zo:=T.oO.2.2.2.2.2.2.2.2.1
def Txt.tK:=T.oO.2.2.2.2.2.2.2.2.2
def Txt.Pn:=T.oT.1
def Txt.BL:=T.oT.2.1
def Txt.aev:=T.oT.2.2.1
def Txt.MT:=T.oT.2.2.2.1
def Txt.ah3:=T.oT.2.2.2.2.1
def Txt.LH:=T.oT.2.2.2.2.2.1
def Txt.UF:=T.oT.2.2.2.2.2.2.1
def Txt.NQ:=T.oT.2.2.2.2.2.2.2.1
def Txt.afV:=T.oT.2.2.2.2.2.2.2.2.1
def Txt.Ku:=T.oT.2.2.2.2.2.2.2.2.2
def Txt.apV:=T.oJ.1
def Txt.Mv:=T.oJ.2.1
def Txt.ahH:=T.oJ.2.2.1
def Txt.LP:=T.oJ.2.2.2.1
def Txt.acn:=T.oJ.2.2.2.2.1
def Txt.Wp:=T.oJ.2.2.2.2.2.1
def Txt.aoJ:=T.oJ.2.2.2.2.2.2.1
def Txt.I1:=T.oJ.2.2.2.2.2.2.2.1
def Txt.ams:=T.oJ.2.2.2.2.2.2.2.2.1
def Txt.Fz:=T.oJ.2.2.2.2.2.2.2.2.2
def Txt.abn:=T.oY.1
def Txt.I4:=T.oY.2.1
def Txt.am_:=T.oY.2.2.1
def Txt.Lm:=T.oY.2.2.2.1
def Txt.anV:=T.oY.2.2.2.2.1
def Txt.Md:=T.oY.2.2.2.2.2.1
def Txt.XD:=T.oY.2.2.2.2.2.2.1
def Txt.As:=T.oY.2.2.2.2.2.2.2.1
def Txt.anG:=T.oY.2.2.2.2.2.2.2.2.1
def Txt.K9:=T.oY.2.2.2.2.2.2.2.2.2
def Txt.agq:=T.o5.1
def Txt.L3:=T.o5.2.1
def Txt.afg:=T.o5.2.2.1
def Txt.HW:=T.o5.2.2.2.1
def Txt.am':=T.o5.2.2.2.2.1
def Txt.Jm:=T.o5.2.2.2.2.2.1
def Txt.gE:=T.o5.2.2.2.2.2.2.1
def Txt.gi:=T.o5.2.2.2.2.2.2.2.1
def Txt.agZ:=T.o5.2.2.2.2.2.2.2.2.1
def Txt.IF:=T.o5.2.2.2.2.2.2.2.2.2
def Txt.Ox:=T.pg.1
def Txt.EF:=T.pg.2.1
def Txt.abF:=T.pg.2.2.1
def Txt.JA:=T.pg.2.2.2.1
def Txt.ahs:=T.pg.2.2.2.2.1
def Txt.M4:=T.pg.2.2.2.2.2.1
def Txt.sx:=T.pg.2.2.2.2.2.2.1
def Txt.qX:=T.pg.2.2.2.2.2.2.2.1
def Txt.aj9:=T.pg.2.2.2.2.2.2.2.2.1
def Txt.KC:=T.pg.2.2.2.2.2.2.2.2.2
def Txt.akm:=T.pQ.1
def Txt.Kj:=T.pQ.2.1
def Txt.ah_:=T.pQ.2.2.1
def Txt.Gz:=T.pQ.2.2.2.1
def Txt.anw:=T.pQ.2.2.2.2.1
def Txt.Lj:=T.pQ.2.2.2.2.2.1
def Txt.abt:=T.pQ.2.2.2.2.2.2.1
def Txt.ap6:=T.pQ.2.2.2.2.2.2.2.1
def Txt.QD:=T.pQ.2.2.2.2.2.2.2.2.1
def Txt.Uk:=T.sl.1
def Txt.Pj:=T.sl.2.1
def Txt.Yr:=T.sl.2.2.2.1
def Txt.Vj:=T.sl.2.2.2.2.1
def Txt.Rg:=T.sl.2.2.2.2.2.2.1
def Txt.Vk:=T.sl.2.2.2.2.2.2.2.1
def Txt.Is:=T.sl.2.2.2.2.2.2.2.2.2
def Txt.OA:=T.UV.1
def Txt.VP:=T.UV.2.2.1
def Txt.U6:=T.UV.2.2.2.2.1
def Txt.ci:=T.UV.2.2.2.2.2.2.1
def Txt.QX:=T.UV.2.2.2.2.2.2.2.2.1
def Txt.VE:=T.vd.1
def Txt.Xu:=T.vd.2.2.1
def Txt.RJ:=T.vd.2.2.2.2.1
def Txt.LQ:=T.vd.2.2.2.2.2.1
def Txt.O7:=T.vd.2.2.2.2.2.2.2.1
def Txt.adU:=T.vd.2.2.2.2.2.2.2.2.1
def Txt.Wj:=T.u_.1
def Txt.SN:=T.u_.2.2.1
def Txt.QH:=T.u_.2.2.2.2.1
def Txt.aa2:=T.u_.2.2.2.2.2.1
def Txt.VH:=T.u_.2.2.2.2.2.2.2.1
def Txt.QR:=T.u_.2.2.2.2.2.2.2.2.2
def Txt.XR:=T.v7.2.1
def Txt.abK:=T.v7.2.2.1
def Txt.Op:=T.v7.2.2.2.2.1
def Txt.S':=T.v7.2.2.2.2.2.2.1
def Txt.Y1:=T.v7.2.2.2.2.2.2.2.2.1
def Txt.ae1:=T.v7.2.2.2.2.2.2.2.2.2
def Txt.Zc:=T.xj.2.1
def Txt.TB:=T.xj.2.2.2.1
def Txt.Xv:=T.xj.2.2.2.2.2.1
def Txt.TZ:=T.xj.2.2.2.2.2.2.2.1
def Txt.aht:=T.xj.2.2.2.2.2.2.2.2.1
def Txt.Se:=T.v8.1
def Txt.ahC:=T.v8.2.1
def Txt.SG:=T.v8.2.2.2.1
def Txt.Wo:=T.v8.2.2.2.2.2.1
def Txt.Sl:=T.v8.2.2.2.2.2.2.2.1
def Txt.Tv:=T.v8.2.2.2.2.2.2.2.2.2
def Txt.ey:=T.o2.1
def Txt.SI:=T.o2.2.1
def Txt.vc:=T.o2.2.2.1
def Txt.aeR:=T.o2.2.2.2.1
def Txt.y_:=T.o2.2.2.2.2.1
def Txt.vG:=T.o2.2.2.2.2.2.1
def Txt.pE:=T.o2.2.2.2.2.2.2.1
def Txt.xk:=T.o2.2.2.2.2.2.2.2.1
def Txt.agd:=T.o2.2.2.2.2.2.2.2.2.1
def Txt.PB:=T.o2.2.2.2.2.2.2.2.2.2
def Txt.F0:=T.qn.1
def Txt.KZ:=T.qn.2.2.1
def Txt.abu:=T.qn.2.2.2.1
def Txt.adS:=T.qn.2.2.2.2.1
def Txt.aep:=T.qn.2.2.2.2.2.1
def Txt.ais:=T.qn.2.2.2.2.2.2.1
def Txt.aje:=T.qn.2.2.2.2.2.2.2.1
def Txt.akI:=T.qn.2.2.2.2.2.2.2.2.1
def Txt.anY:=T.qn.2.2.2.2.2.2.2.2.2
def Txt.abk:=T.oZ.1
def Txt.aeH:=T.oZ.2.1
def Txt.aiE:=T.oZ.2.2.1
def Txt.Ks:=T.oZ.2.2.2.1
def Txt.acS:=T.oZ.2.2.2.2.1
def Txt.ahn:=T.oZ.2.2.2.2.2.1
def Txt.agb:=T.oZ.2.2.2.2.2.2.1
def Txt.aaG:=T.oZ.2.2.2.2.2.2.2.1
def Txt.amC:=T.oZ.2.2.2.2.2.2.2.2.1
def Txt.aqx:=T.oZ.2.2.2.2.2.2.2.2.2
def Txt.adi:=T.pC.1
def Txt.agi:=T.pC.2.1
def Txt.aaC:=T.pC.2.2.1
def Txt.aiJ:=T.pC.2.2.2.1
def Txt.GZ:=T.pC.2.2.2.2.1
def Txt.ag4:=T.pC.2.2.2.2.2.1
def Txt.am0:=T.pC.2.2.2.2.2.2.1
def Txt.ajf:=T.pC.2.2.2.2.2.2.2.1
def Txt.alP:=T.pC.2.2.2.2.2.2.2.2.1
def Txt.aku:=T.pC.2.2.2.2.2.2.2.2.2
def Txt.abE:=T.pH.1
def Txt.ajM:=T.pH.2.1
def Txt.aoy:=T.pH.2.2.1
def Txt.Ix:=T.pH.2.2.2.1
def Txt.aco:=T.pH.2.2.2.2.1
def Txt.g5:=T.pH.2.2.2.2.2.1
def Txt.ac':=T.pH.2.2.2.2.2.2.1
def Txt.sT:=T.pH.2.2.2.2.2.2.2.1
def Txt.kt:=T.pH.2.2.2.2.2.2.2.2.1
def Txt.oA:=T.pH.2.2.2.2.2.2.2.2.2
def Txt.YY:=T.uC.1
def Txt.RS:=T.uC.2.1
def Txt.Yu:=T.uC.2.2.1
def Txt.qg:=T.uC.2.2.2.2.2.2.2.1
def Txt.ah1:=T.uC.2.2.2.2.2.2.2.2.1
def Txt.Uv:=T.uC.2.2.2.2.2.2.2.2.2
def Txt.WH:=T.rN.1
def Txt.akg:=T.rN.2.1
def Txt.VM:=T.rN.2.2.1
def Txt.W7:=T.rN.2.2.2.1
def Txt.rS:=T.rN.2.2.2.2.2.2.1
def Txt.ZV:=T.rN.2.2.2.2.2.2.2.1
def Txt.apY:=T.rN.2.2.2.2.2.2.2.2.1
def Txt.aby:=T.rN.2.2.2.2.2.2.2.2.2
def Txt.aqV:=T.pa.1
def Txt.Ou:=T.pa.2.1
def Txt.OH:=T.pa.2.2.1
def Txt.ZG:=T.pa.2.2.2.1
def Txt.zA:=T.pa.2.2.2.2.1
def Txt.AX:=T.pa.2.2.2.2.2.1
def Txt.ajg:=T.pa.2.2.2.2.2.2.1
def Txt.V5:=T.pa.2.2.2.2.2.2.2.1
def Txt.anu:=T.pa.2.2.2.2.2.2.2.2.1
def Txt.ae':=T.pa.2.2.2.2.2.2.2.2.2
def Txt.agt:=T.EA.1
def Txt.adx:=T.EA.2.2.2.1
def Txt.amt:=T.EA.2.2.2.2.1
def Txt.apH:=T.EA.2.2.2.2.2.2.2.2.2
def Txt.Wi:=T.rF.1
def Txt.apn:=T.rF.2.1
def Txt.aaN:=T.rF.2.2.1
def Txt.adz:=T.rF.2.2.2.1
def Txt.aeN:=T.rF.2.2.2.2.1
def Txt.aas:=T.rF.2.2.2.2.2.1
def Txt.aej:=T.rF.2.2.2.2.2.2.2.1
def Txt.aeX:=T.rF.2.2.2.2.2.2.2.2.1
def Txt.aoi:=T.tp.2.2.2.1
def Txt.X4:=T.tp.2.2.2.2.1
def Txt.apw:=T.tp.2.2.2.2.2.1
def Txt.aoo:=T.tp.2.2.2.2.2.2.1
def Txt.adT:=T.tp.2.2.2.2.2.2.2.1
def Txt.akj:=T.tp.2.2.2.2.2.2.2.2.1
def Txt.xz:=T.tp.2.2.2.2.2.2.2.2.2
def Txt.afZ:=T.uR.1
def Txt.abJ:=T.uR.2.1
def Txt.aa_:=T.uR.2.2.1
def Txt.amS:=T.uR.2.2.2.1
def Txt.an1:=T.uR.2.2.2.2.2.2.2.2.1
def Txt.Qe:=T.uR.2.2.2.2.2.2.2.2.2
def Txt.an7:=T.wT.1
def Txt.ahc:=T.wT.2.1
def Txt.ab2:=T.wT.2.2.1
def Txt.ap1:=T.wT.2.2.2.1
def Txt.adK:=T.wT.2.2.2.2.1
def Txt.aaH:=T.wT.2.2.2.2.2.1
def Txt.ah6:=T.wT.2.2.2.2.2.2.1
def Txt.Tk:=T.qw.2.1
def Txt.Qk:=T.qw.2.2.1
def Txt.QF:=T.qw.2.2.2.1
def Txt.L1:=T.qw.2.2.2.2.1
def Txt.N3:=T.qw.2.2.2.2.2.1
def Txt.Q7:=T.qw.2.2.2.2.2.2.1
def Txt.aqq:=T.qw.2.2.2.2.2.2.2.1
def Txt.aeK:=T.qw.2.2.2.2.2.2.2.2.1
def Txt.Tc:=T.qw.2.2.2.2.2.2.2.2.2
def Txt.Tn:=T.pU.1
def Txt.VA:=T.pU.2.1
def Txt.adk:=T.pU.2.2.1
def Txt.al8:=T.pU.2.2.2.1
def Txt.alg:=T.pU.2.2.2.2.1
def Txt.ae0:=T.pU.2.2.2.2.2.1
def Txt.alN:=T.pU.2.2.2.2.2.2.2.1
def Txt.ad4:=T.pU.2.2.2.2.2.2.2.2.1
def Txt.aiv:=T.pU.2.2.2.2.2.2.2.2.2
def Txt.akV:=T.tW.1
def Txt.an8:=T.tW.2.2.2.2.1
def Txt.tz:=T.tW.2.2.2.2.2.1
def Txt.ajz:=T.tW.2.2.2.2.2.2.1
def Txt.aqd:=T.tW.2.2.2.2.2.2.2.1
def Txt.aj7:=T.tW.2.2.2.2.2.2.2.2.1
def Txt.aiI:=T.tW.2.2.2.2.2.2.2.2.2
def Txt.Ty:=T.oV.1
def Txt.aeh:=T.oV.2.1
def Txt.ag6:=T.oV.2.2.1
def Txt.af7:=T.oV.2.2.2.1
def Txt.V9:=T.oV.2.2.2.2.1
def Txt.Qz:=T.oV.2.2.2.2.2.1
def Txt.ap:=T.oV.2.2.2.2.2.2.1
def Txt.aiV:=T.oV.2.2.2.2.2.2.2.1
def Txt.ahg:=T.oV.2.2.2.2.2.2.2.2.1
def Txt.aja:=T.oV.2.2.2.2.2.2.2.2.2
def Txt.ac9:=T.oS.1
def Txt.aqi:=T.oS.2.1
def Txt.ajE:=T.oS.2.2.1
def Txt.KB:=T.oS.2.2.2.1
def Txt.apg:=T.oS.2.2.2.2.1
def Txt.aqN:=T.oS.2.2.2.2.2.1
def Txt.aaJ:=T.oS.2.2.2.2.2.2.1
def Txt.amY:=T.oS.2.2.2.2.2.2.2.1
def Txt.afw:=T.oS.2.2.2.2.2.2.2.2.1
def Txt.ZZ:=T.oS.2.2.2.2.2.2.2.2.2
def Txt.alE:=T.oD.1
def Txt.afS:=T.oD.2.1
def Txt.aow:=T.oD.2.2.1
def Txt.aol:=T.oD.2.2.2.1
def Txt.alj:=T.oD.2.2.2.2.1
def Txt.al4:=T.oD.2.2.2.2.2.1
def Txt.ahu:=T.oD.2.2.2.2.2.2.1
def Txt.abT:=T.oD.2.2.2.2.2.2.2.1
def Txt.aaf:=T.oD.2.2.2.2.2.2.2.2.1
def Txt.ald:=T.oD.2.2.2.2.2.2.2.2.2
def Txt.xZ:=T.pk.1
def Txt.HX:=T.pk.2.1
def Txt.Qd:=T.pk.2.2.1
def Txt.hY:=T.pk.2.2.2.1
def Txt.xI:=T.pk.2.2.2.2.1
def Txt.B_:=T.pk.2.2.2.2.2.1
def Txt.N':=T.pk.2.2.2.2.2.2.1
def Txt.i9:=T.pk.2.2.2.2.2.2.2.1
def Txt.FV:=T.pk.2.2.2.2.2.2.2.2.1
def Txt.lY:=T.pk.2.2.2.2.2.2.2.2.2
def Txt.aho:=T.ape
def Txt.Xa:=T.E7.nb ["text"]
def Txt.NL:=T.wV.nb Ah
def Txt.YB:=T.zJ.nb Am
def Txt.alw:=T.Jr.nb JB
def Txt.agM:=T.It.nb ["word"]
def Txt.Po:=T.A9.nb ["word"]
def Txt.TK:=T.BO.nb ["text"]
def Txt.adA:=T.Nr.nb ["reader"]
def Txt.ajj:=T.Kt.nb HZ
def Txt.apN:=T.NK.nb Fp
def Txt.amA:=T.ID.nb BZ
def Txt.apP:=T.JQ.nb Ey
def Txt.apX:=T.Pi.nb ["text"]
def Txt.afT:=T.H4.nb y1
def Txt.abb:=T.Hs.nb LO
def Txt.aiB:=T.NN.nb ["texts"]
def Txt.T_:=T.D4.nb Eo
def Txt.aqP:=T.zn.nb BV
def Txt.aeY:=T.Il.nb ri
def Txt.aiA:=T.JY.nb ri
def Txt.aqg:=T.Ny.nb BA
def Txt.aqQ:=T.NU.nb si
def Txt.amF:=T.Jl.nb si
def Txt.alp:=T.F1.nb lj
def Txt.VK:=T.EY.nb AM
def Txt.af4:=T.IU.nb lj
def Txt.aaW:=T.Kz.nb tN
def Txt.Vi:=T.EL.nb ["marks"]
def Txt.anl:=T.Gr.nb ["marks"]
def Txt.xH:=T.tK.nb vy
def Txt.Pf:=T.BL.nb Ea
def Txt.agV:=T.MT.nb Ij
def Txt.akh:=T.LH.nb ["reader"]
def Txt.afh:=T.NQ.nb EX
def Txt.afq:=T.Ku.nb zt
def Txt.io:=T.Mv.nb CA
def Txt.aib:=T.LP.nb D0
def Txt.aoZ:=T.Wp.nb Aq
def Txt.WF:=T.I1.nb ["reader"]
def Txt.akl:=T.Fz.nb ["reader"]
def Txt.alL:=T.I4.nb wW
def Txt.adC:=T.Lm.nb ["told"]
def Txt.aou:=T.Md.nb ["row"]
def Txt.SH:=T.As.nb u0
def Txt.acW:=T.K9.nb ["shown"]
def Txt.ahf:=T.L3.nb lj
def Txt.akp:=T.HW.nb tN
def Txt.aeT:=T.Jm.nb vz
def Txt.gK:=T.gi.nb CN
def Txt.aoW:=T.IF.nb uq
def Txt.PU:=T.EF.nb GN
def Txt.aeA:=T.JA.nb G1
def Txt.amk:=T.M4.nb BP
def Txt.s_:=T.qX.nb A4
def Txt.ac_:=T.KC.nb Ex
def Txt.ajD:=T.Kj.nb E4
def Txt.aq2:=T.Gz.nb D5
def Txt.aqU:=T.Lj.nb Ci
def Txt.ao1:=T.Uk.nb xO
def Txt.aah:=T.Yr.nb zK
def Txt.ajq:=T.Rg.nb yx
def Txt.anJ:=T.Is.nb kl
def Txt.Ts:=T.VP.nb uU
def Txt.vL:=T.U6.nb ["self"]
def Txt.abm:=T.ci.nb ["self"]
def Txt.yc:=T.QX.nb DP
def Txt.vB:=T.VE.nb BM
def Txt.oM:=T.Xu.nb Hl
def Txt.yk:=T.RJ.nb ["self"]
def Txt.Mn:=T.O7.nb B4
def Txt.ahq:=T.Wj.nb kF
def Txt.af0:=T.SN.nb ["self"]
def Txt.aeE:=T.QH.nb ["self"]
def Txt.aef:=T.VH.nb kF
def Txt.aqt:=T.QR.nb ["self"]
def Txt.ahh:=T.XR.nb ["self"]
def Txt.apy:=T.Op.nb kF
def Txt.aqo:=T.S'.nb ["self"]
def Txt.apK:=T.Y1.nb ["self"]
def Txt.afa:=T.Zc.nb B9
def Txt.sI:=T.TB.nb ["self"]
def Txt.alA:=T.Xv.nb kl
def Txt.oq:=T.TZ.nb kl
def Txt.akJ:=T.Se.nb CE
def Txt.acE:=T.SG.nb ["self"]
def Txt.amO:=T.Wo.nb ER
def Txt.alI:=T.Sl.nb Br
def Txt.ahY:=T.Tv.nb BK
def Txt.AU:jO K t.ad:=Ce T.ajg T.V5
def Txt.aff:oQ K t.ad:=DW T.AU T.ae'
def Txt.Ap:jO K t.eW:=Ce T.apH T.Wi
def Txt.aiq:oQ K t.eW:=DW T.Ap T.adz
def Txt.uY:jO K t.eI:=Ce T.aoi T.X4
def Txt.abo:oQ K t.eI:=DW T.uY T.akj
def Txt.C1:jO K t.eL:=Ce T.an1 T.Qe
def Txt.acN:oQ K t.eL:=DW T.C1 T.ahc
end
noncomputable def cL(ns:List Int)(k m:Int):Int:=
 ((((if 0<(↑ns:Int)then ns.getD (k%(↑ns:Int)).toNat 0 else 0)%1000003+31*k*k+1)*48271%999983*7919)%524287)%m
def hD(ns:List Int)(k:Int)(h:0<m):0<=cL ns k m:=e8 _ ()
def hE(ns:List Int)(k:Int)(h:0<m):cL ns k m<m:=e_ _ h
def gD(K:a')(a:Addr)(ns:List Int):bH:=λvs H Q _=>∃k m,vs=[⇑a,.int k,.int m]/\Sc K a ns H/\(0<=k/\k<1000000)/\0<m/\Q (.int (cL ns k m)) H
variable{P:Program}{w:World}{K:a'}{av:Str->Option Value}{base:Heap}{t:bA}
abbrev cj(P:Program)(base:Heap){w:World}{K:a'}{av:Str->Option Value}{t:bA}(_:Txt w K av t):=bD P w K av base cN
variable(T:Txt w K av t)
def Bk (a:Addr) (ns:List Int) (n4:↑ns<=63):cj P base T 1 t.Fl t.Aw CN (gD K a ns):=by
 exists T.gi.ok On,9
 let(k,m,rfl,S,(h0,af),hm,q):=h;refine(_,(aN (bO (i:=3) On.aD (Ev (cS qb (f7 iM rfl T.hY hT (ag (U 0) aA)) aS (ct _)) (bP dA (U 0) (bk iu (U 1) (f7 iM rfl T.hY hT (ag (U 0) aA)))) aS))
   (aN (bO (i:=4) On.aD (bk dd (bk dd (bk iu (U 3) aS) (bk s8 (bk s8 aS (U 1)) (U 1))) aS))
   (aY (bR (bk iu (bk iu (bk s8 (bk iu (bk s8 (U 4) aS) aS) aS) aS) (U 2)))))),?_)
 nofun;refine(_,.inl S.seq,?_);rw[a9];have Jz:(0:Int)<=k*k/\k*k<1000000*1000000:=(Int.mul_nonneg h0 h0,Int.mul_lt_mul' () af h0 ∅);have fin:∀i:Int,(0:Int)<1000003/\oP 31 k/\oP (31*k) k/\oP (i%1000003+31*k*k+1) 48271/\(0:Int)<999983/\oP ((i%1000003+31*k*k+1)*48271%999983) 7919/\(0:Int)<524287/\0<m:=by
  intro i;refine(∅,.inl ∅,.inr (),.inr ∅,∅,.inr ∅,∅,hm)
 by_cases c:(0:Int)<(↑ns:Int)
 .rw[if_pos (decide_eq_true c)];have aI:0<=k%(↑ns:Int)/\k%(↑ns:Int)<(↑ns:Int):=(e8 _ (),e_ _ c);refine(_,.inl S.seq,by rw[a9];exact c,_,S.seq,?_);rw[a9];have aZ:(k%(↑ns:Int)).toNat<↑ns:=()
  refine(.int ns[(k%(↑ns:Int)).toNat],?_,_,rfl,?_)
  .have e:=cO (xs:=ns.map V.int) (j:=(k%(↑ns:Int)).toNat) (v:=.int ns[(k%(↑ns:Int)).toNat]) (by rw[d7,bJ aZ] <;> rfl);rwa[iF aI.1]at e
  .obtain⟨f1,f2,eP,f4,fA,y0,uH,f8⟩:=fin ns[(k%(↑ns:Int)).toNat];refine⟨f1,f2,eP,f4,fA,y0,uH,f8,?_⟩;have e:cL ns k m=(((ns[(k%(↑ns:Int)).toNat]%1000003+31*k*k+1)*48271%999983*7919)%524287)%m:=by
    unfold cL;rw[if_pos c,gG,bJ aZ];rfl
   rw[<- e];exact q
 .rw[if_neg (by simpa using c)];let(f1,f2,eP,f4,fA,y0,uH,f8):=fin 0;refine(f1,f2,eP,f4,fA,y0,uH,f8,?_);have e:cL ns k m=(((0%1000003+31*k*k+1)*48271%999983*7919)%524287)%m:=by
   unfold cL;rw[if_neg c]
  rw[<- e];exact q
def w_{w:Str}:w=aa ""↔↑w=0:=by
 constructor
 .rintro rfl;ac_nf
 .intro h;have e:w.cps=#[]:=Array.eq_empty_of_size_eq_zero h;have aE:(aa "").cps=#[]:=∅
  cases w;cases aj:aa "";rw[aj]at aE;simp only at e aE;rw[e,aE]
noncomputable def tf(fp:Str)(c:Nat):Bool:=!(m' fp (i4 c) 0 ↑fp 1).isEmpty
def G5(fp:Str)(c:Nat):tf fp c=decide (c∈fp.cps.toList):=alf fp c
noncomputable def made(w fp:Str)(m:Int):Bool:=if w=aa "" then false else if m<(↑w:Int)then false else w.cps.toList.all (tf fp)
def DR:bH:=λvs H Q _=>∃w fp m,vs=[.str w,.str fp,.int m]/\↑w<=1000/\aG H/\Q (.bE (made w fp m)) H
def aqp:bH:=λvs H Q _=>∃w fp m,vs=[.str w,.str fp,.int m]/\↑w<=1000/\∀I,aC H I->Q (.bE (made w fp m)) I
theorem HO:cj P base T 1 t.Hh t.I2 Ah DR:=by
 refine bD.forget (sp:=aqp) ?_ λvs H Q E h=>?_
 .exists T.wV.ok afy,9
  let(w,fp,m,rfl,ax,q):=h;have e2:↑w<=sizeLine:=cH ax ∅;refine(_,(aN (c0 (f5.pt (ph (cS eZ (U 0) Db (ct _)) (pF (cS qb (f7 T8 rfl T.hY hT (ag (U 0) aA)) (U 2) (ct _))))) (aY (bR hA)) c7)
   (aY (bR (f7 (aqz rfl) rfl T.ald amV (ag (iz rfl (ah5 (U 0)) (hi (sc:=br (top 17)) rfl ∅) (N:=["sign","signs"]) (sel:=[none,some 1]) (ha (M:=Ah) ∅) (fR.of (λ_ _ _ _=>(b6 (i:=0) (fk (N:=["sign","signs"]) ∅ rfl))) (λ_ _ _ _=>(_,iB,by walk_at "B")) (λ_ _ _ _=>(_,(h9 apC (U 0) (U 1) (by with_unfolding_all rfl)),by walk_at "B")))) aA))))),?_)
  nofun;refine cX (decide (w=aa "")||decide (m<(↑w:Int))) (λQ aV=>?_) (λae=>?_) (λae=>?_)
  .nofun;by_cases c:w=aa ""
   .rw [if_pos (decide_eq_true c)];rw[decide_eq_true c,ug]at aV;exact aV
   .rw [if_neg (by simpa using c)];rw[decide_eq_false c,ov]at aV;exact(e2,aV)
  .nofun;have e:made w fp m=false:=by
    unfold made;simp only[x5,decide_eq_true_eq]at ae;by_cases c:w=aa ""
    .rw [if_pos c]
    .rw [if_neg c,if_pos (ae.resolve_left c)]
   have:=q H (aC.refl H);rw[e]at this;exact this
  .nofun;have e:made w fp m=w.cps.toList.all (tf fp):=by
    unfold made;simp only[Uh,decide_eq_false_iff_not]at ae;rw[if_neg ae.1,if_neg ae.2]
   refine dv.ak_ (λx=>match x with|.str y=>.bE (!(m' fp y 0 ↑fp 1).isEmpty)|_=>.b4) (by rw[S8];exact e2) (λi x N ai bc=>?_) (λp aq=>?_)
   .unfold n1 at ai;rw[d7]at ai;cases ah:w.cps.toList[i]? with
    |none=>rw[ah]at ai;cases ai
    |some c=>
     rw[ah]at ai;have mU:V.str (i4 c)=x:=d6 ai;subst mU;nofun;exact(Sub.name,bc)
   .refine⟨p,rfl,w.cps.toList.map (tf fp),aH.of ?_,?_⟩
    .rw [aP];unfold n1;rw[pK,pK];rfl
    .have:=q (upd H p (.lst (gR (λx=>match x with|.str y=>.bE (!(m' fp y 0 ↑fp 1).isEmpty)|_=>.b4) (n1 w)))) (bp aq);rw[e]at this;rw[ZE];exact this
 .let(w,fp,m,e,ax,a8,q):=h;exact(a8,w,fp,m,e,ax,λI a7=>(a7,q))
noncomputable abbrev qi:Str:=aa "0123456789"
noncomputable def dl(c:Nat):Bool:=decide (48<=c/\c<=57)
def TS(c:Nat):tf qi c=dl c:=by
 rw[G5,(∅:qi.cps.toList=List.range' 48 10)];unfold dl;refine decide_eq_decide.mpr ?_;rw[List.mem_range'_1];exact and_congr_right λ_=>show c<58↔c<=57 from Nat.lt_succ_iff
noncomputable abbrev cs(w:Str):List Nat:=w.cps.toList
def sA(w:Str):↑(cs w)=↑w:=by simp[cs,n5]
noncomputable def kq(w:Str):Bool:=decide (1<=↑(cs w))&&decide (↑(cs w)<=3)&&(cs w).all dl&&(decide (↑(cs w)<=1)||decide ((cs w).headD 0≠48))
noncomputable abbrev val(w:Str):Int:=((GR (cs w):Nat):Int)
noncomputable def nI(w:Str)(lo ao:Int):V:=if kq w && !(decide (val w<lo)||decide (ao<val w))then .int (val w)else .b4
theorem Dq{w:Str}:w=⟨#[c]⟩↔cs w=[c]:=by
 constructor
 .rintro rfl;rfl
 .intro h;cases w with
  |mk a=>
   have e:a=#[c]:=apt.mp h;rw[e]
def zU:aa "0"=⟨#[48]⟩:=∅
def Sx(w:Str):made w qi 3=(decide (1<=↑(cs w))&&decide (↑(cs w)<=3)&&(cs w).all dl):=by
 unfold made;have e:(tf qi)=dl:=funext TS;rw[e];by_cases af:w=aa ""
 .have aj:=w_.mp af;rw[if_pos af,sA,aj];rfl
 .have aj:¬ ↑w=0:=λz=>af (w_.mpr z)
  rw[if_neg af,sA];by_cases a_:(3:Int)<(↑w:Int)
  .rw [if_pos a_,decide_eq_false (show ¬ ↑w<=3 by omega),ac0,tU]
  .rw [if_neg a_,decide_eq_true (show 1<=↑w by omega),decide_eq_true (show ↑w<=3 by omega)];rfl
def Jk(h:l.all dl=true):NumText.AllDigits l:=λc ah=>by
 have:=oe.mp h c ah;simpa[dl]using this
def apL(c:Nat):decide ((⟨#[c]⟩:Str)=aa "0")=decide (c=48):=by
 rw[zU];by_cases kJ:c=48
 .rw [kJ];simp
 .rw [decide_eq_false kJ,decide_eq_false];intro z;have dF:=Dq.mp z;exact kJ (uy dF).1
def Ve{w:Str}(h:kq w=true):(1<=↑(cs w)/\↑(cs w)<=3)/\(cs w).all dl=true:=by
 unfold kq at h;simp only[jt,decide_eq_true_eq]at h;exact h.1
def OX:bH:=λvs H Q _=>∃w,vs=[.str w,.int 3]/\↑w<=1000/\aG H/\Q (.bE (kq w)) H
def anM:bH:=λvs H Q _=>∃w lo ao,vs=[.str w,.int lo,.int ao]/\↑w<=1000/\aG H/\Q (nI w lo ao) H
theorem afu:cj P base T 2 t.C3 t.AP Am OX:=by
 refine cn (HO T) λyN=>?_;exists T.zJ.ok O_,9
 let(w,rfl,ax,a8,q):=h;have e2:↑w<=sizeLine:=cH ax ∅;refine(_,(aN (c0 (Fk (jS (bT yN au T.Fy T.wV.bt T.NL (ag (U 0) (ag (gN rfl T.Tc T.Tn) (ag (U 1) aA)))))) (aY (bR hA)) c7)
   (aY (bR (JC (h9 eZ (U 0) Db (ct _)) (wA (h9 js (bP Fs (U 0) aS) Db (ct _))))))),?_)
 refine cX (!made w qi 3) (λQ aV=>?_) (λae=>?_) (λae=>?_)
 ·(nofun; repeat (dsimp only[DR];nofun));exact(ax,a8,aV)
 .nofun;have e:kq w=false:=by
   have fL:made w qi 3=false:=by simpa using ae
   rw[Sx]at fL;unfold kq;rw[fL];rfl
  rw[e]at q;exact q
 .have fL:made w qi 3=true:=by simpa using ae
  rw[Sx]at fL;rw[g7];dsimp only;refine Ym (.bE (kq w)) (λQ aV=>?_) ?_
  case refine_2=>exact q
  nofun;have q':(1<=↑(cs w)/\↑(cs w)<=3)/\(cs w).all dl=true:=by
   simpa only[jt,decide_eq_true_eq]using fL
  let(c,r,rB):∃c r,cs w=c::r:=by
   cases h:cs w with
   |nil=>rw[h]at q';exact absurd q'.1.1 ∅
   |cons c r=>exact(c,r,rfl)
  have ok:kq w=(decide (↑(cs w)<=1)||decide ((cs w).headD 0≠48)):=by
   unfold kq;rw[fL,B6]
  by_cases et:w=aa "0"
  .rw[if_pos (decide_eq_true et)];have e:cs w=[48]:=by rw[et,zU]
   rw[ok,e]at aV;exact aV
  .rw [if_neg (by simpa using et)];refine(e2,c,?_,?_)
   .have:=cO (xs:=cs w) (j:=0) (v:=c) (by rw[rB];rfl);exact this
   .have aE:decide ((⟨#[c]⟩:Str)=aa "0")=decide (c=48):=by
     rw[zU];by_cases kJ:c=48
     .rw [kJ];simp
     .rw [decide_eq_false kJ,decide_eq_false];intro z;have dF:=Dq.mp z;exact kJ (uy dF).1
    rw [aE];have b7:kq w = !decide (c=48):=by
     rw[ok,rB];show(decide (↑(c::r)<=1)||decide (c≠48))=_;by_cases kJ:c=48
     .have au:r≠[]:=λz=>et (by rw[zU];exact Dq.mpr (by rw[rB,z,kJ]))
      have:¬ ↑(c::r)<=1:=by
       cases r with
       |nil=>exact absurd rfl au
       |cons d r=>simp
      rw[decide_eq_false this,kJ];rfl
     .rw [decide_eq_true kJ,EI,decide_eq_false kJ];rfl
    rw[<- b7];exact aV
def acO:cj P base T 3 t.Ps t.I3 JB anM:=by
 refine cn (afu T) λNu=>?_;exists T.Jr.ok PN,9
 let(w,lo,ao,rfl,ax,a8,q):=h;refine(_,(aN (c0 (Fk (jS (bT Nu au T.Qc T.zJ.bt T.YB (ag (U 0) (ag (gN rfl T.Ty T.aeh) aA))))) (aY (bR wZ)) c7)
   (aN (bO (i:=3) PN.aD (jo FR rfl T.HX Le (ag (U 0) aA)))
   (aN (c0 (f5.pt (ph (cS qv (U 3) (U 1) (ct _)) (pF (cS qb (U 3) (U 2) (ct _))))) (aY (bR wZ)) c7)
   (aY (bR (U 3)))))),?_)
 refine cX (!kq w) (λQ aV=>?_) (λae=>?_) (λae=>?_)
 ·(nofun; repeat (dsimp only[OX];nofun));exact(ax,a8,aV)
 .nofun;have fL:kq w=false:=by simpa using ae
  have e:nI w lo ao=.b4:=by unfold nI;rw[fL];rfl
  rw[e]at q;exact q
 .have fL:kq w=true:=by simpa using ae
  have a_:(1<=↑(cs w)/\↑(cs w)<=3)/\(cs w).all dl=true:=by
   have:=fL;unfold kq at this;simp only[jt,decide_eq_true_eq]at this;exact this.1
  have aw:=sA w;have nq:intText? w\(val w):=intText_digits (Jk a_.2) (λz=>by have z':cs w=[]:=z;rw[z']at a_;exact absurd a_.1.1 ∅) ();nofun;refine(val w,nq,(),?_);refine cX (decide (val w<lo)||decide (ao<val w)) (λQ aV=>?_) (λah=>?_) (λah=>?_)
  .nofun;by_cases c:val w<lo
   .rw [if_pos (decide_eq_true c)];rw[decide_eq_true c,ug]at aV;exact aV
   .rw [if_neg (by simpa using c)];rw[decide_eq_false c,ov]at aV;exact aV
  .nofun;have e:nI w lo ao=.b4:=by unfold nI;rw[fL,ah];rfl
   rw[e]at q;exact q
  .nofun;have e:nI w lo ao=.int (val w):=by unfold nI;rw[fL,ah];rfl
   rw[e]at q;exact q
def aeJ{n:Nat}(h:n<1000):n.log2<1920:=by
 by_cases h0:n=0
 .subst h0;decide
 .rw [M1 h0];exact ij h (cH ((∅:1000<=2 ^ 10)) (al6 ∅ ∅))
def ace:∀n,n<1000->↑(m_ 10 n)<=3:=∅
def GG{n:Int}(h0:0<=n)(af:n<=999):↑(aa (toString n))<=3:=by
 have e:=Ud n.toNat;rw[iF h0]at e;have l:↑(aa (toString n))=↑(aa (toString n)).cps.toList:=by simp[n5]
 rw[l,e,a9];exact ace _ ()
noncomputable abbrev gB:Str:=aa "abcdefghijklmnopqrstuvwxyz"
def akD:bH:=λvs H Q _=>∃w,vs=[.str w]/\↑w<=1000/\aG H/\Q (.bE (made w gB 8)) H
def Zg:cj P base T 2 t.wn t.H0 ["word"] akD:=by
 refine cn (HO T) λyN=>?_;exists T.A9.ok aj',9
 let(w,rfl,ax,a8,q):=h;refine(_,(aY (bR (bT yN au T.Fy T.wV.bt T.NL (ag (U 0) (ag (gN rfl T.ajz T.aqd) (ag (gN rfl T.ap T.aiV) aA)))))),?_);(nofun; repeat (dsimp only[DR];nofun));exact(ax,a8,q)
noncomputable abbrev nl:Str:=aa "\n"
abbrev b3:Str:=aa " "
def kK:nl=⟨#[10]⟩:=∅
def lg:b3=⟨#[32]⟩:=∅
noncomputable def iI(x:Str):List (List Str):=(g8 x nl).map λr=>g8 r b3
theorem T3:∀{ys:List Str} {y:Str},y∈ys->↑y<=(ys.map (·.length)).sum
 |[],_,h=>nomatch h
 |a::r,y,h=>by
  rw[dZ,M5];rcases cT.mp h with rfl|h
  .omega
  .have:=T3 h;omega
def G_{x y r:Str}(bg:1<=↑y)(h:r∈g8 x y):↑r<=↑x+1:=by
 have af:=anq x y bg;have aj:=T3 h;omega
def IP{x y:Str}(bg:1<=↑y):↑(g8 x y)<=↑x+1:=by
 have af:=anq x y bg;omega
def aa5(x y:Str):g8 x y≠[]:=by
 unfold g8;split
 .simp
 .split
  .simp
  .rw [StrLaws.partsBetween_eq];let(p,r,e):=StrLaws.partsFrom_ne x ↑y 0 (m' x y 0 ↑x (↑x+1));rw[e];simp
def aiN(fP H:ar)(p:Addr)(rows:List (List Str)):Prop:=∃qs:List Addr,H p\(.lst (qs.map V.ref))/\fP p=none/\p∉qs/\↑qs=↑rows/\∀(i:Nat) (q:Addr) (r:List Str),qs[i]?\q->rows[i]?\r->H q\(.lst (bz r))/\fP q=none
def K6:bH:=λvs H Q _=>∃x,vs=[.str x]/\↑x<=20000/\aG H/\∀p I,aC H I->aG I->aiN H I p (iI x)->Q ⇑p I
def lC:↑nl=1:=∅
def jw:↑b3=1:=∅
theorem Tq:cj P base T 1 t.xc t.zD ["text"] K6:=by
 exists T.E7.ok amd,9
 let(x,rfl,ax,a8,q):=h;have hK:∀n:Nat,n<=40000->n<=sizeLine:=λn h=>cH h ∅
 refine(_,(aY (bR (iz rfl (e5 (gL lT vo H7 Fj (U 0) (ag Db aA))) (hi (sc:=br (top 16)) rfl ∅) (N:=["row"]) (sel:=[none]) (ha (M:=["text"]) ∅) (fR.of (λ_ _ _ _=>(b6 (i:=0) (fk (N:=["row"]) ∅ rfl))) (λ_ _ _ _=>(_,iB,by walk_at "B")) (λ_ _ _ _=>(_,(gL lT vo H7 Fj (U 0) (ag Db aA)),by walk_at "B")))))),?_);nofun;have bg:1<=↑nl:=by rw[lC];exact b0 _
 have amN:1<=↑b3:=by rw[jw];exact b0 _
 have aB:=IP (x:=x) bg;have abx:↑(bz (g8 x nl))<=sizeLine:=by unfold bz;rw[a9];exact hK _ ()
 refine(by rw[lC];decide,hK _ (),hK _ (show ↑(g8 x nl)<=40000 by omega),λp aq=>((_,aH.of aP),?_));refine dv.alo (xs:=bz (g8 x nl)) (λv=>match v with|.str r=>.lst (bz (g8 r b3))|_=>.lst []) (aH.of aP) abx (λv=>by cases v <;> rfl) (λi v H1 N ai a7 fs bc=>?_) (λqs H1 a7 fs aw al dR dy=>?_)
 .unfold bz at ai;rw[d7]at ai;cases au:(g8 x nl)[i]? with
  |none=>rw[au]at ai;cases ai
  |some r=>
   rw[au]at ai;have e:=d6 ai;subst e;have hm:=G_ bg (cC au);have fH:=IP (x:=r) amN;nofun;exact(Sub.name,by rw[jw];decide,hK _ (),hK _ (show ↑(g8 r b3)<=40000 by omega),bc)
 .have MJ:aC H H1:=(bp aq).trans a7;refine q _ _ (MJ.gm (MJ.free dy)) ((fs (a8.upd)).upd) (qs,aP,MJ.free dy,λhm=>?_,?_,λi du r af aj=>?_)
  .obtain⟨j,aZ,e⟩:=sG hm;have Hu:j<↑(bz (g8 x nl)):=()
   have:=al j dR _ (by rw[bJ aZ,e]) (bJ Hu);rw[dy]at this;cases this.1
  .rw [aw];unfold iI bz;rw[a9,a9]
  .unfold iI at aj;rw[d7]at aj;cases au:(g8 x nl)[i]? with
   |none=>rw[au]at aj;cases aj
   |some fu=>
    rw[au]at aj;have e:=d6 aj;subst e;have z:=al i du (.str fu) af (by unfold bz;rw[d7,au];rfl);refine(by rw[aO (cM z.1 dy)];exact z.1,?_);have:=z.2;by_cases aF:du=p
    .rw [aF];exact aq
    .rwa [aO aF]at this
structure aQ where
 k:Nat
 name:Str
 start:Int
 fin:Int
 off:Int
 near:Int
 least:Int
noncomputable def d5:Nat->Str
 |0=>aa "car"
 |1=>aa "foot"
 |_=>aa "tram"
noncomputable def bA.gd(t:bA):Nat->Addr
 |0=>t.i2
 |1=>t.i_
 |_=>t.jc
noncomputable def ml(d:aQ):List (Str×V):=[(p'p (aa "kind") (.str (d5 d.k))),(p'p (aa "name") (.str d.name)),(p'p (aa "start") (.int d.start)),(p'p (aa "end") (.int d.fin)),(p'p (aa "off") (.int d.off)),(p'p (aa "near") (.int d.near)),(p'p (aa "least") (.int d.least))]
noncomputable abbrev pG:List Str:=[aa "kind",aa "name",aa "start",aa "end",aa "off",aa "near",aa "least"]
def N5(d:aQ):(ml d).map (·.1)=pG:=rfl
def eU(t:bA)(H:ar)(p:Addr)(d:aQ):Prop:=d.k<3/\∃ak,H p\(.ins (t.gd d.k) ak (ml d))
def eU.same{t:bA}{p:Addr}{d:aQ}(h:eU t H p d)(s:aC H I):eU t I p d:=(h.1,h.2.imp λak e=>s _ _ e)
def vt(t:bA)(C:Addr):Prop:=∃k,k<3/\C=t.gd k
noncomputable def c1(d:aQ):Int:=match d.k with|0=>1|1=>0|_=>2
noncomputable def c5(d:aQ):Int:=match d.k with|0=>2|1=>d.off|_=>1
section
variable{w:World}{K:a'}{av:Str->Option Value}{t:bA}
theorem Txt.sd(T:Txt w K av t):∀k,gh K (t.gd k)
 |0=>T.KZ
 |1=>T.Ks
 |_+2=>T.GZ
theorem Txt.W9(T:Txt w K av t)(hf:f∈pG):∀k,cY K (t.gd k) f:=by
 intro k;simp only[pG,cT,fq,or_false]at hf;rcases hf with rfl|rfl|rfl|rfl|rfl|rfl|rfl
 .match k with
  |0=>exact T.ais
  |1=>exact T.aaG
  |_+2=>exact T.alP
 .match k with
  |0=>exact T.aje
  |1=>exact T.amC
  |_+2=>exact T.aku
 .match k with
  |0=>exact T.akI
  |1=>exact T.aqx
  |_+2=>exact T.abE
 .match k with
  |0=>exact T.anY
  |1=>exact T.adi
  |_+2=>exact T.ajM
 .match k with
  |0=>exact T.abk
  |1=>exact T.agi
  |_+2=>exact T.aoy
 .match k with
  |0=>exact T.aeH
  |1=>exact T.aaC
  |_+2=>exact T.Ix
 .match k with
  |0=>exact T.aiE
  |1=>exact T.aiJ
  |_+2=>exact T.aco
theorem Txt.cw_inj(T:Txt w K av t){j k:Nat}(aZ:j<3)(aI:k<3)(e:t.gd j=t.gd k):j=k:=by
 match j,k,aZ,aI with
 |0,0,_,_=>rfl
 |0,1,_,_=>exact absurd e T.Tk
 |0,2,_,_=>exact absurd e T.Qk
 |1,0,_,_=>exact absurd e.symm T.Tk
 |1,1,_,_=>rfl
 |1,2,_,_=>exact absurd e T.QF
 |2,0,_,_=>exact absurd e.symm T.Qk
 |2,1,_,_=>exact absurd e.symm T.QF
 |2,2,_,_=>rfl
 |j+3,_,h,_=>omega
 |_,k+3,_,h=>omega
def eU.fld(T:Txt w K av t){p:Addr}{d:aQ}(h:eU t H p d){v:V}(i:Nat)(ao:pG.findIdx? (· == f)\i)(aM:(ml d)[i]?\(p'p f v)):ix K H p f v:=by
 let(_,ak,e):=h;have hm:f∈pG:=by
  let(cD,af,_):=List.findIdx?_eq_some_iff_getElem.mp ao;have:pG[i]=f:=by simpa using af
  rw[<- this];exact nH cD
 exact(_,ak,_,e,T.sd _,T.W9 hm _,kI pG i (N5 d) ao aM)
def eU.Dd(T:Txt w K av t){p:Addr}{d:aQ}(h:eU t H p d):ix K H p (aa "name") (.str d.name):=h.fld T 1 ∅ rfl
def eU.wz(T:Txt w K av t){p:Addr}{d:aQ}(h:eU t H p d):ix K H p (aa "start") (.int d.start):=h.fld T 2 ∅ rfl
def eU.tv(T:Txt w K av t){p:Addr}{d:aQ}(h:eU t H p d):ix K H p (aa "end") (.int d.fin):=h.fld T 3 ∅ rfl
def eU.QJ(T:Txt w K av t){p:Addr}{d:aQ}(h:eU t H p d):ix K H p (aa "off") (.int d.off):=h.fld T 4 ∅ rfl
def eU.ac2(T:Txt w K av t){p:Addr}{d:aQ}(h:eU t H p d):ix K H p (aa "near") (.int d.near):=h.fld T 5 ∅ rfl
def eU.ad1(T:Txt w K av t){p:Addr}{d:aQ}(h:eU t H p d):ix K H p (aa "least") (.int d.least):=h.fld T 6 ∅ rfl
end
def alW(t:bA):bH:=λvs H Q _=>∃(p ak:Addr) (d:aQ),vs=[⇑p,.str (d5 d.k),.str d.name,.int d.start,.int d.fin,.int d.off,.int d.near,.int d.least]/\d.k<3/\H p\(.ins (t.gd d.k) ak [])/\Q .b4 (upd H p (.ins (t.gd d.k) ak (ml d)))
def ui(t:bA)(k:Nat):bH:=λvs H Q _=>∃(p ak:Addr) (d:aQ),vs=[⇑p,.str d.name,.int d.start,.int d.fin,.int d.off,.int d.near,.int d.least]/\d.k=k/\H p\(.ins (t.gd d.k) ak [])/\Q .b4 (upd H p (.ins (t.gd d.k) ak (ml d)))
def GK:cj P base T 1 t.Bl t.HI B4 (alW t):=by
 exists T.O7.ok afM,9
 let(p,ak,d,rfl,aI,aq,q):=h;refine(_,(aN (h1 (U 0) (U 1) rfl)
   (aN (h1 (U 0) (U 2) rfl)
   (aN (h1 (U 0) (U 3) rfl)
   (aN (h1 (U 0) (U 4) rfl)
   (aN (h1 (U 0) (U 5) rfl)
   (aN (h1 (U 0) (U 6) rfl)
   (aY (h1 (U 0) (U 7) rfl)))))))),?_)
 nofun;have na:∀{f:Str},f∈pG->cY K (t.gd d.k) f:=λhf=>T.W9 hf d.k
 refine(_,_,_,aq,T.sd _,na ∅,∅,?_);refine(_,_,_,aP,T.sd _,na ∅,fD (n:=999) ∅,?_);refine(_,_,_,aP,T.sd _,na ∅,fD (n:=999) (fD (n:=998) ∅),?_);refine(_,_,_,aP,T.sd _,na ∅,fD (n:=999) (fD (n:=998) (fD (n:=997) ∅)),?_);refine(_,_,_,aP,T.sd _,na ∅,fD (n:=999) (fD (n:=998) (fD (n:=997) (fD (n:=996) ∅))),?_);refine(_,_,_,aP,T.sd _,na ∅,fD (n:=999) (fD (n:=998) (fD (n:=997) (fD (n:=996) (fD (n:=995) ∅)))),?_);refine(_,_,_,aP,T.sd _,na ∅,fD (n:=999) (fD (n:=998) (fD (n:=997) (fD (n:=996) (fD (n:=995) (fD (n:=994) ∅))))),?_);simp only[pY];rw[show dz (aa "kind") (V.str (d5 d.k)) ([]:List (Str×V))=[(p'p (aa "kind") (V.str (d5 d.k)))]from hl [] rfl ∅,
  show dz (aa "name") (V.str d.name) ([(p'p (aa "kind") (V.str (d5 d.k)))]:List (Str×V))=[(p'p (aa "kind") (V.str (d5 d.k))),(p'p (aa "name") (V.str d.name))]from hl [aa "kind"] rfl ∅,
  show dz (aa "start") (V.int d.start) ([(p'p (aa "kind") (V.str (d5 d.k))),(p'p (aa "name") (V.str d.name))]:List (Str×V))=[(p'p (aa "kind") (V.str (d5 d.k))),(p'p (aa "name") (V.str d.name)),(p'p (aa "start") (V.int d.start))]from hl [aa "kind",aa "name"] rfl ∅,
  show dz (aa "end") (V.int d.fin) ([(p'p (aa "kind") (V.str (d5 d.k))),(p'p (aa "name") (V.str d.name)),(p'p (aa "start") (V.int d.start))]:List (Str×V))=[(p'p (aa "kind") (V.str (d5 d.k))),(p'p (aa "name") (V.str d.name)),(p'p (aa "start") (V.int d.start)),(p'p (aa "end") (V.int d.fin))]from hl [aa "kind",aa "name",aa "start"] rfl ∅,
  show dz (aa "off") (V.int d.off) ([(p'p (aa "kind") (V.str (d5 d.k))),(p'p (aa "name") (V.str d.name)),(p'p (aa "start") (V.int d.start)),(p'p (aa "end") (V.int d.fin))]:List (Str×V))=[(p'p (aa "kind") (V.str (d5 d.k))),(p'p (aa "name") (V.str d.name)),(p'p (aa "start") (V.int d.start)),(p'p (aa "end") (V.int d.fin)),(p'p (aa "off") (V.int d.off))]from hl [aa "kind",aa "name",aa "start",aa "end"] rfl ∅,
  show dz (aa "near") (V.int d.near) ([(p'p (aa "kind") (V.str (d5 d.k))),(p'p (aa "name") (V.str d.name)),(p'p (aa "start") (V.int d.start)),(p'p (aa "end") (V.int d.fin)),(p'p (aa "off") (V.int d.off))]:List (Str×V))=[(p'p (aa "kind") (V.str (d5 d.k))),(p'p (aa "name") (V.str d.name)),(p'p (aa "start") (V.int d.start)),(p'p (aa "end") (V.int d.fin)),(p'p (aa "off") (V.int d.off)),(p'p (aa "near") (V.int d.near))]from hl [aa "kind",aa "name",aa "start",aa "end",aa "off"] rfl ∅,
  show dz (aa "least") (V.int d.least) ([(p'p (aa "kind") (V.str (d5 d.k))),(p'p (aa "name") (V.str d.name)),(p'p (aa "start") (V.int d.start)),(p'p (aa "end") (V.int d.fin)),(p'p (aa "off") (V.int d.off)),(p'p (aa "near") (V.int d.near))]:List (Str×V))=[(p'p (aa "kind") (V.str (d5 d.k))),(p'p (aa "name") (V.str d.name)),(p'p (aa "start") (V.int d.start)),(p'p (aa "end") (V.int d.fin)),(p'p (aa "off") (V.int d.off)),(p'p (aa "near") (V.int d.near)),(p'p (aa "least") (V.int d.least))]from hl [aa "kind",aa "name",aa "start",aa "end",aa "off",aa "near"] rfl ∅]
 exact q
def agO:cj P base T 2 t.wX t.CL kF (ui t 0):=by
 refine cn (GK T) λz2=>?_;exists T.Wj.ok ag1,9
 let(p,ak,d,rfl,aI,aq,q):=h;refine(_,(aY (eu (HL rfl T.LQ T.L1 z2 au T.Mn .nil cJ (ag (U 0) (ag Db (ag (U 1) (ag (U 2) (ag (U 3) (ag (U 4) (ag (U 5) (ag (U 6) aA))))))))))),?_);nofun;exact(p,ak,d,by rw[aI];rfl,(),aq,q)
def aeb:cj P base T 2 t.zG t.ET kF (ui t 1):=by
 refine cn (GK T) λz2=>?_;exists T.VH.ok Z_,9
 let(p,ak,d,rfl,aI,aq,q):=h;refine(_,(aY (eu (HL rfl T.LQ T.L1 z2 au T.Mn .nil cJ (ag (U 0) (ag Db (ag (U 1) (ag (U 2) (ag (U 3) (ag (U 4) (ag (U 5) (ag (U 6) aA))))))))))),?_);nofun;exact(p,ak,d,by rw[aI];rfl,(),aq,q)
def aoj:cj P base T 2 t.xv t.Fd kF (ui t 2):=by
 refine cn (GK T) λz2=>?_;exists T.Op.ok ac8,9
 let(p,ak,d,rfl,aI,aq,q):=h;refine(_,(aY (eu (HL rfl T.LQ T.L1 z2 au T.Mn .nil cJ (ag (U 0) (ag Db (ag (U 1) (ag (U 2) (ag (U 3) (ag (U 4) (ag (U 5) (ag (U 6) aA))))))))))),?_);nofun;exact(p,ak,d,by rw[aI];rfl,(),aq,q)
def vS(t:bA)(C:Addr):bH:=λvs H Q _=>∃p d,vs=[⇑p]/\eU t H p d/\C=t.gd d.k/\Q (.int (c1 d)) H
def vq(t:bA)(C:Addr):bH:=λvs H Q _=>∃p d,vs=[⇑p]/\eU t H p d/\C=t.gd d.k/\Q (.int (c5 d)) H
def apv:cj P base T 1 t.Bt t.Mh ["self"] (vS t (t.gd 0)):=by
 exists T.SN.ok ajT,9
 let(p,d,rfl,W,cq,q):=h;have aI:=(T.cw_inj ∅ W.1 cq).symm;refine(_,(aY (bR aS)),?_);rw[show c1 d=1 by unfold c1;simp only[aI]]at q;nofun;exact q
def ag0:cj P base T 1 t.D7 t.GI ["self"] (vS t (t.gd 1)):=by
 exists T.QR.ok lv,9
 let(p,d,rfl,W,cq,q):=h;have aI:=(T.cw_inj ∅ W.1 cq).symm;refine(_,(aY (bR aS)),?_);rw[show c1 d=0 by unfold c1;simp only[aI]]at q;nofun;exact q
def aqB:cj P base T 1 t.B5 t.Jd ["self"] (vS t (t.gd 2)):=by
 exists T.S'.ok bv,9
 let(p,d,rfl,W,cq,q):=h;have aI:=(T.cw_inj ∅ W.1 cq).symm;refine(_,(aY (bR aS)),?_);rw[show c1 d=2 by unfold c1;simp only[aI]]at q;nofun;exact q
theorem Rt(T:Txt w K av t):qz P w K av base cN 1 (vt t) "ready" ["self"] (vS t):=by
 refine⟨λC cq=>?_⟩;let(k,aI,rfl):=cq
 match k,aI with
 |0,_=>exact(_,_,T.KZ,T.adS,apv T,T.af0)
 |1,_=>exact(_,_,T.Ks,T.ahn,ag0 T,T.aqt)
 |2,_=>exact(_,_,T.GZ,T.am0,aqB T,T.aqo)
def aaP:cj P base T 1 t.ii t.Gx ["self"] (vq t (t.gd 0)):=by
 exists T.QH.ok agA,9
 let(p,d,rfl,W,cq,q):=h;have aI:=(T.cw_inj ∅ W.1 cq).symm;refine(_,(aY (bR aS)),?_);rw[show c5 d=2 by unfold c5;simp only[aI]]at q;nofun;exact q
def agG:cj P base T 1 t.Cp t.Gw ["self"] (vq t (t.gd 1)):=by
 exists T.XR.ok ao0,9
 let(p,d,rfl,W,cq,q):=h;have aI:=(T.cw_inj ∅ W.1 cq).symm;refine(_,(aY (bR (dJ (U 0) rfl))),?_);rw[show c5 d=d.off by unfold c5;simp only[aI]]at q;nofun;exact(_,W.QJ T,q)
def aps:cj P base T 1 t.Bx t.I8 ["self"] (vq t (t.gd 2)):=by
 exists T.Y1.ok aom,9
 let(p,d,rfl,W,cq,q):=h;have aI:=(T.cw_inj ∅ W.1 cq).symm;refine(_,(aY (bR aS)),?_);rw[show c5 d=1 by unfold c5;simp only[aI]]at q;nofun;exact q
theorem Ws(T:Txt w K av t):qz P w K av base cN 1 (vt t) "fade" ["self"] (vq t):=by
 refine⟨λC cq=>?_⟩;let(k,aI,rfl):=cq
 match k,aI with
 |0,_=>exact(_,_,T.KZ,T.aep,aaP T,T.aeE)
 |1,_=>exact(_,_,T.Ks,T.agb,agG T,T.ahh)
 |2,_=>exact(_,_,T.GZ,T.ajf,aps T,T.apK)
noncomputable def f3(c:Nat):List (List Nat)->List Nat
 |[]=>[]
 |[a]=>a
 |a::b::r=>a++c::f3 c (b::r)
theorem Sr:∀{a b X Y:List Nat},c∉a->c∉b->a++c::X=b++c::Y->a=b/\X=Y
 |[],[],X,Y,_,_,h=>(rfl,(uy h).2)
 |[],d::b,X,Y,_,ae,h=>absurd (uy h).1 (λz=>ae (by simp[<- z]))
 |d::a,[],X,Y,aJ,_,h=>absurd (uy h).1 (λz=>aJ (by simp[z]))
 |d::a,e::b,X,Y,aJ,ae,h=>by
  let(af,aj):=uy h;let(az,aE):=Sr (λz=>aJ (fS _ z)) (λz=>ae (fS _ z)) aj;exact(by rw[af,az],aE)
theorem Wa:∀{ps qs:List (List Nat)},(∀p∈ps,c∉p)->(∀q∈qs,c∉q)->ps≠[]->qs≠[]->f3 c ps=f3 c qs->ps=qs
 |[a],[b],_,_,_,_,h=>by rw[show a=b from h]
 |[a],b::jy::r,aJ,_,_,_,h=>absurd (show c∈a by rw[show a=b++c::f3 c (jy::r)from h];simp) (aJ a (by simp))
 |a::mE::r,[b],_,ae,_,_,h=>absurd (show c∈b by rw[show b=a++c::f3 c (mE::r)from h.symm];simp) (ae b (by simp))
 |a::mE::r,b::jy::s,aJ,ae,_,_,h=>by
  let(az,aE):=Sr (aJ a (by simp)) (ae b (by simp)) (show a++c::f3 c (mE::r)=b++c::f3 c (jy::s)from h);rw[az,Wa (λp aq=>aJ p (fS _ aq)) (λq aF=>ae q (fS _ aF)) (by simp) (by simp) aE]
 |[],_,_,_,h,_,_=>absurd rfl h
 |_::_,[],_,_,_,h,_=>absurd rfl h
theorem Yk{c d:Nat}:∀{ps:List (List Nat)},d∈f3 c ps->d=c\/∃p∈ps,d∈p
 |[],h=>nomatch h
 |[a],h=>.inr (a,by simp,h)
 | a::b::r,h=>by
  rcases il.mp (show d∈a++c::f3 c (b::r)from h)with h|h
  .exact .inr (a,by simp,h)
  .rcases cT.mp h with h|h
   .exact .inl h
   .rcases Yk h with h|⟨p,aq,h⟩
    .exact .inl h
    .exact .inr (p,fS _ aq,h)
theorem iy(c:Nat):∀ys:List Str,(dk ⟨#[c]⟩ ys).cps.toList=f3 c (ys.map (·.cps.toList))
 |[]=>rfl
 |[a]=>rfl
 |a::b::r=>by
  show(a++⟨#[c]⟩++dk ⟨#[c]⟩ (b::r)).cps.toList=_;rw[gH,gS,gH,gS,iy c (b::r)];simp[f3]
def hg{x y:Str}(h:x.cps.toList=y.cps.toList):x=y:=by
 cases x;cases y;exact congrArg Str.mk (apt.mp h)
def um(aL:ys≠[])(hf:∀y∈ys,c∉y.cps.toList):g8 (dk ⟨#[c]⟩ ys) ⟨#[c]⟩=ys:=by
 have e:=congrArg (·.cps.toList) (StrLaws.join_split (dk ⟨#[c]⟩ ys) ⟨#[c]⟩);simp only[iy]at e;have aE:=Wa (c:=c) (ps:=(g8 (dk ⟨#[c]⟩ ys) ⟨#[c]⟩).map (·.cps.toList)) (qs:=ys.map (·.cps.toList)) (λp aq=>by
  let(y,bg,rfl):=dg.mp aq;exact StrLaws.split_free _ c y bg) (λp aq=>by
  let(y,bg,rfl):=dg.mp aq;exact hf y bg) (by simp[aa5]) (by simpa using aL) e
 exact(List.map_inj_right λx y h=>hg h).mp aE
noncomputable abbrev num(v:Int):Str:=aa (toString v)
def am4:∀n,n<1000->(decide (1<=↑((m_ 10 n).map o9))&&decide (↑((m_ 10 n).map o9)<=3)&&((m_ 10 n).map o9).all dl&&(decide (↑((m_ 10 n).map o9)<=1)||decide (((m_ 10 n).map o9).headD 0≠48)) &&
  decide (GR ((m_ 10 n).map o9)=n))=true:=∅
def Aa{v:Int}(h0:0<=v)(af:v<1000):kq (num v)=true/\val (num v)=v:=by
 have e:=Ud v.toNat;rw[iF h0]at e;have a:=am4 v.toNat ();rw[<- e,jt,decide_eq_true_eq]at a;exact(a.1,by show((GR (cs (num v)):Nat):Int)=v;rw[a.2];omega)
def n_{v lo ao:Int}(h0:0<=v)(af:v<1000)(aw:lo<=v)(cG:v<=ao):nI (num v) lo ao=.int v:=by
 let(a,b):=Aa h0 af;unfold nI;rw[a,b,decide_eq_false (by omega:¬v<lo),decide_eq_false (by omega:¬ao<v)];rfl
def aoD{u v:Int}(h0:0<=u)(af:u<1000)(aj:0<=v)(a_:v<1000)(e:num u=num v):u=v:=by
 rw[<- (Aa h0 af).2,e,(Aa aj a_).2]
def O0{v:Int}(h0:0<=v)(af:v<1000):∀c∈(num v).cps.toList,48<=c/\c<=57:=λc ah=>by
 have:=oe.mp (Ve (Aa h0 af).1).2 c ah;simpa[dl]using this
def XV:∀c∈gB.cps.toList,97<=c/\c<=122:=∅
def aft:∀k,k<26->97+k∈gB.cps.toList:=∅
def r2{x:Str}(h:made x gB 8=true):(1<=↑x/\↑x<=8)/\∀c∈x.cps.toList,97<=c/\c<=122:=by
 unfold made at h;split at h
 .cases h
 .rename_i af;split at h
  .cases h
  .rename_i aj;have a_:¬ ↑x=0:=λz=>af (w_.mpr z)
   refine((),λc ah=>?_);have:=oe.mp h c ah;rw[G5]at this;exact XV c (of_decide_eq_true this)
def Ml{x:Str}(h0:1<=↑x)(af:↑x<=8)(h:∀c∈x.cps.toList,97<=c/\c<=122):made x gB 8=true:=by
 unfold made;rw[if_neg (λz=>by have:=w_.mp z;omega),if_neg ()];refine oe.mpr λc ah=>?_
 have:=h c ah;rw[G5];have e:=aft (c-97) ();rw[show 97+(c-97)=c by omega]at e;exact decide_eq_true e
structure la(n:Int)(d:aQ):Prop where
 k:d.k<3
 nm:made d.name gB 8=true
 st:0<=d.start/\d.start<n
 fC:0<=d.fin/\d.fin<n
 ne:d.start≠d.fin
 of:0<=d.off/\d.off<=30
 En:0<=d.near/\d.near<=30
 le:1<=d.least/\d.least<=60
structure pS(n:Int)(ds:List aQ):Prop where
 nn:2<=n/\n<=99
 ln:1<=↑ds/\↑ds<=12
 al:∀d∈ds,la n d
 aD:(ds.map (·.name)).Nodup
noncomputable def mR(d:aQ):List Str:=[d5 d.k,d.name,num d.start,num d.fin,num d.off,num d.near,num d.least]
noncomputable def jg(n:Int)(ds:List aQ):List (List Str):=[aa "ring",num n]::ds.map mR
noncomputable def gk(n:Int)(ds:List aQ):Str:=dk nl ((jg n ds).map (dk b3))
def n7(x:Str):Prop:=↑x<=8/\(32:Nat)∉x.cps.toList/\(10:Nat)∉x.cps.toList
theorem T9(k:Nat):n7 (d5 k):=by
 match k with
 |0=>exact(∅,∅,∅)
 |1=>exact(∅,∅,∅)
 |_+2=>exact(show ↑(aa "tram")<=8 by ac_nf,(∅:(32:Nat)∉(aa "tram").cps.toList),show(10:Nat)∉(aa "tram").cps.toList by ac_nf)
def gP{v:Int}(h0:0<=v)(af:v<1000):n7 (num v):=
 (cH (GG h0 ()) ∅,λz=>by have:=O0 h0 af _ z;omega,λz=>by have:=O0 h0 af _ z;omega)
def vu{x:Str}(h:made x gB 8=true):n7 x:=
 ((r2 h).1.2,λz=>by have:=(r2 h).2 _ z;omega,λz=>by have:=(r2 h).2 _ z;omega)
def la.plain{n:Int}{d:aQ}(h:la n d)(aL:n<=99):∀x∈mR d,n7 x:=λx ai=>by
 have af:=h.st;have aj:=h.fC;have a_:=h.of;have b':=h.En;have dn:=h.le;simp only[mR,cT,fq,or_false]at ai;rcases ai with rfl|rfl|rfl|rfl|rfl|rfl|rfl
 .exact T9 _
 .exact vu h.nm
 .exact gP () ()
 .exact gP () ()
 .exact gP () ()
 .exact gP () ()
 .exact gP () ()
theorem pS.plain{n:Int}(h:pS n ds):∀r∈jg n ds,∀x∈r,n7 x:=λr au x ai=>by
 have aL:=h.nn;rcases cT.mp au with rfl|au
 .simp only[cT,fq,or_false]at ai;rcases ai with rfl|rfl
  .exact (∅,∅,∅)
  .exact gP () ()
 .let(d,hd,rfl):=dg.mp au;exact(h.al d hd).plain aL.2 x ai
def OS(h0:rs≠[])(af:∀r∈rs,r≠[])(aj:∀r∈rs,∀x∈r,n7 x):iI (dk nl (rs.map (dk b3)))=rs:=by
 unfold iI;rw[kK,lg];rw[um (by simpa using h0) (λy bg=>by
  let(r,au,rfl):=dg.mp bg;rw[iy];intro z;rcases Yk z with z|⟨p,aq,z⟩
  .cases z
  .let(x,ai,rfl):=dg.mp aq;exact(aj r au x ai).2.2 z)]
 rw[pK];have:∀r∈rs,((λr=>g8 r ⟨#[32]⟩) ∘ dk ⟨#[32]⟩) r=r:=λr au=>um (af r au) λx ai=>(aj r au x ai).2.1
 exact(Sf this).trans (List.map_id rs)
def aip{n:Int}(h:pS n ds):iI (gk n ds)=jg n ds:=OS (by simp[jg]) (λr au=>by
 rcases cT.mp au with rfl|au
 .simp
 .let(d,hd,rfl):=dg.mp au;simp[mR]) h.plain
theorem mf(sep:Str)(B:Nat):∀ys:List Str,(∀y∈ys,↑y<=B)->↑(dk sep ys)<=↑ys*(B+↑sep)
 |[],_=>by show ↑(nN)<=_;exact gx _
 |[a],h=>by
  have:=h a (by simp);show ↑a<=_;simp only[gw,uZ];omega
 |a::b::r,h=>by
  have af:=h a (by simp);have aj:=mf sep B (b::r) λy bg=>h y (fS _ bg)
  show ↑(a++sep++dk sep (b::r))<=_;rw[gQ,gQ,gw,Nat.succ_mul];omega
def apo{n:Int}(h:pS n ds):↑(gk n ds)<=1000:=by
 have af:∀y∈(jg n ds).map (dk b3),↑y<=63:=λy bg=>by
  let(r,au,rfl):=dg.mp bg;have:=mf b3 8 r λx ai=>(h.plain r au x ai).1
  rw[jw]at this;have aw:↑r<=7:=by
   rcases cT.mp au with rfl|au
   .simp
   .let(d,hd,rfl):=dg.mp au;simp[mR]
  omega
 have aj:=mf nl 63 _ af;rw[lC]at aj;have a_:↑((jg n ds).map (dk b3))<=13:=by
  have:=h.ln;simp[jg];omega
 unfold gk;omega
abbrev oI:List Str:=[aa "row",aa "told",aa "place"]
noncomputable def kU(row:Int)(a4:Addr)(pl:Int):List (Str×V):=[(p'p (aa "row") (.int row)),(p'p (aa "told") (⇑a4)),(p'p (aa "place") (.int pl))]
def xQ(row:Int)(a4:Addr)(pl:Int):(kU row a4 pl).map (·.1)=oI:=rfl
def abI(row:Int)(a4:Addr)(pl v:Int):dz (aa "place") (.int v) (kU row a4 pl)=kU row a4 v:=by
 unfold kU;simp only[dz];rw[if_neg ∅,if_neg ∅];rfl
def cx(t:bA)(H:ar)(p:Addr)(row:Int)(ws:List Str)(pl:Nat):Prop:=
 (↑ws<=1000/\∀x∈ws,↑x<=1000)/\∃ak a4,H p\(.ins t.gz ak (kU row a4 pl))/\H a4\(.lst (bz ws))
def cW(p:Addr)(H I:ar):Prop:=∀b u,b≠p->H b\u->I b\u
def cW.trans{p:Addr}(a:cW p H H1)(b:cW p H1 ay):cW p H ay:=λc u n e=>b c u n (a c u n e)
def cW.of{p:Addr}(a:aC H H1):cW p H H1:=λc u _ e=>a c u e
def cW.put{p:Addr}{o:eY}:cW p H (upd H p o):=λc u n e=>by rw[aO n];exact e
def mi(ws:List Str):↑(bz ws)=↑ws:=by unfold bz;rw[a9]
def NM{ws:List Str}{i:Nat}{x:Str}(h:ws[i]?\x):(bz ws)[i]?\(.str x):=by unfold bz;rw[d7,h];rfl
def Xm(ws:List Str):(bz ws).all kx=true:=by unfold bz;simp[kx]
def uT(x:Str)(xs:List Str):mm (.str x) (bz xs)=decide (x∈xs):=by
 unfold mm bz;rw[Z',mQ];simp only[qO,Function.comp,i8,beq_iff_eq,decide_eq_true_eq];constructor
 .intro (y,bg,rfl);exact bg
 .intro h;exact(x,h,rfl)
section
variable{w:World}{K:a'}{av:Str->Option Value}{t:bA}{H I:ar}{p:Addr}{row:Int}{ws:List Str}{pl:Nat}
def cx.same(h:cx t H p row ws pl)(s:aC H I):cx t I p row ws pl:=by
 let(ax,ak,a4,az,aE):=h;exact(ax,ak,a4,s _ _ az,s _ _ aE)
def cx.j0(h:cx t H p row ws pl)(s:cW q H I)(n:p≠q)(k:∃C ak aR,H q\(.ins C ak aR)):cx t I p row ws pl:=by
 let(ax,ak,a4,az,aE):=h;let(C,EG,aR,b7):=k;exact(ax,ak,a4,s _ _ n az,s _ _ (d_ aE b7 (by intro z;cases z)) aE)
theorem cx.ins(h:cx t H p row ws pl):∃C ak aR,H p\(.ins C ak aR):=by
 let(ax,ak,a4,az,aE):=h;exact(_,_,_,az)
def cx.no(row:Int)(a4:Addr)(pl:Int)(h:oI.contains m=false):(kU row a4 pl).lookup m=none:=tS oI (xQ ..) h
def KS(T:Txt w K av t)(e:H p\(.ins t.gz ak (kU row a4 pl))):ix K H p (aa "place") (.int pl):=
 (_,ak,_,e,T.ey,T.F0,kI oI 2 (xQ ..) ∅ rfl)
def Ha(T:Txt w K av t)(e:H p\(.ins t.gz ak (kU row a4 pl))):ix K H p (aa "told") ⇑a4:=
 (_,ak,_,e,T.ey,T.PB,kI oI 1 (xQ ..) ∅ rfl)
end
def G6(t:bA):bH:=λvs H Q _=>∃(p ak a4:Addr) (row:Int),vs=[⇑p,.int row,⇑a4]/\H p\(.ins t.gz ak [])/\Q .b4 (upd H p (.ins t.gz ak (kU row a4 0)))
def amx(t:bA):bH:=λvs H Q _=>∃p row ws pl,vs=[⇑p]/\cx t H p row ws pl/\pl<=↑ws/\Q (.str (ws.getD pl (aa ""))) H
def ae7(t:bA):bH:=λvs H Q _=>∃p row ws pl,vs=[⇑p]/\cx t H p row ws pl/\Q (.bE (decide (pl<↑ws))) H
def vK(t:bA)(H:ar)(p:Addr)(row:Int)(ws:List Str)(pl:Nat)(R:ar->Prop):Prop:=∀I,cW p H I->(aG H->aG I)->cx t I p row ws pl->R I
def ut(t:bA):bH:=λvs H Q _=>∃p row ws pl,vs=[⇑p,.bE true]/\cx t H p row ws pl/\vK t H p row ws (pl+1) (Q .b4)
def X_(K:a')(t:bA):bH:=λvs H Q _=>∃p row ws pl x c xs,vs=[⇑p,⇑c]/\cx t H p row ws pl/\ws[pl]?\x/\aH K H c (bz xs)/\x∈xs/\vK t H p row ws (pl+1) (Q (.str x))
def anc(t:bA):bH:=λvs H Q _=>∃p row ws pl x lo ao v,vs=[⇑p,.int lo,.int ao]/\cx t H p row ws pl/\ws[pl]?\x/\nI x lo ao=.int v/\aG H/\vK t H p row ws (pl+1) (Q (.int v))
def Om(t:bA):bH:=λvs H Q _=>∃p row ws pl,vs=[⇑p]/\cx t H p row ws pl/\pl=↑ws/\Q .b4 H
def Vy:cj P base T 1 t.va t.y7 uU (G6 t):=by
 exists T.VP.ok aqc,9
 let(p,ak,a4,row,rfl,aq,q):=h;refine(_,(aN (h1 (U 0) (U 1) rfl)
   (aN (h1 (U 0) (U 2) rfl)
   (aY (h1 (U 0) aS rfl)))),?_)
 nofun;refine(_,_,_,aq,T.ey,T.agd,∅,?_);refine(_,_,_,aP,T.ey,T.PB,fD (n:=999) ∅,?_);refine(_,_,_,aP,T.ey,T.F0,fD (n:=999) (fD (n:=998) ∅),?_);simp only[pY];rw[show dz (aa "row") (V.int row) ([]:List (Str×V))=[(p'p (aa "row") (V.int row))]from hl [] rfl ∅,
  show dz (aa "told") (V.ref a4) ([(p'p (aa "row") (V.int row))]:List (Str×V))=[(p'p (aa "row") (V.int row)),(p'p (aa "told") (V.ref a4))]from hl [aa "row"] rfl ∅,
  show dz (aa "place") (V.int 0) ([(p'p (aa "row") (V.int row)),(p'p (aa "told") (V.ref a4))]:List (Str×V))=[(p'p (aa "row") (V.int row)),(p'p (aa "told") (V.ref a4)),(p'p (aa "place") (V.int 0))]from hl [aa "row",aa "told"] rfl ∅]
 exact q
def vE:cj P base T 1 t.Gc t.Gn ["self"] (amx t):=by
 exists T.U6.ok ir,9
 let(p,row,ws,pl,rfl,(ax,ak,a4,az,aE),hle,q):=h;refine(_,(aN (c0 (cS eZ (dJ (U 0) rfl) (f7 iM rfl T.hY hT (ag (dJ (U 0) rfl) aA)) (ct _)) (aY (bR Db)) c7)
   (aY (bR (bP dA (dJ (U 0) rfl) (dJ (U 0) rfl))))),?_)
 nofun;refine cX (decide ((pl:Int)=(↑ws:Int))) (λQ aV=>?_) (λc=>?_) (λc=>?_)
 .nofun;refine(_,KS T az,_,Ha T az,_,rfl,_,.inl (aH.of aE),rfl,?_);rw[mi];nofun;exact aV
 .nofun;have eT:pl=↑ws:=by have:=of_decide_eq_true c;omega
  rw[show ws.getD pl (aa "")=aa "" by rw[gG,aaV ()];rfl]at q;exact q
 .nofun;have eT:pl<↑ws:=by have:=of_decide_eq_false c;omega
  have ai:ws[pl]?\ws[pl]:=bJ eT;rw[gG,ai]at q;exact(_,Ha T az,_,KS T az,_,rfl,_,_,rfl,aH.of aE,_,cO (NM ai),q)
def amR:cj P base T 1 t.EN t.Im ["self"] (ae7 t):=by
 exists T.ci.ok ab9,9
 let(p,row,ws,pl,rfl,(ax,ak,a4,az,aE),q):=h;refine(_,(aY (bR (h9 qv (dJ (U 0) rfl) (f7 iM rfl T.hY hT (ag (dJ (U 0) rfl) aA)) (ct _)))),?_);nofun;have e:decide (pl<↑ws)=decide ((pl:Int)<(↑ws:Int)):=by rw[mQ];simp
 rw[e]at q;refine(_,KS T az,_,Ha T az,_,rfl,_,.inl (aH.of aE),?_);rw[mi];exact(_,rfl,q)
def zT:cj P base T 1 t.CO t.IB DP (ut t):=by
 exists T.QX.ok af6,9
 let(p,row,ws,pl,rfl,(ax,ak,a4,az,aE),q):=h;refine(_,(aN (c0 (Fk (jS (U 1))) (aY lH) c7)
   (aY (alz (U 0) aS ag8))),?_)
 nofun;refine cX false (λQ aV=>?_) (λah=>nomatch ah) (λ_=>?_)
 .nofun;exact aV
 .nofun;refine⟨_,_,_,az,T.ey,T.F0,_,kI oI 2 (xQ ..) ∅ rfl,_,rfl,_,_,az,by rw[<- a9 (f:=(·.1)),xQ];decide,?_⟩;rw[abI];exact q _ cW.put (λn=>n.upd) (ax,ak,a4,aP,by rw[aO (d_ aE az (by intro z;cases z))];exact aE)
def ms:cj P base T 2 t.wI t.Er BM (X_ K t):=by
 refine cn (vE T) λnS=>cn (zT T) λp1=>?_;exists T.VE.ok PD,9
 let(p,row,ws,pl,x,c,xs,rfl,R,ai,ah,hm,q):=h;refine(_,(aN (bO (i:=2) PD.aD (iL (U 0) T.ey T.vc nS au T.vL .nil cJ))
   (aN (eu (e0 (U 0) T.ey T.y_ p1 au T.yc .nil cJ (ag (h9 rm (U 2) (U 1) (by with_unfolding_all rfl)) aA)))
   (aY (bR (U 2))))),?_)
 have cD:pl<↑ws:=(cv.mp ai).1;have a0:ws.getD pl (aa "")=x:=by rw[gG,ai];rfl
 let(_,ak,a4,az,aE):=id R;nofun;refine(_,_,az,cx.no _ _ _ ∅,(p,row,ws,pl,rfl,R,(),?_));rw[a0];nofun;refine(_,_,az,cx.no _ _ _ ∅,_,.inl ah,rfl,Xm xs,?_);rw[uT,decide_eq_true hm];refine(p,row,ws,pl,rfl,R,λI s1 s2 s3=>?_);nofun;exact q I s1 s2 s3
def uJ:cj P base T 4 t.C4 t.ME Hl (anc t):=by
 refine cn (vE T) λnS=>cn (zT T) λp1=>cn (acO T) λaao=>?_;exists T.Xu.ok Zk,9
 let(p,row,ws,pl,x,lo,ao,v,rfl,R,ai,aM,a8,q):=h;refine(_,(aN (bO (i:=3) Zk.aD (bT aao au T.aiX T.Jr.bt T.alw (ag (iL (U 0) T.ey T.vc nS au T.vL .nil cJ) (ag (U 1) (ag (U 2) aA)))))
   (aN (eu (e0 (U 0) T.ey T.y_ p1 au T.yc .nil cJ (ag (h9 X2 (U 3) wZ (ct _)) aA)))
   (aY (bR (U 3))))),?_)
 have cD:pl<↑ws:=(cv.mp ai).1;have a0:ws.getD pl (aa "")=x:=by rw[gG,ai];rfl
 let(ax,ak,a4,az,aE):=id R;nofun;refine(_,_,az,cx.no _ _ _ ∅,(p,row,ws,pl,rfl,R,(),?_));rw[a0];nofun;refine(x,lo,ao,rfl,ax.2 x (cC ai),a8,?_);rw[aM];nofun;refine(_,_,az,cx.no _ _ _ ∅,?_);refine(p,row,ws,pl,rfl,R,λI s1 s2 s3=>?_);nofun;exact q I s1 s2 s3
def yb:cj P base T 2 t.xC t.EZ ["self"] (Om t):=by
 refine cn (amR T) λaoq=>?_;exists T.RJ.ok acq,9
 let(p,row,ws,pl,rfl,R,aw,q):=h;let(ax,ak,a4,az,aE):=id R;refine(_,(aY (c0 (jS (iL (U 0) T.ey T.aeR aoq au T.abm .nil cJ)) (aY lH) c7)),?_);nofun;refine cX false (λQ aV=>?_) (λah=>nomatch ah) (λ_=>?_)
 .nofun;refine(_,_,az,cx.no _ _ _ ∅,(p,row,ws,pl,rfl,R,?_));rw[decide_eq_false ()];exact(_,rfl,aV)
 .nofun;exact q
theorem cF{α β:Type}{f:α->β}{l:List α}{i:Nat}{y:β}(h:(l.map f)[i]?\y):∃x,l[i]?\x/\y=f x:=by
 rw[d7]at h;cases e:l[i]? with
 |none=>rw[e]at h;cases h
 |some x=>rw[e]at h;exact(x,rfl,(d6 h).symm)
def aoG(t:bA)(fP H:ar)(p:Addr)(rows:List (List Str)):Prop:=∃qs:List Addr,H p\(.lst (qs.map V.ref))/\fP p=none/\↑qs=↑rows/\∀(i:Nat) (q:Addr) (r:List Str),qs[i]?\q->rows[i]?\r->cx t H q i r 0/\fP q=none
def HS(t:bA):bH:=λvs H Q _=>∃x,vs=[.str x]/\↑x<=20000/\(∀r∈iI x,↑r<=1000/\∀y∈r,↑y<=1000)/\aG H/\∀p I,aC H I->aG I->aoG t H I p (iI x)->Q ⇑p I
theorem Oq:cj P base T 3 t.y5 t.yV ["text"] (HS t):=by
 have HH:bD P w K av base cN 2 t.xc t.zD ["text"] K6:=(Tq T).mono ∅;have LS:bD P w K av base cN 1 t.va t.y7 uU (G6 t):=Vy T;exists T.BO.ok ab5,9
 let(x,rfl,ax,lV,a8,q):=h;refine(_,(aY (bR (iz rfl (z5 rfl T.xZ (ag (bT HH au T.Og T.E7.bt T.Xa (ag (U 0) aA)) aA)) (hi (sc:=br (top 24)) rfl ∅) (N:=["row","told"]) (sel:=[none,none]) (ha (M:=["text"]) ∅) (fR.of (λ_ _ _ _=>(jm (K:=K) (n:=2) rfl rfl (eb (b6 (i:=0) (fk (N:=["row","told"]) ∅ rfl)) (eb (b6 (i:=1) (fk (N:=["row","told"]) ∅ rfl)) jd)))) (λ_ _ _ _=>(_,iB,by walk_at "B")) (λ_ _ _ _=>(_,(sX T.SI LS au rfl T.OA T.Ts .nil cJ (ag (U 0) (ag (U 1) aA))),by walk_at "B")))))),?_);nofun;refine(x,rfl,ax,a8,λp H1 j1 fs ⟨ps,aq,j4,hc,dI,uu⟩=>?_);nofun;refine((_,aH.of aq),?_);have hlen:↑ps<=sizeLine:=by
  rw[dI];unfold iI;rw[a9];have:=IP (x:=x) (y:=nl) (by rw[lC];exact b0 _);exact cH (show _<=40000 by omega) ∅
 refine dv.enum (xs:=ps.map V.ref) (λi ys ay=>aC H1 ay/\aG ay/\∃qs:List Addr,ys=qs.map V.ref/\↑qs=i/\∀(j:Nat) (q:Addr) (r:List Str),qs[j]?\q->(iI x)[j]?\r->cx t ay q j r 0/\H1 q=none)
  (by rw[a9];exact hlen) (aC.refl H1,fs,[],rfl,rfl,λj q r h _=>by simp at h) ?_ ?_ ?_
 .rintro i ys ay ao a3;ac_rfl
  let(s2,cg,qs,rfl,aF,_):=a3;subst ba;exact(aH.of (s2 _ _ aq),by rw[a9];omega)
 .rintro i v ys ay dR aM ⟨s2,cg,qs,rfl,aF,al⟩ dy N bc;rw[d7]at aM;cases Av:ps[i]? with
  |none=>rw[Av]at aM;cases aM
  | some pi=>
   rw[Av]at aM;have e:=(d6 aM).symm;subst e;refine vh ?_;nofun;refine(Sub.DG,λa ak aJ hd b8=>?_);refine(a,ak,pi,i,rfl,aP,rfl,?_);rw[pY];have s3:aC ay (upd (upd (upd ay dR (.tup [.int i,⇑pi])) ak (.own a)) a (.ins t.gz ak (kU i pi 0))):=by
    have s':aC ay (upd ay dR (.tup [.int i,⇑pi])):=bp dy;exact((aC.trans s' (bp hd)).gm (s'.free aJ))
   let(r,au):∃r,(iI x)[i]?\r:=((iI x)[i]'(by rw[<- dI];exact(cv.mp Av).1),bJ _);have adG:ay a=none:=(bp dy).free aJ;refine bc _ _ (s2.trans s3,((cg.upd).upd).upd,qs++[a],by rw[ew];rfl,by rw[c',aF];rfl,λj du dE af aj=>?_);by_cases aZ:j<↑qs
   .rw [sv aZ]at af;let(dS,dF):=al j du dE af aj;exact(dS.same s3,dF)
   .rw[sS ()]at af;have zH:j-↑qs=0:=by
     cases cG:j-↑qs with
     |zero=>rfl
     |succ n=>rw[cG]at af;simp at af
    rw[zH]at af;have b7:a=du:=by simpa using af
    subst b7;have gY:j=i:=()
    subst gY;rw[au]at aj;cases aj;refine((lV r (cC au),ak,pi,aP,?_),s2.free adG);exact s3 _ _ (s2 _ _ (uu j pi r Av au).1)
 .intro ys ay (s2,cg,qs,rfl,aF,al) dR dy;refine q dR _ ((j1.trans s2).gm ((j1.trans s2).free dy)) (cg.upd) (qs,aP,(j1.trans s2).free dy,by rw[aF,a9,dI],λi du r af aj=>?_);let(dS,dF):=al i du r af aj;exact(dS.same (bp dy),j1.free dF)
def PM(q:Addr)(H:ar)(R:ar->Prop):Prop:=∀I,cW q H I->aG I->R I
def Xc(t:bA):bH:=λvs H Q _=>∃q row n,vs=[⇑q]/\cx t H q row [aa "ring",num n] 0/\(2<=n/\n<=99)/\aG H/\PM q H (Q (.int n))
def nx(t:bA)(H:ar)(wl:Addr)(ds:List aQ):Prop:=∃as:List Addr,H wl\(.lst (as.map V.ref))/\↑as=↑ds/\∀(i:Nat) (a:Addr) (d:aQ),as[i]?\a->ds[i]?\d->eU t H a d
def amD(t:bA):bH:=λvs H Q _=>∃q row ws pl wl ds x,vs=[⇑q,⇑wl]/\cx t H q row ws pl/\ws[pl]?\x/\made x gB 8=true/\nx t H wl ds/\↑ds<=12/\(∀d∈ds,d.name≠x)/\aG H /\
 ∀I,cW q H I->aG I->cx t I q row ws (pl+1)->Q (.str x) I
def adv(t:bA):bH:=λvs H Q _=>∃q row ws pl n st fC,vs=[⇑q,.int n,.int st]/\cx t H q row ws pl/\ws[pl]?\(num fC)/\(0<=st/\st<n)/\(0<=fC/\fC<n)/\st≠fC/\n<=99/\aG H /\
 ∀I,cW q H I->aG I->cx t I q row ws (pl+1)->Q (.int fC) I
def apA(t:bA):bH:=λvs H Q _=>∃d:aQ,vs=[.str (d5 d.k),.str d.name,.int d.start,.int d.fin,.int d.off,.int d.near,.int d.least]/\d.k<3/\∀x I,aC H I->(aG H->aG I)->eU t I x d->H x=none->Q ⇑x I
def Oe(t:bA):bH:=λvs H Q _=>∃q row n wl ds d,vs=[⇑q,.int n,⇑wl]/\cx t H q row (mR d) 0/\la n d/\(2<=n/\n<=99)/\nx t H wl ds/\↑ds<=12/\(∀e∈ds,e.name≠d.name)/\aG H /\
 ∀x I,cW q H I->aG I->eU t I x d->H x=none->Q ⇑x I
def nx.j0{t:bA}(h:nx t H wl ds)(s:cW q H I)(r:cx t H q row ws pl):nx t I wl ds:=by
 let(as,az,aE,al):=h;let(ax,ak,a4,b7,gY):=r;refine(as,s _ _ (d_ az b7 (by intro z;cases z)) az,aE,λi a d af aj=>?_);let(aI,fc,j9):=al i a d af aj;refine(aI,fc,s _ _ (λz=>?_) j9);subst z;rw[j9]at b7;have hX:=d6 b7;injection hX with _ _ Xl;have Qh:(7:Nat)=3:=congrArg nA Xl;omega
theorem nx.same{t:bA}(h:nx t H wl ds)(s:aC H I):nx t I wl ds:=by
 let(as,az,aE,al):=h;exact(as,s _ _ az,aE,λi a d af aj=>(al i a d af aj).same s)
def aph:cj P base T 5 t.AF t.Dw ["reader"] (Xc t):=by
 refine cn (ms T) λoH=>cn (uJ T) λkm=>cn (yb T) λp0=>?_;exists T.Nr.ok PF,9
 let(q,row,n,rfl,R,aL,a8,kH):=h;refine(_,(aN (eu (e0 (U 0) T.ey T.vG oH au T.vB .nil cJ (ag (fE (ag Db aA)) aA)))
   (aN (bO (i:=1) PF.aD (e0 (U 0) T.ey T.pE km au T.oM .nil cJ (ag (gN rfl T.an8 T.tz) (ag (gN rfl T.ajE T.KB) aA))))
   (aN (eu (iL (U 0) T.ey T.xk p0 au T.yk .nil cJ))
   (aY (bR (U 1)))))),?_)
 let(_,ak,a4,az,aE):=id R;nofun;refine(_,_,az,cx.no _ _ _ ∅,∅,λp aq=>?_);have s0:aC H (upd H p (.lst [V.str (aa "ring")])):=bp aq;refine(q,row,_,0,aa "ring",p,[aa "ring"],rfl,R.same s0,rfl,aH.of aP,by simp,λH1 s1 bY kN=>?_);let(_,Ji,TO,f1,f2):=id kN;nofun;refine(_,_,f1,cx.no _ _ _ ∅,?_);have fs:=bY a8.upd;refine(q,row,_,1,num n,2,99,n,rfl,kN,rfl,n_ () () aL.1 aL.2,fs,λay s2 cg e9=>?_);let(_,Yw,RL,g1,g2):=id e9;nofun;refine(_,_,g1,cx.no _ _ _ ∅,?_);refine(q,row,_,2,rfl,e9,rfl,?_);nofun;exact kH ay (((cW.of s0).trans s1).trans s2) (cg fs)
def am6:cj P base T 3 t.GV t.IQ HZ (amD t):=by
 refine cn (vE T) λnS=>cn (zT T) λp1=>cn (Zg T) λNf=>?_;exists T.Kt.ok Pt,9
 let(q,row,ws,pl,wl,ds,x,rfl,R,ai,hm,kM,hU,K0,a8,kH):=h;refine(_,(aN (bO (i:=2) Pt.aD (iL (U 0) T.ey T.vc nS au T.vL .nil cJ))
   (aN (eu (e0 (U 0) T.ey T.y_ p1 au T.yc .nil cJ (ag (Lo (bT Nf au T.Vb T.A9.bt T.Po (ag (U 2) aA)) (wA (h9 XK (U 2) (iz rfl (e5 (U 1)) (hi (sc:=br (top 39)) rfl ∅) (N:=["way"]) (sel:=[none]) (ha (M:=["reader","ways","name"]) ∅) (fR.of (λ_ _ _ _=>(b6 (i:=0) (fk (N:=["way"]) ∅ rfl))) (λ_ _ _ _=>(_,iB,by walk_at "B")) (λ_ _ _ _=>(_,(dJ (U 0) rfl),by walk_at "B")))) (by with_unfolding_all rfl)))) aA)))
   (aY (bR (U 2))))),?_)
 have cD:pl<↑ws:=(cv.mp ai).1;have a0:ws.getD pl (aa "")=x:=by rw[gG,ai];rfl
 let(ax,ak,a4,az,aE):=id R;nofun;refine(_,_,az,cx.no _ _ _ ∅,(q,row,ws,pl,rfl,R,(),?_));rw[a0];nofun;refine(_,_,az,cx.no _ _ _ ∅,?_);refine(x,rfl,ax.2 x (cC ai),a8,?_);rw[hm];nofun;let(as,c_,d0,al):=kM;refine((_,aH.of c_),?_);have hle:↑(as.map V.ref)<=sizeLine:=by rw[a9,d0];exact cH hU ∅
 refine dv.tu (xs:=as.map V.ref) (zs:=ds.map λd=>V.str d.name) (aH.of c_) hle (by rw[a9,a9,d0]) (λi v z N aM e2 bc=>?_) (λp aq=>?_)
 .let(a,aJ,rfl):=cF aM;let(d,hd,rfl):=cF e2;nofun;exact(Sub.name,_,(al i a d aJ hd).Dd T,bc)
 .nofun;have cR:(ds.map λd=>V.str d.name)=bz (ds.map (·.name)):=by unfold bz;rw[pK];rfl
  rw[cR];refine(_,.inl (aH.of aP),rfl,Xm _,?_);rw[uT,decide_eq_false (λz=>by
   let(d,hd,e):=dg.mp z;exact K0 d hd e)]
  have s0:aC H (upd H p (.lst (bz (ds.map (·.name))))):=bp aq;exact(q,row,ws,pl,rfl,R.same s0,λI s1 bY kN=>kH I ((cW.of s0).trans s1) (bY a8.upd) kN)
def aqD:cj P base T 5 t.MR t.Jt Fp (adv t):=by
 refine cn (vE T) λnS=>cn (uJ T) λkm=>?_;exists T.NK.ok agk,9
 let(q,row,ws,pl,n,st,fC,rfl,R,ai,gJ,HV,b8,aL,a8,kH):=h;refine(_,(aN (c0 (cS eZ (iL (U 0) T.ey T.vc nS au T.vL .nil cJ) (jo lR rfl T.lY lp (ag (U 2) aA)) (ct _)) (aY lH) c7)
   (aY (bR (e0 (U 0) T.ey T.pE km au T.oM .nil cJ (ag aS (ag (bk ih (U 1) aS) aA)))))),?_)
 have cD:pl<↑ws:=(cv.mp ai).1;have a0:ws.getD pl (aa "")=num fC:=by rw[gG,ai];rfl
 let(ax,ak,a4,az,aE):=id R;nofun;refine cX false (λQ aV=>?_) (λah=>nomatch ah) (λ_=>?_)
 .nofun;refine(_,_,az,cx.no _ _ _ ∅,(q,row,ws,pl,rfl,R,(),?_));rw[a0];nofun;refine(aeJ (),?_);rw[decide_eq_false (λz=>b8 (aoD () () () () z).symm)];exact aV
 .nofun;refine(_,_,az,cx.no _ _ _ ∅,(q,row,ws,pl,num fC,0,n-1,fC,rfl,R,ai,n_ () () () (),a8,λH1 s1 bY kN=>?_));exact kH H1 s1 (bY a8) kN
def aaX{t:bA}{x ak:Addr}{d:aQ}(ai:H x=none)(hd:H ak=none)(aI:d.k<3) :
  aC H (upd (upd (upd H ak (.own x)) x (.ins (t.gd d.k) ak [])) x (.ins (t.gd d.k) ak (ml d)))/\(aG H->aG (upd (upd (upd H ak (.own x)) x (.ins (t.gd d.k) ak [])) x (.ins (t.gd d.k) ak (ml d)))) /\
   eU t (upd (upd (upd H ak (.own x)) x (.ins (t.gd d.k) ak [])) x (.ins (t.gd d.k) ak (ml d))) x d:=
 ((((aC.refl H).gm hd).gm ai).gm ai,λn=>((n.upd).upd).upd,aI,ak,aP)
theorem ak8:cj P base T 4 t.Hf t.HF BZ (apA t):=by
 have agR:bD P w K av base cN 2 t.wX t.CL kF (ui t 0):=agO T;have aj0:bD P w K av base cN 2 t.zG t.ET kF (ui t 1):=aeb T;have af_:bD P w K av base cN 2 t.xv t.Fd kF (ui t 2):=aoj T;exists T.ID.ok afj,9
 let(d,rfl,aI,q):=h;refine(_,(aN (c0 (cS eZ (U 0) Db (ct _)) (aY (bR (sX T.abu agR au rfl T.adU T.ahq .nil cJ (ag (U 1) (ag (U 2) (ag (U 3) (ag (U 4) (ag (U 5) (ag (U 6) aA))))))))) c7)
   (aN (c0 (cS eZ (U 0) Db (ct _)) (aY (bR (sX T.acS aj0 au rfl T.aa2 T.aef .nil cJ (ag (U 1) (ag (U 2) (ag (U 3) (ag (U 4) (ag (U 5) (ag (U 6) aA))))))))) c7)
   (aY (bR (sX T.ag4 af_ au rfl T.abK T.apy .nil cJ (ag (U 1) (ag (U 2) (ag (U 3) (ag (U 4) (ag (U 5) (ag (U 6) aA))))))))))),?_)
 have fin:∀(x ak:Addr),H x=none->H ak=none->Q ⇑x (upd (upd (upd H ak (.own x)) x (.ins (t.gd d.k) ak [])) x (.ins (t.gd d.k) ak (ml d))):=λx ak ai hd=>by
  let(fa,e',k2):=aaX (t:=t) (d:=d) ai hd aI;exact q x _ fa e' k2 ai
 let(k,name,start,fC,off,near,least):=d
 match k,aI with
 |0,_=>
  (nofun; repeat (dsimp only[d5];nofun));refine cX true (λQ aV=>?_) (λ_=>?_) (λah=>nomatch ah)
  .nofun;exact aV
  .nofun;exact λx ak ai hd b8=>(x,ak,(0,name,start,fC,off,near,least),rfl,rfl,aP,rfl,fin x ak ai hd)
 | 1,_=>
  (nofun; repeat (dsimp only[d5];nofun));refine cX false (λQ aV=>?_) (λah=>nomatch ah) (λ_=>?_)
  .nofun;rw[decide_eq_false ∅];exact aV
  .nofun;refine cX true (λQ aV=>?_) (λ_=>?_) (λah=>nomatch ah)
   .nofun;exact aV
   .nofun;exact λx ak ai hd b8=>(x,ak,(1,name,start,fC,off,near,least),rfl,rfl,aP,rfl,fin x ak ai hd)
 | 2,_=>
  (nofun; repeat (dsimp only[d5];nofun));refine cX false (λQ aV=>?_) (λah=>nomatch ah) (λ_=>?_)
  .nofun;rw[decide_eq_false ∅];exact aV
  .nofun;refine cX false (λQ aV=>?_) (λah=>nomatch ah) (λ_=>?_)
   .nofun;rw[decide_eq_false ∅];exact aV
   .nofun;exact λx ak ai hd b8=>(x,ak,(2,name,start,fC,off,near,least),rfl,rfl,aP,rfl,fin x ak ai hd)
theorem ags:cj P base T 6 t.Dp t.AD Ey (Oe t):=by
 refine cn (ms T) λoH=>cn (uJ T) λkm=>cn (yb T) λp0=>cn (am6 T) λabh=>cn (aqD T) λajA=>cn (ak8 T) λajR=>?_;exists T.JQ.ok rK,9
 let(q,row,n,wl,ds,d,rfl,R,hd,aL,kM,hU,K0,a8,kH):=h;refine(_,(aN (bO (i:=3) rK.aD (e0 (U 0) T.ey T.vG oH au T.vB .nil cJ (ag (fE (ag Db (ag Db (ag Db aA)))) aA)))
   (aN (bO (i:=4) rK.aD (bT abh au T.acy T.Kt.bt T.ajj (ag (U 0) (ag (U 2) aA))))
   (aN (bO (i:=5) rK.aD (e0 (U 0) T.ey T.pE km au T.oM .nil cJ (ag aS (ag (bk ih (U 1) aS) aA))))
   (aN (bO (i:=6) rK.aD (bT ajA au T.acF T.NK.bt T.apN (ag (U 0) (ag (U 1) (ag (U 5) aA)))))
   (aN (bO (i:=7) rK.aD (e0 (U 0) T.ey T.pE km au T.oM .nil cJ (ag aS (ag (gN rfl T.ac9 T.aqi) aA))))
   (aN (bO (i:=8) rK.aD (e0 (U 0) T.ey T.pE km au T.oM .nil cJ (ag aS (ag (gN rfl T.ahg T.aja) aA))))
   (aN (bO (i:=9) rK.aD (e0 (U 0) T.ey T.pE km au T.oM .nil cJ (ag aS (ag (gN rfl T.ag6 T.af7) aA))))
   (aN (eu (iL (U 0) T.ey T.xk p0 au T.yk .nil cJ))
   (aY (bR (bT ajR au T.amg T.ID.bt T.amA (ag (U 3) (ag (U 4) (ag (U 5) (ag (U 6) (ag (U 7) (ag (U 8) (ag (U 9) aA)))))))))))))))))),?_)
 have jY:=hd.st;have iq:=hd.fC;have vR:=hd.of;have X8:=hd.En;have aka:=hd.le;let(_,ak,a4,az,aE):=id R;nofun;refine(_,_,az,cx.no _ _ _ ∅,∅,λp aq=>?_);have s0:aC H (upd H p (.lst [V.str (aa "car"),V.str (aa "foot"),V.str (aa "tram")])):=bp aq;have MB:d5 d.k∈[aa "car",aa "foot",aa "tram"]:=by
  have:=hd.k
  match d.k,this with
  |0,_=>simp[d5]
  |1,_=>simp[d5]
  |2,_=>simp[d5]
 refine(q,row,_,0,d5 d.k,p,[aa "car",aa "foot",aa "tram"],rfl,R.same s0,rfl,aH.of aP,MB,λH1 s1 bY kN=>?_);have fN:cW q H H1:=(cW.of s0).trans s1;have fa:=bY a8.upd;nofun;refine(q,row,_,1,wl,ds,d.name,rfl,kN,rfl,hd.nm,kM.j0 fN R,hU,K0,fa,λay s2 e' e9=>?_);let(_,Yw,RL,f2,g2):=id e9;have fZ:=fN.trans s2;nofun;refine(_,_,f2,cx.no _ _ _ ∅,(q,row,_,2,num d.start,0,n-1,d.start,rfl,e9,rfl,n_ () () () (),e',λbq s3 dh ti=>?_));have dx:=fZ.trans s3;have k2:=dh e';nofun;refine(q,row,_,3,n,d.start,d.fin,rfl,ti,rfl,jY,iq,hd.ne,aL.2,k2,λcc s4 Q4 jN=>?_);let(_,agK,aac,f4,th):=id jN;have gA:=dx.trans s4;nofun;refine(_,_,f4,cx.no _ _ _ ∅,(q,row,_,4,num d.off,0,30,d.off,rfl,jN,rfl,n_ () () () (),Q4,λcQ s5 jk p8=>?_));let(_,RC,Rc,fA,AN):=id p8;have ej:=gA.trans s5;have Y6:=jk Q4;nofun;refine(_,_,fA,cx.no _ _ _ ∅,(q,row,_,5,num d.near,0,30,d.near,rfl,p8,rfl,n_ () () () (),Y6,λeQ jr rM yK=>?_));let(_,abX,aaL,y0,Sy):=id yK;have dU:=ej.trans jr;have VB:=rM Y6;nofun;refine(_,_,y0,cx.no _ _ _ ∅,(q,row,_,6,num d.least,1,60,d.least,rfl,yK,rfl,n_ () () () (),VB,λhN ma p' Pp=>?_));let(_,arn,aro,uH,Wk):=id Pp;have dw:=dU.trans ma;have akW:=p' VB;nofun;refine(_,_,uH,cx.no _ _ _ ∅,(q,row,_,7,rfl,Pp,rfl,?_));nofun;refine(d,rfl,hd.k,λx h7 l3 aeg aqE Bp=>?_);refine kH x h7 (dw.trans (cW.of l3)) (aeg akW) aqE ?_;cases lN:H x with
 |none=>rfl
 |some u=>
  by_cases xN:x=q
  .subst xN;rw[uH]at Bp;cases Bp
  .rw [dw x u xN lN]at Bp;cases Bp
noncomputable abbrev vH:List Str:=[aa "places",aa "ways",aa "numbers"]
noncomputable def n0(n:Int)(wl aD:Addr):List (Str×V):=[(p'p (aa "places") (.int n)),(p'p (aa "ways") (⇑wl)),(p'p (aa "numbers") (⇑aD))]
def DO(n:Int)(wl aD:Addr):(n0 n wl aD).map (·.1)=vH:=rfl
noncomputable def nm(ds:List aQ)(i:Nat):Str:=((ds[i]?).map (·.name)).getD (aa "")
noncomputable def mF(ds:List aQ)(i:Nat):List (Key×V):=(el i).map λj=>(p'p (b5 (nm ds j)) (V.int j))
def rY{i:Nat}{d:aQ}(h:ds[i]?\d):nm ds i=d.name:=by unfold nm;rw[h];rfl
def AL(h:(ds.map (·.name)).Nodup){i j:Nat}(ao:i<↑ds)(aZ:j<↑ds)(e:nm ds i=nm ds j):i=j:=by
 rw[rY (bJ ao),rY (bJ aZ)]at e;have:=(Bn (xs:=ds.map (·.name)) (i:=i) (j:=j) (h₀:=by rw[a9];exact ao) (h₁:=by rw[a9];exact aZ) h).mp (by rw[nZ,nZ];exact e);exact this
theorem am2(h:(ds.map (·.name)).Nodup){i:Nat}:∀{n:Nat},i<n->n<=↑ds->c6 (mF ds n) (b5 (nm ds i))\(.int i):=by
 intro n
 induction n with
 |zero=>intro ao _;omega
 | succ n b9=>
  intro ao aL;unfold mF c6;rw[Hc,ew,List.find?_append];by_cases c:i<n
  .have:=b9 c ();unfold mF c6 at this;cases e:Pk (λc2=>decide (c2.fst=b5 (nm ds i))) (gR (λj=>(p'p (b5 (nm ds j):Key) (V.int j))) (el n))with
   |none=>rw[e]at this;cases this
   |some p=>rw[e]at this;exact this
  .have e:i=n:=()
   subst e;have no:Pk (λc2=>decide (c2.fst=b5 (nm ds i))) (gR (λj=>(p'p (b5 (nm ds j):Key) (V.int j))) (el i))=none:=by
    rw[zC];intro p aq;let(j,aZ,rfl):=dg.mp aq;have jM:=pd.mp aZ;simp only[decide_eq_true_eq];intro z;have:=AL h () () (xm z);omega
   rw[no];simp
def aew(h:(ds.map (·.name)).Nodup){n:Nat}(aL:n<↑ds):eN (mF ds n) (b5 (nm ds n)) (.int n)=mF ds (n+1):=by
 unfold eN;have no:((mF ds n).any λc2=>decide (c2.1=b5 (nm ds n)))=false:=by
  rw[LD];intro p aq;let(j,aZ,rfl):=dg.mp aq;have jM:=pd.mp aZ;simp only[decide_eq_true_eq];intro z;have:=AL h () aL (xm z);omega
 rw[no];unfold mF;rw[Hc,ew];rfl
def lf(a:aC H H1)(b:cW q H1 ay)(n:H q=none):aC H ay:=λc u e=>b c u (cM e n) (a c u e)
def EC{t:bA}{p q:Addr}{i j:Int}{k l:Nat}(a:cx t H p i ws k)(b:cx t H q j vs l)(n:i≠j):p≠q:=λz=>by
 subst z;let(_,ak,a4,az,_):=a;let(_,fc,aiD,aE,_):=b;rw[az]at aE;have b7:=d6 aE;injection b7 with _ _ gY;unfold kU at gY;injection gY with j9 _;injection j9 with _ hX;injection hX with qQ;exact n qQ
def wE{t:bA}{p q:Addr}{d:aQ}(a:eU t H p d)(b:cx t H q j vs l):p≠q:=λz=>by
 subst z;let(_,ak,az):=a;let(_,fc,aiD,aE,_):=b;rw[az]at aE;have b7:=d6 aE;injection b7 with _ _ gY;exact absurd (congrArg nA gY) (by show ¬(7:Nat)=3;decide)
def fO(t:bA)(H:ar)(c:Addr)(n:Int)(ds:List aQ):Prop:=
 ((ds.map (·.name)).Nodup/\↑ds<=12)/\∃ak wl aD,H c\(.ins t.hu ak (n0 n wl aD))/\nx t H wl ds/\H aD\(.bL (mF ds ↑ds))
theorem fO.same{t:bA}{n:Int}(h:fO t H c n ds)(s:aC H I):fO t I c n ds:=by
 let(h0,ak,wl,aD,az,aE,b7):=h;exact(h0,ak,wl,aD,s _ _ az,aE.same s,s _ _ b7)
def jl(n:Int)(wl aD:Addr)(h:vH.contains m=false):(n0 n wl aD).lookup m=none:=tS vH (DO ..) h
section
variable{w:World}{K:a'}{av:Str->Option Value}{t:bA}{H:ar}{c ak wl aD:Addr}{n:Int}
def ajW(T:Txt w K av t)(e:H c\(.ins t.hu ak (n0 n wl aD))):ix K H c (aa "places") (.int n):=(_,ak,_,e,T.g5,T.YY,kI vH 0 (DO ..) ∅ rfl)
def WX(T:Txt w K av t)(e:H c\(.ins t.hu ak (n0 n wl aD))):ix K H c (aa "ways") ⇑wl:=(_,ak,_,e,T.g5,T.RS,kI vH 1 (DO ..) ∅ rfl)
def Ls(T:Txt w K av t)(e:H c\(.ins t.hu ak (n0 n wl aD))):ix K H c (aa "numbers") ⇑aD:=(_,ak,_,e,T.g5,T.Yu,kI vH 2 (DO ..) ∅ rfl)
end
def Sv(t:bA):bH:=λvs H Q _=>∃c ak n wl ds,vs=[⇑c,.int n,⇑wl]/\H c\(.ins t.hu ak [])/\nx t H wl ds/\(ds.map (·.name)).Nodup/\↑ds<=12/\aG H /\
 ∀I,cW c H I->aG I->fO t I c n ds->Q .b4 I
def aic(t:bA):bH:=λvs H Q _=>∃n ds,vs=[.str (gk n ds)]/\pS n ds/\aG H/\∀c I,aC H I->aG I->fO t I c n ds->Q ⇑c I
def H'(t:bA):bH:=λvs H Q _=>∃c n ds,vs=[⇑c]/\fO t H c n ds/\∀p,H p=none->Q ⇑p (upd H p (.lst (bz (ds.map (·.name)))))
def adq(t:bA):bH:=λvs H Q _=>∃c n ds,∃i:Nat,∃d,vs=[⇑c,.str d.name]/\fO t H c n ds/\ds[i]?\d/\Q (.int (i:Nat)) H
def F3(t:bA):bH:=λvs H Q _=>∃c n ds,∃i:Nat,∃d,vs=[⇑c,.str d.name]/\fO t H c n ds/\ds[i]?\d/\∀a,eU t H a d->Q ⇑a H
def am9:cj P base T 1 t.xr t.B0 B9 (Sv t):=by
 exists T.Zc.ok Gs,9
 let(c,ak,n,wl,ds,rfl,ah,kM,hQ,hU,a8,q):=h;have bx:=iU au;refine(_,(aN (h1 (U 0) (U 1) rfl)
   (aN (h1 (U 0) (U 2) rfl)
   (aN (h1 (U 0) ql rfl)
   (aY (eF fJ rfl (z5 rfl T.xZ (ag (U 2) aA)) (jm (K:=K) (n:=2) rfl rfl (eb (b6 (i:=3) Gs.aD) (eb (b6 (i:=4) Gs.aD) jd))) (aY (rA bx (dJ (U 0) rfl) (dJ (U 4) rfl) (U 3) rfl))))))),?_)
 nofun;refine(_,_,_,ah,T.g5,T.YY,∅,?_);refine(_,_,_,aP,T.g5,T.RS,fD (n:=999) ∅,λaD aL=>?_);simp only[pY]at aL⊢;rw[show dz (aa "places") (V.int n) ([]:List (Str×V))=[(p'p (aa "places") (V.int n))]from rfl,show dz (aa "ways") (V.ref wl) [(p'p (aa "places") (V.int n))]=[(p'p (aa "places") (V.int n)),(p'p (aa "ways") (V.ref wl))]from hl [aa "places"] rfl ∅]at aL⊢;have EM:c≠aD:=λz=>by subst z;rw[aP]at aL;cases aL
 refine(t.hu,ak,[(p'p (aa "places") (V.int n)),(p'p (aa "ways") (V.ref wl))],by rw[aO EM];exact aP,T.g5,T.Yu,(∅:(2:Nat)<1000),?_);rw[show dz (aa "numbers") (V.ref aD) [(p'p (aa "places") (V.int n)),(p'p (aa "ways") (V.ref wl))]=n0 n wl aD from hl [aa "places",aa "ways"] rfl ∅];let(as,c_,d0,al):=kM;have VR:H aD=none:=by rw[aO (dB EM)]at aL;exact aL
 have ei:cW c H (upd (upd (upd H c (.ins t.hu ak [(p'p (aa "places") (V.int n)),(p'p (aa "ways") (V.ref wl))])) aD (.bL [])) c (.ins t.hu ak (n0 n wl aD))):=λb u ae e=>by
  rw[aO ae,aO (cM e VR),aO ae];exact e
 have Nl:wl≠c:=d_ c_ ah (by intro z;cases z);refine((_,aH.of (ei _ _ Nl c_)),?_);refine dW.enum (xs:=as.map V.ref) (λi σ I=>(∃x y,σ=[some (V.ref c),some (V.int n),some (V.ref wl),x,y])/\I c\(.ins t.hu ak (n0 n wl aD))/\I aD\(.bL (mF ds i))/\cW c H I/\aG I) ?_ ?_ ?_ ?_
 .exact ((_,_,rfl),aP,by rw[aO (dB EM),aP];rfl,ei,((a8.upd).upd).upd)
 .rintro i σ I ao a3;ac_rfl
  let(_,_,_,rT,_):=a3;subst ba;exact aH.of (rT _ _ Nl c_)
 .rintro i v σ I p aM ⟨⟨x,y,rfl⟩,af,aj,rT,ef⟩ aq;obtain⟨a,aJ,rfl⟩:=cF aM;obtain⟨ao,_⟩:=cv.mp aJ;have hp:i<↑ds:=()
  have hd:ds[i]?\ds[i]:=bJ hp;have iK:eU t H a ds[i]:=al i a _ aJ hd;have JV:a≠c:=by
   let(_,fc,e):=iK;intro z;subst z;rw[ah]at e;have aE:=d6 e;injection aE with _ _ b7;exact absurd (congrArg nA b7) (by show ¬(0:Nat)=7;decide)
  have alh:eU t I a ds[i]:=(iK.1,iK.2.imp λfc e=>rT _ _ JV e);have sp:aC I (upd I p (.tup [.int i,⇑a])):=bp aq;refine vh ?_;nofun;refine(_,Ls T (sp _ _ af),_,(alh.same sp).Dd T,_,rfl,_,mO.k (k:=b5 ds[i].name) (sp _ _ aj) (i5 (show ↑(mF ds i)<=12 by unfold mF;rw[a9,kf];omega) ∅),?_);rw[<- rY hd,aew hQ hp];refine((_,rfl),?_,aP,λb u ae e=>?_,(ef.upd).upd)
  .rw [aO EM];exact sp _ _ af
  .rw [aO (cM e VR)];exact sp _ _ (rT b u ae e)
 .rintro σ I a3;ac_rfl
  let((x,y,rfl),af,aj,rT,ef):=a3;subst ba;nofun;rw[a9,d0]at aj;refine q I rT ef ((hQ,hU),ak,wl,aD,af,(as,rT _ _ Nl c_,d0,λi a d a_ b'=>?_),aj);have iK:=al i a d a_ b';have JV:a≠c:=by
   let(_,fc,e):=iK;intro z;subst z;rw[ah]at e;have aE:=d6 e;injection aE with _ _ b7;exact absurd (congrArg nA b7) (by show ¬(0:Nat)=7;decide)
  exact(iK.1,iK.2.imp λfc e=>rT _ _ JV e)
def adP:cj P base T 1 t.Re t.Ni kl (adq t):=by
 exists T.Xv.ok afm,9
 let(c,n,ds,i,d,rfl,((hQ,hU),ak,wl,aD,az,aE,b7),hd,q):=h;have bx:=iU au;have aM:c6 (mF ds ↑ds) (b5 d.name)\(.int i):=by
  rw[<- rY hd];exact am2 hQ (cv.mp hd).1 (b0 _)
 have a0:gq H aD (.str d.name) (some (.int i)):=by rw[<- aM];exact gq.k (k:=b5 d.name) b7
 refine(_,(aN (c0 (Qj (OT bx (U 1) (dJ (U 0) rfl))) (aY lH) c7)
   (aY (bR (j7 bx (dJ (U 0) rfl) (U 1) (λ_ _=>rfl))))),?_)
 nofun;refine cX false (λQ aV=>?_) (λah=>nomatch ah) (λ_=>?_)
 .nofun;refine(_,Ls T az,_,rfl,_,a0,?_);exact aV
 .nofun;exact(_,Ls T az,_,rfl,_,a0,q)
def ro:cj P base T 2 t.lc t.Ag kl (F3 t):=by
 refine cn (adP T) λaam=>?_;exists T.TZ.ok apG,9
 let(c,n,ds,i,d,rfl,C,hd,q):=h;let((hQ,hU),ak,wl,aD,az,(as,c_,d0,al),b7):=id C;refine(_,(aY (bR (bP dA (dJ (U 0) rfl) (e0 (U 0) T.g5 T.kt aam au T.alA .nil cJ (ag (U 1) aA))))),?_);nofun;refine(_,WX T az,_,_,az,jl _ _ _ ∅,(c,n,ds,i,d,rfl,C,hd,?_));have ao:i<↑as:=by rw[d0];exact(cv.mp hd).1
 have aJ:as[i]?\as[i]:=bJ ao;nofun;refine(_,aH.of c_,_,cO (show(as.map V.ref)[i]?\(V.ref as[i])by rw[d7,aJ];rfl),?_);exact q as[i] (al i _ d aJ hd)
theorem ahG:cj P base T 7 t.zW t.ym ["text"] (aic t):=by
 have Gk:bD P w K av base cN 6 t.y5 t.yV ["text"] (HS t):=(Oq T).mono ∅;have aoX:bD P w K av base cN 6 t.AF t.Dw ["reader"] (Xc t):=(aph T).mono ∅;have al3:bD P w K av base cN 6 t.Dp t.AD Ey (Oe t):=ags T;have aoF:bD P w K av base cN 5 t.xr t.B0 B9 (Sv t):=(am9 T).mono ∅;exists T.Pi.ok x8,9
 let(n,ds,rfl,cq,a8,kH):=h;refine(_,(aN (bO (i:=1) x8.aD (bT Gk au T.R5 T.BO.bt T.TK (ag (U 0) aA)))
   (aN (bO (i:=2) x8.aD (bT aoX au T.aaw T.Nr.bt T.adA (ag (bP dA (U 1) aS) aA)))
   (aN (bO (i:=3) x8.aD (fE aA))
   (aN (eF fJ rfl (e5 (tE H6 (U 1) (tC aS) s6)) (b6 (i:=4) x8.aD) (aN (c0 (cS eZ (f7 iM rfl T.hY hT (ag (U 3) aA)) (gN rfl T.alE T.afS) (ct _)) (aY lH) c7)
   (aY (eu (gL mw qK rl qJ (U 3) (ag (bT al3 au T.aql T.JQ.bt T.apP (ag (U 4) (ag (U 2) (ag (U 3) aA)))) aA))))))
   (aN (c0 (Fk (Fv (U 3) (λ_=>rfl))) (aY lH) c7)
   (aY (bR (sX T.ac' aoF au rfl T.ae1 T.afa .nil cJ (ag (U 2) (ag (U 3) aA)))))))))),?_)
 have lV:=aip cq;have hlen:=apo cq;have LR:=cq.nn;have FW:=cq.ln;nofun;refine(gk n ds,rfl,(),?_,a8,λp H1 j1 fs R=>?_)
 .rw[lV];intro r au;refine(?_,λx ai=>cH (cq.plain r au x ai).1 ∅);rcases cT.mp au with rfl|au
  .show (2:Nat)<=1000;decide
  .let(d,hd,rfl):=dg.mp au;show(7:Nat)<=1000;decide
 rw[lV]at R;let(qs,aq,j4,nV,yF):=R;have XA:↑qs=↑ds+1:=by rw[nV];simp[jg]
 let(iw,hW,rfl):∃iw hW,qs=iw::hW:=by
  cases qs with
  |nil=>simp at XA
  |cons a b=>exact(a,b,rfl)
 let(qS,KJ):=yF 0 iw _ rfl rfl;nofun;refine(_,aH.of aq,_,cO (j:=0) rfl,(iw,_,n,rfl,qS,LR,fs,λay s2 f_=>(gx _,λwl jQ=>?_)));let(ao6,aij,apz,Jw):=qS.ins;have KY:p≠iw:=d_ aq Jw (by intro z;cases z);have dy:ay p\(.lst ((iw::hW).map V.ref)):=s2 _ _ KY aq;have sE:aC ay (upd ay wl (.lst [])):=bp jQ;have yY:k_ ((iw::hW).map V.ref) (some 1) none=hW.map V.ref:=by
  unfold k_;simp[fx.c3];exact l4 (by rw[a9];exact b0 _)
 refine(_,aH.of (sE _ _ dy),λpc tH=>?_);rw[yY];have yw:pc≠wl:=λz=>by subst z;rw[aP]at tH;cases tH
 have tL:aC (upd ay wl (.lst [])) (upd (upd ay wl (.lst [])) pc (.lst (hW.map V.ref))):=bp tH;refine((_,aH.of aP),?_);have zy:aC H ay:=lf j1 s2 KJ;have JD:↑hW=↑ds:=by simpa using XA
 refine dW.list (xs:=hW.map V.ref) (λi σ I=>(∃x,σ=[some (V.str (gk n ds)),some (V.ref p),some (V.int n),some (V.ref wl),x])/\aG I/\aC H I/\I pc\(.lst (hW.map V.ref))/\H wl=none/\nx t I wl (ds.take i) /\
  ∀(j:Nat) (q:Addr) (d:aQ),i<=j->hW[j]?\q->ds[j]?\d->cx t I q ((j+1:Nat):Int) (mR d) 0/\H q=none) ?_ ?_ ?_ ?_
 .refine⟨⟨_,rfl⟩,(f_.upd).upd,(zy.trans sE).trans tL,aP,zy.free jQ,⟨[],tL _ _ aP,rfl,fun j a d h=>by simp at h⟩,fun j q d _ af aj=>?_⟩;have au:(jg n ds)[j+1]?\(mR d):=by
   unfold jg;rw[wF,d7,aj];rfl
  let(mT,l5):=yF (j+1) q _ (by rw[wF];exact af) au;refine(((mT.j0 s2 (EC mT qS ()) qS.ins).same sE).same tL,l5)
 .rintro i σ I ao a3;ac_rfl
  let(_,_,_,h,_):=a3;subst ba;exact aH.of h
 .rintro i v σ I aM a3;ac_rfl
  let((x,rfl),ef,ot,tc,te,W,Rs):=a3;let(q,aF,rfl):=cF aM;let(ao,_):=cv.mp aF;have hp:i<↑ds:=()
  have hd:ds[i]?\ds[i]:=bJ hp;let(pz,wx):=Rs i q _ (b0 _) aF hd;have E6:↑(ds.take i)=i:=by rw[fw];omega
  let(as,c_,d0,al):=id W;subst ba;nofun;refine cX false (λQ aV=>?_) (λah=>nomatch ah) (λ_=>?_)
  .nofun;refine(_,.inl (aH.of c_),?_);rw[a9,d0,E6];rw[decide_eq_false ()] <;> exact aV
  .nofun;refine(.inl (_,aH.of c_),?_);refine(q,_,n,wl,ds.take i,ds[i],rfl,pz,cq.al _ (nH hp),LR,W,(),λe he z=>?_,ef,λy bq s3 kg g6 x6=>?_)
   .obtain⟨j,aZ,rfl⟩:=sG he;rw[aoc]at z;have jM:j<i:=()
    have:=AL cq.aD (i:=j) (j:=i) () hp (by rw[rY (bJ ()),rY hd];exact z);omega
   .nofun;obtain⟨aru,EG,asl,fg⟩:=pz.ins;have Kf:wl≠q:=d_ c_ fg (by intro z;cases z);have nJ:bq wl\(.lst (as.map V.ref)):=s3 _ _ Kf c_;have Nt:aC H bq:=lf ot s3 wx;refine⟨_,nJ,i5 (show ↑(as.map V.ref)<=12 by rw[a9];omega) ∅,?_⟩;have IT:y≠wl:=fun z=>by
     subst z;rw[c_]at x6;cases x6
    refine((_,rfl),kg.upd,λb u e=>?_,?_,te,(as++[y],by rw[aP,ew];rfl,?_,λj a d af aj=>?_),λj du d aZ af aj=>?_)
    .rw [aO (cM e te)];exact Nt _ _ e
    .rw [aO yw];exact s3 _ _ (d_ tc fg (by intro z;cases z)) tc
    .rw [c',d0,E6,fw];show i+1=_;omega
    .by_cases aZ:j<↑as
     .rw[sv aZ]at af;have amX:(ds.take i)[j]?\d:=by
       rw[CG ()];rw[CG ()]at aj;exact aj
      let(aI,fc,e):=al j a d af amX;have ajI:a≠q:=wE (aI,fc,e) pz;have aeG:a≠wl:=d_ e c_ (by intro z;cases z);exact(aI,fc,by rw[aO aeG];exact s3 _ _ ajI e)
     .rw[sS ()]at af;have zH:j-↑as=0:=by
       cases cG:j-↑as with
       |zero=>rfl
       |succ m=>rw[cG]at af;simp at af
      rw[zH]at af;have b7:y=a:=by simpa using af
      subst b7;have gY:j=i:=()
      subst gY;rw[CG (),hd]at aj;cases aj;exact(g6.1,g6.2.imp λfc e=>by rw[aO IT];exact e)
    .obtain⟨mT,l5⟩:=Rs j du d () af aj;have ti:=mT.j0 s3 (EC mT pz ()) pz.ins;refine⟨?_,l5⟩;obtain⟨ax,fc,a4,az,aE⟩:=ti;refine⟨ax,fc,a4,by rw[aO (d_ az nJ (by intro z;cases z))];exact az,?_⟩;rw[aO (fun z=>by
      subst z;rw[nJ]at aE;have j9:=d6 aE;injection j9 with hX;cases as with
      |nil=>exact absurd (congrArg nA hX) (by show ¬(0:Nat)=7;decide)
      |cons a r=>injection hX with qQ _;cases qQ)]
     exact aE
 .rintro σ I a3;ac_rfl
  let((x,rfl),ef,ot,tc,te,W,Rs):=a3;subst ba;rw[a9,JD,kR]at W;let(as,c_,d0,al):=id W;nofun;refine cX false (λQ aV=>?_) (λah=>nomatch ah) (λ_=>?_)
  .nofun;refine(true,.inl (_,aH.of c_,?_),aV);cases as with
   |nil=>simp at d0;omega
   |cons a r=>rfl
  .nofun;intro c ak ah nh b8;have sc:aC I (upd (upd I ak (.own c)) c (.ins t.hu ak [])):=((aC.refl I).gm nh).gm ah;refine(c,ak,n,wl,ds,rfl,aP,W.same sc,cq.aD,FW.2,(ef.upd).upd,λcQ s5 u1 rq=>(rfl,?_));exact kH c cQ (lf (ot.trans sc) s5 (ot.free ah)) u1 rq
def zN:cj P base T 1 t.vU t.zB ["self"] (H' t):=by
 exists T.TB.ok ZY,9
 let(c,n,ds,rfl,((hQ,hU),ak,wl,aD,az,(as,c_,d0,al),b7),q):=h;refine(_,(aY (bR (iz rfl (e5 (dJ (U 0) rfl)) (hi (sc:=br (fF (top 37) 1)) rfl ∅) (N:=["way"]) (sel:=[none]) (ha (M:=["self"]) ∅) (fR.of (λ_ _ _ _=>(b6 (i:=0) (fk (N:=["way"]) ∅ rfl))) (λ_ _ _ _=>(_,iB,by walk_at "B")) (λ_ _ _ _=>(_,(dJ (U 0) rfl),by walk_at "B")))))),?_);nofun;refine(_,WX T az,_,rfl,(_,aH.of c_),?_);refine dv.tu (xs:=as.map V.ref) (zs:=bz (ds.map (·.name))) (aH.of c_) (by rw[a9,d0];exact cH hU ∅) (by rw[mi,a9,a9,d0]) (λi v z N aM e2 bc=>?_) (λp aq=>q p aq);let(a,aJ,rfl):=cF aM;let(x,ai,rfl):=cF e2;let(d,hd,rfl):=cF ai;nofun;exact(Sub.name,_,(al i a d aJ hd).Dd T,bc)
def RY{n s j:Int}(h0:0<=s)(af:s<n)(aj:0<=j)(a_:j<n):(s+j)%n=if s+j<n then s+j else s+j-n:=by
 split
 .rename_i h;exact jP () h
 .rename_i h;have e:s+j=(s+j-n)+n:=()
  rw[e,aov];have:s+j-n+n-n=s+j-n:=()
  rw[this];exact jP () ()
def ao4{n s p:Int}(h0:0<=s)(af:s<n)(aj:0<=p)(a_:p<n):(p-s)%n=if s<=p then p-s else p-s+n:=by
 split
 .rename_i h;exact jP () ()
 .rename_i h;have e:(p-s)%n=(p-s+n)%n:=(aov ..).symm;rw[e];exact jP () ()
def rI{n s p j:Int}(h0:0<=s)(af:s<n)(aj:0<=p)(a_:p<n)(b':0<=j)(dn:j<n):(s+j)%n=p↔(p-s)%n=j:=by
 rw[RY h0 af b' dn,ao4 h0 af aj a_];constructor <;> intro h <;> split at h <;> split <;> omega
noncomputable def ind(n s p i:Int):Int:=if 0<(p-s)%n/\(p-s)%n<=i then 1 else 0
def Rx{n s p i:Int}(h0:0<=s)(af:s<n)(aj:0<=p)(a_:p<n)(b':0<=i)(dn:i+1<n):ind n s p (i+1)=ind n s p i+(if(s+(i+1))%n=p then 1 else 0):=by
 have k:=rI (j:=i+1) h0 af aj a_ () dn;unfold ind;by_cases c:(s+(i+1))%n=p
 .have e:=k.mp c;rw[if_pos c,e,if_pos (),if_neg ()];rfl
 .have e:¬(p-s)%n=i+1:=λz=>c (k.mpr z)
  rw[if_neg c];by_cases d:0<(p-s)%n/\(p-s)%n<=i
  .rw [if_pos d,if_pos ()];rfl
  .rw [if_neg d,if_neg ()];rfl
noncomputable def lU(n s f p:Int):Bool:=decide (0<(p-s)%n)&&decide ((p-s)%n<(f-s)%n)
noncomputable def KM(n s f s2 f2:Int):Bool:=decide (f=f2)||(if(s2=s\/s2=f)\/(f2=s\/f2=f)then false else(lU n s f s2 != lU n s f f2))
def ajv {n s f s2 f2:Int} (aB:0<=s/\s<n) (hf:0<=f/\f<n) (fH:0<=s2/\s2<n) (RT:0<=f2/\f2<n) (af:f≠f2) (aj:¬((s=s2\/s=f2)\/f=s2)) :
  decide (ind n s s2 ((f-s)%n)+ind n s f2 ((f-s)%n)=1)=KM n s f s2 f2:=by
 have bU:=(rI (n:=n) (s:=s) (p:=f) (j:=(s2-s)%n) aB.1 aB.2 hf.1 hf.2 (e8 _ ()) (e_ _ ()));have az:=(rI (n:=n) (s:=s) (p:=s2) (j:=(s2-s)%n) aB.1 aB.2 fH.1 fH.2 (e8 _ ()) (e_ _ ())).mpr rfl;have bo:=(rI (n:=n) (s:=s) (p:=f) (j:=(f2-s)%n) aB.1 aB.2 hf.1 hf.2 (e8 _ ()) (e_ _ ()));have aE:=(rI (n:=n) (s:=s) (p:=f2) (j:=(f2-s)%n) aB.1 aB.2 RT.1 RT.2 (e8 _ ()) (e_ _ ())).mpr rfl;rw[az]at bU;rw[aE]at bo;have bY:(f-s)%n≠(s2-s)%n:=λz=>aj (.inr ((bU.mpr z).symm))
 have cg:(f-s)%n≠(f2-s)%n:=λz=>af ((bo.mpr z).symm)
 unfold KM lU ind;have sr:¬((s2=s\/s2=f)\/(f2=s\/f2=f)):=()
 rw[decide_eq_false af,ov,if_neg sr];generalize (f-s)%n=L at *;generalize (s2-s)%n=A at *;generalize (f2-s)%n=B at *;by_cases a:0<A/\A<=L
 .by_cases b:0<B/\B<=L
  .rw [if_pos a,if_pos b,decide_eq_true a.1,decide_eq_true b.1,decide_eq_true (show A<L by omega),decide_eq_true (show B<L by omega)];decide
  .rw[if_pos a,if_neg b,decide_eq_true a.1,decide_eq_true (show A<L by omega)];by_cases jy:0<B
   .rw [decide_eq_true jy,decide_eq_false (show ¬B<L by omega)];decide
   .rw [decide_eq_false jy,tU];decide
 .by_cases b:0<B/\B<=L
  .rw[if_neg a,if_pos b,decide_eq_true b.1,decide_eq_true (show B<L by omega)];by_cases mE:0<A
   .rw [decide_eq_true mE,decide_eq_false (show ¬A<L by omega)];decide
   .rw [decide_eq_false mE,tU];decide
  .rw[if_neg a,if_neg b];have x:(decide (0<A)&&decide (A<L))=false:=by
    rw[alX];simp only[decide_eq_false_iff_not];omega
   have y:(decide (0<B)&&decide (B<L))=false:=by
    rw[alX];simp only[decide_eq_false_iff_not];omega
   rw[x,y];decide
noncomputable abbrev mt(n:Int)(d e:aQ):Bool:=KM n d.start d.fin e.start e.fin
def OQ(t:bA):bH:=λvs H Q _=>∃a d n p,vs=[.int n,⇑a,.int p]/\eU t H a d/\0<n/\Q (.bE (lU n d.start d.fin p)) H
noncomputable def yT(n:Int)(d e:aQ):Bool:=if(e.start=d.start\/e.start=d.fin)\/(e.fin=d.start\/e.fin=d.fin)then false else(lU n d.start d.fin e.start != lU n d.start d.fin e.fin)
def ael(t:bA):bH:=λvs H Q _=>∃a b d e n,vs=[.int n,⇑a,⇑b]/\eU t H a d/\eU t H b e/\0<n/\aG H/\Q (.bE (yT n d e)) H
def agy(t:bA):bH:=λvs H Q _=>∃a b d e n,vs=[.int n,⇑a,⇑b]/\eU t H a d/\eU t H b e/\0<n/\∀I,aC H I->Q (.bE (yT n d e)) I
def Rm(t:bA):bH:=λvs H Q _=>∃c n ds,∃i j:Nat,∃d e,vs=[⇑c,.str d.name,.str e.name]/\fO t H c n ds/\0<n/\ds[i]?\d/\ds[j]?\e/\aG H/\Q (.bE (mt n d e)) H
def aoV:cj P base T 1 t.Cq t.C9 Eo (OQ t):=by
 exists T.D4.ok W6,9
 let(a,d,n,p,rfl,W,aL,q):=h;refine(_,(aN (bO (i:=3) W6.aD (bk iu (bk ih (U 2) (dJ (U 1) rfl)) (U 0)))
   (aY (bR (Lo (h9 qv aS (U 3) (ct _)) (wA (h9 qv (U 3) (bk iu (bk ih (dJ (U 1) rfl) (dJ (U 1) rfl)) (U 0)) (ct _))))))),?_)
 nofun;refine(_,W.wz T,_,rfl,aL,?_);unfold lU at q;by_cases c:0<(p-d.start)%n
 .rw [if_pos (decide_eq_true c)];rw[decide_eq_true c,B6]at q;exact(_,W.tv T,_,W.wz T,_,rfl,_,rfl,aL,q)
 .rw [if_neg (by simpa using c)];rw[decide_eq_false c,tU]at q;exact q
def BU(x a b:Int):mm (.int x) [.int a,.int b]=decide (x=a\/x=b):=by
 unfold mm;simp only[rR,aiz,i8,J0];rw[mQ];simp only[x5,beq_iff_eq,decide_eq_true_eq];omega
def ahl:cj P base T 2 t.Io t.Mm BV (ael t):=by
 refine bD.forget (sp:=agy t) ?_ λvs H Q E h=>?_
 .have Qi:bD P w K av base cN 1 t.Cq t.C9 Eo (OQ t):=aoV T;exists T.zn.ok ZB,9
  let(a,b,d,e,n,rfl,iK,p4,aL,q):=h;refine(_,(aN (c0 (f5.pt (ph (cS rm (dJ (U 2) rfl) (fE (ag (dJ (U 1) rfl) (ag (dJ (U 1) rfl) aA))) (by with_unfolding_all rfl)) (pF (cS rm (dJ (U 2) rfl) (fE (ag (dJ (U 1) rfl) (ag (dJ (U 1) rfl) aA))) (by with_unfolding_all rfl))))) (aY (bR hA)) c7)
   (aY (bR (h9 js (bT Qi au T.QO T.D4.bt T.T_ (ag (U 0) (ag (U 1) (ag (dJ (U 2) rfl) aA)))) (bT Qi au T.QO T.D4.bt T.T_ (ag (U 0) (ag (U 1) (ag (dJ (U 2) rfl) aA)))) (ct _))))),?_)
  nofun;refine jW (λb I=>aC H I/\b=decide ((e.start=d.start\/e.start=d.fin)\/(e.fin=d.start\/e.fin=d.fin))) (λQ aV=>?_) (λI ⟨a7,ae⟩=>?_) (λI ⟨a7,ae⟩=>?_)
  .nofun;refine(_,p4.wz T,_,iK.wz T,_,iK.tv T,∅,λp aq=>(_,.inl (aH.of aP),rfl,rfl,?_));have s1:aC H (upd H p (.lst [.int d.start,.int d.fin])):=bp aq;rw[BU];by_cases cu:e.start=d.start\/e.start=d.fin
   .rw [if_pos (decide_eq_true cu)];exact aV _ _ (s1,(decide_eq_true (.inl cu)).symm)
   .rw [if_neg (by simpa using cu)];refine(_,(p4.same s1).tv T,_,(iK.same s1).wz T,_,(iK.same s1).tv T,∅,λdR dy=>(_,.inl (aH.of aP),rfl,rfl,?_));rw[BU];refine aV _ _ (s1.trans (bp dy),?_);rw[mQ,decide_eq_true_eq,decide_eq_true_eq];exact(.inr,λz=>z.resolve_left cu)
  .nofun;have fL:=of_decide_eq_true ae.symm;have:=q I a7;unfold yT at this;rw[if_pos fL]at this;exact this
  .nofun;have fL:=of_decide_eq_false ae.symm;refine(_,(p4.same a7).wz T,(a,d,n,_,rfl,iK.same a7,aL,?_));refine(_,(p4.same a7).tv T,(a,d,n,_,rfl,iK.same a7,aL,?_));refine(rfl,?_);have:=q I a7;unfold yT at this;rw[if_neg fL]at this;rw[show(!decide (V.bE (lU n d.start d.fin e.start)=V.bE (lU n d.start d.fin e.fin)))=(lU n d.start d.fin e.start != lU n d.start d.fin e.fin)by
    cases lU n d.start d.fin e.start <;> cases lU n d.start d.fin e.fin <;> rfl]
   exact this
 .let(a,b,d,e,n,af,aj,a_,b',a8,q):=h;exact(a8,a,b,d,e,n,af,aj,a_,b',λI a7=>(a7,q))
def apf(n:Int)(d e:aQ):mt n d e=(decide (d.fin=e.fin)||yT n d e):=rfl
def agr:cj P base T 3 t.Ew t.Eu ri (Rm t):=by
 refine cn (ro T) λjx=>cn (ahl T) λala=>?_;exists T.Il.ok JH,9
 let(c,n,ds,i,j,d,e,rfl,C,aL,hd,he,a8,q):=h;let(_,ak,wl,aD,az,aE,b7):=id C;refine(_,(aN (bO (i:=3) JH.aD (e0 (U 0) T.g5 T.oA jx au T.oq .nil cJ (ag (U 1) aA)))
   (aN (bO (i:=4) JH.aD (e0 (U 0) T.g5 T.oA jx au T.oq .nil cJ (ag (U 2) aA)))
   (aY (bR (JC (h9 eZ (dJ (U 3) rfl) (dJ (U 4) rfl) (ct _)) (wA (bT ala au T.ahw T.zn.bt T.aqP (ag (dJ (U 0) rfl) (ag (U 3) (ag (U 4) aA)))))))))),?_)
 rw[apf]at q;nofun;refine(_,_,az,jl _ _ _ ∅,(c,n,ds,i,d,rfl,C,hd,λa iK=>?_));nofun;refine(_,_,az,jl _ _ _ ∅,(c,n,ds,j,e,rfl,C,he,λb p4=>?_));nofun;refine(_,iK.tv T,_,p4.tv T,rfl,?_);nofun;by_cases cu:d.fin=e.fin
 .rw [if_pos (decide_eq_true cu)];rw[decide_eq_true cu,ug]at q;exact q
 .rw [if_neg (by simpa using cu)];rw[decide_eq_false cu,ov]at q;exact(_,ajW T az,(a,b,d,e,n,rfl,iK,p4,aL,a8,q))
def SP(t:bA):bH:=λvs H Q _=>∃c n ds,∃i j:Nat,∃d e,vs=[⇑c,.str d.name,.str e.name]/\fO t H c n ds/\ds[i]?\d/\ds[j]?\e/\Q (.int (if d.off-e.near>0 then d.off-e.near else 0)) H
def aqk:cj P base T 3 t.Bi t.DN ri (SP t):=by
 refine cn (ro T) λjx=>?_;exists T.JY.ok Ig,9
 let(c,n,ds,i,j,d,e,rfl,C,hd,he,q):=h;let(_,ak,wl,aD,az,aE,b7):=id C;refine(_,(aN (bO (i:=3) Ig.aD (e0 (U 0) T.g5 T.oA jx au T.oq .nil cJ (ag (U 1) aA)))
   (aN (bO (i:=4) Ig.aD (e0 (U 0) T.g5 T.oA jx au T.oq .nil cJ (ag (U 2) aA)))
   (aY (bR (f7 (JP rfl) rfl T.B_ Do (ag aS (ag (bk ih (dJ (U 3) rfl) (dJ (U 4) rfl)) aA))))))),?_)
 nofun;refine(_,_,az,jl _ _ _ ∅,(c,n,ds,i,d,rfl,C,hd,λa iK=>?_));nofun;refine(_,_,az,jl _ _ _ ∅,(c,n,ds,j,e,rfl,C,he,λb p4=>?_));nofun;refine(_,iK.QJ T,_,p4.ac2 T,?_);nofun;exact q
structure bj where
 name:Str
 b:Int
 n:Int
noncomputable def hM(d:bj):eY:=.tup [.str d.name,.int d.b,.int d.n]
noncomputable def Yv(p:Int×Int):eY:=.tup [.int p.1,.int p.2]
noncomputable def cA(x:Str)(sp:List bj):List (Int×Int):=(sp.filter λd=>decide (d.name=x)).map λd=>(p'p d.b d.n)
def gM(H:ar)(qs:List Addr)(os:List eY):Prop:=↑qs=↑os/\∀(i:Nat) (q:Addr) (o:eY),qs[i]?\q->os[i]?\o->H q\o
def ho(H:ar)(p:Addr)(os:List eY):Prop:=∃qs:List Addr,H p\(.lst (qs.map V.ref))/\gM H qs os
def gM.same{os:List eY}(h:gM H qs os)(s:aC H I):gM I qs os:=(h.1,λi q o af aj=>s _ _ (h.2 i q o af aj))
theorem ho.same{p:Addr}{os:List eY}(h:ho H p os)(s:aC H I):ho I p os:=by
 let(qs,e,q):=h;exact(qs,s _ _ e,q.same s)
def gM.nil(H:ar):gM H [] []:=(rfl,λi q o h _=>by simp at h)
def gM.app{os Df:List eY}(h:gM H qs os)(h':gM H Mk Df):gM H (qs++Mk) (os++Df):=by
 refine(by rw[c',c',h.1,h'.1],λi q r af aj=>?_);rw[List.getElem?_append]at af aj;rw[h.1]at af;by_cases c:i<↑os
 .rw [if_pos c]at af aj;exact h.2 i q r af aj
 .rw [if_neg c]at af aj;exact h'.2 _ q r af aj
theorem gM.one{p:Addr}{o:eY}(e:H p\o):gM H [p] [o]:=(rfl,λi q dE af aj=>by
 match i,af,aj with
 |0,af,aj=>cases af;cases aj;exact e
 |i+1,af,_=>simp at af)
def gM.at{os:List eY}(h:gM H qs os){i:Nat}(aF:qs[i]?\q):∃o,os[i]?\o/\H q\o:=by
 have ao:i<↑os:=by rw[<- h.1];exact(cv.mp aF).1
 exact(_,bJ ao,h.2 i q _ aF (bJ ao))
def Ov(x:Str)(sp:List bj)(d:bj):cA x (sp++[d])=cA x sp++if d.name=x then [(p'p d.b d.n)]else []:=by
 unfold cA;rw[YZ,ew];congr 1;by_cases c:d.name=x
 .rw [if_pos c,PV (by simpa using c)];rfl
 .rw [if_neg c,Wh (by simpa using c)];rfl
def GU(x:Str)(sp:List bj):↑(cA x sp)<=↑sp:=by
 unfold cA;rw[a9];exact Q8 _ _
def jn{α:Type}{xs:List α}{i:Nat}{x:α}(h:xs[i]?\x):xs.take (i+1)=xs.take i++[x]:=by
 rw[tn,h];rfl
noncomputable def o1{α:Type}(z:Int)(v:α)(l:List α)(i:Int):List α:=l.set (i%z).toNat v
noncomputable def jC{α:Type}(z:Int)(v:α)(b:Int):Nat->List α->List α
 |0,l=>l
 |k+1,l=>o1 z v (jC z v b k l) (b+k)
noncomputable def ng{α:Type}(z:Int)(v:α)(b:Int):Nat->List α->List α
 |0,l=>l
 |k+1,l=>o1 z v (ng z v b k l) (b-1-k)
def Yj(z:Int)(v:α)(l:List α)(i:Int):↑(o1 z v l i)=↑l:=by unfold o1;rw[DF]
theorem mL(z:Int)(v:α)(b:Int)(k:Nat)(l:List α):↑(jC z v b k l)=↑l:=by
 induction k with
 |zero=>rfl
 |succ k b9=>unfold jC;rw[Yj,b9]
theorem q8(z:Int)(v:α)(b:Int)(k:Nat)(l:List α):↑(ng z v b k l)=↑l:=by
 induction k with
 |zero=>rfl
 |succ k b9=>unfold ng;rw[Yj,b9]
noncomputable def er(z:Nat)(ps:List (Int×Int)):List Bool:=ps.foldl (λl p=>jC z true p.1 p.2.toNat l) (ke z false)
noncomputable def m9(z rd fd:Nat)(l:List Str)(p:Int×Int):List Str:=jC z (aa "fade") (p.1+p.2) fd (jC z (aa "free") p.1 p.2.toNat (ng z (aa "ready") p.1 rd l))
noncomputable def hR(z rd fd:Nat)(ps:List (Int×Int)):List Str:=ps.foldl (m9 z rd fd) (ke z (aa "stop"))
def alF{z:Nat}{ps:List (Int×Int)}{i:Nat}{p:Int×Int}(h:ps[i]?\p):er z (ps.take (i+1))=jC z true p.1 p.2.toNat (er z (ps.take i)):=by
 unfold er;rw[jn h,R'];rfl
def acI{z rd fd:Nat}{ps:List (Int×Int)}{i:Nat}{p:Int×Int}(h:ps[i]?\p):hR z rd fd (ps.take (i+1))=m9 z rd fd (hR z rd fd (ps.take i)) p:=by
 unfold hR;rw[jn h,R'];rfl
theorem oi(z:Nat)(ps:List (Int×Int)):↑(er z ps)=z:=by
 unfold er
 suffices h:∀l:List Bool,↑l=z->↑(ps.foldl (λl p=>jC z true p.1 p.2.toNat l) l)=z from h _ (kE ..)
 induction ps with
 |nil=>exact λl h=>h
 |cons p ps b9=>exact λl h=>b9 _ (by rw[mL];exact h)
theorem wH(z rd fd:Nat)(ps:List (Int×Int)):↑(hR z rd fd ps)=z:=by
 unfold hR
 suffices h:∀l:List Str,↑l=z->↑(ps.foldl (m9 z rd fd) l)=z from h _ (kE ..)
 induction ps with
 |nil=>exact λl h=>h
 |cons p ps b9=>exact λl h=>b9 _ (by unfold m9;rw[mL,mL,q8];exact h)
def tY(z:Int)(sp:List bj):Prop:=↑sp<=100/\∀d∈sp,0<=d.b/\d.b<1000/\0<=d.n/\d.n<1000
def Zb{x:Str}{sp:List bj}{p:Int×Int}(h:p∈cA x sp):∃d∈sp,d.name=x/\p=(p'p d.b d.n):=by
 unfold cA at h;let(d,hd,rfl):=dg.mp h;have:=lu.mp hd;exact(d,this.1,by simpa using this.2,rfl)
def ahJ(h:0<m)(i:Int):pn m (i%(m:Int))\(i%(m:Int)).toNat:=by
 have af:=e8 i (show(m:Int)≠0 by omega);have aj:=e_ i (show 0<(m:Int)by omega);unfold pn;rw[if_pos af,if_pos aj]
def Bm{α β:Type}(f:α->β){l:List α}{z:Nat}(h:↑l=z)(ax:0<z)(i:Int):pn ↑(l.map f) (i%(z:Int))\(i%(z:Int)).toNat:=by
 rw[a9,h];exact ahJ ax i
def O4(d:aQ):0<=c1 d/\c1 d<=2:=by
 unfold c1;split <;> omega
def ah'{d:aQ}(h:0<=d.off/\d.off<=1000):0<=c5 d/\c5 d<=1000:=by
 unfold c5;split <;> omega
def CU{d:aQ}(h:pG.contains m=false):(ml d).lookup m=none:=tS pG (N5 _) h
noncomputable def i7(l:List Bool):List V:=l.map V.bE
def E9(f:α->β)(z:Int)(v:α)(l:List α)(i:Int):(l.map f).set (i%z).toNat (f v)=(o1 z v l i).map f:=by
 unfold o1;rw[ajF]
def S1:bH:=λvs H Q _=>∃p x sp,vs=[⇑p,.str x]/\ho H p (gR hM sp)/\↑sp<=100/\∀r I,aC H I->(aG H->aG I)->ho I r ((cA x sp).map Yv)->Q ⇑r I
def S5:bH:=λvs H Q _=>∃(z:Nat) (p:Addr) (x:Str) (sp:List bj),vs=[.int z,⇑p,.str x]/\(0<z/\z<=1000)/\ho H p (gR hM sp)/\tY z sp/\∀r I,aC H I->(aG H->aG I)->H r=none->I r\(.lst (i7 (er z (cA x sp))))->Q ⇑r I
def aog(t:bA):bH:=λvs H Q _=>∃(a:Addr) (d:aQ) (z:Nat) (p:Addr) (sp:List bj),vs=[⇑a,.int z,⇑p]/\(0<z/\z<=1000)/\eU t H a d/\ho H p (gR hM sp)/\tY z sp/\(0<=d.off/\d.off<=1000)/\∀r I,aC H I->(aG H->aG I)->H r=none->I r\(.lst (bz (hR z (c1 d).toNat (c5 d).toNat (cA d.name sp))))->Q ⇑r I
noncomputable def hb(m:List Bool):Nat->Int
 |0=>0
 |k+1=>if m[(2*↑m-1-k)%↑m]?\true then 0 else hb m k+1
noncomputable def ny(m:List Bool):List Int:=(el ↑m).map λt=>hb m (2*↑m-t)
noncomputable def v9(m:List Bool)(k:Nat):List Int:=(el k).map λj=>hb m (↑m+j+1)
def akQ(m:List Bool):(v9 m ↑m).reverse=ny m:=by
 unfold v9 ny;refine q7 (by simp) (λi af aj=>?_);simp at af;simp;congr 1;omega
noncomputable def tg(m:List Bool):List Int:=(ny m.reverse).reverse
def agF:bH:=λvs H Q _=>∃(p:Addr) (m:List Bool),vs=[⇑p]/\H p\(.lst (i7 m))/\(0<↑m/\↑m<=1000)/\∀r I,aC H I->(aG H->aG I)->H r=none->I r\(.lst ((ny m).map V.int))->Q ⇑r I
def Ro:bH:=λvs H Q _=>∃(p:Addr) (m:List Bool),vs=[⇑p]/\H p\(.lst (i7 m))/\(0<↑m/\↑m<=1000)/\∀r I,aC H I->(aG H->aG I)->H r=none->I r\(.lst ((tg m).map V.int))->Q ⇑r I
def z6:cj P base T 1 t.Cj t.CP vy S1:=by
 exists T.tK.ok amI,9
 let(p,x,sp,rfl,(qs,cw,iJ),aw,q):=h;refine(_,(aY (bR (iz rfl (e5 (U 0)) (hi (sc:=br (top 90)) rfl ∅) (N:=Fe) (sel:=[none,none,none,some 1]) (ha (M:=vy) ∅) (fR.of (λ_ _ _ _=>(jm (K:=K) (n:=3) rfl rfl (eb (b6 (i:=0) (fk (N:=Fe) ∅ rfl)) (eb (b6 (i:=1) (fk (N:=Fe) ∅ rfl)) (eb (b6 (i:=2) (fk (N:=Fe) ∅ rfl)) jd))))) (λ_ _ _ _=>(_,(x' (cS eZ (U 0) (U 3) (ct _))),by walk_at "B")) (λ_ _ _ _=>(_,(kr (ag (U 1) (ag (U 2) aA))),by walk_at "B")))))),?_);nofun;have nV:↑qs=↑sp:=by rw[iJ.1,a9]
 refine((_,aH.of cw),?_);refine dv.list (xs:=qs.map V.ref) (λi ys I=>∃os:List Addr,ys=os.map V.ref/\gM I os ((cA x (sp.take i)).map Yv)/\aC H I/\(aG H->aG I)) (cH (show ↑(qs.map V.ref)<=100 by rw[a9];omega) ∅) ([],rfl,gM.nil _,aC.refl _,id) ?_ ?_ ?_
 .rintro i ys I ao a3;ac_rfl
  let(os,rfl,r,a7,_):=a3;subst ba;refine((aH.of cw).same a7,?_);rw[a9,r.1,a9];exact cH (GU _ _) (by rw[fw];omega)
 .rintro i v ys I aM ⟨os,rfl,r,a7,a8⟩ N bc;obtain⟨hG,fg,rfl⟩:=cF aM;obtain⟨o,aW,e⟩:=iJ.at fg;obtain⟨d,hd,rfl⟩:=cF aW;have bZ:=a7 _ _ e;nofun;refine⟨_,b1.of bZ,rfl,_,_,rfl,_,_,rfl,_,_,rfl,rfl,Sub.YI,rfl,?_⟩;dsimp only at bc;rw[jn hd,Ov,ew]at bc;by_cases c:d.name=x
  .rw [if_pos c]at bc;rw[if_pos (by rw[c];exact decide_eq_true rfl)];refine(∅,λdD eB=>bc _ _ (os++[dD],by rw[ew];rfl,(r.same (bp eB)).app (gM.one aP),a7.trans (bp eB),λn=>(a8 n).upd))
  .rw [if_neg c]at bc;rw[if_neg (by rw[decide_eq_true_eq];intro z;exact c (V.str.inj z))];exact bc _ _ (os,rfl,by rw[gI,ow];exact r,a7,a8)
 .intro ys I (os,rfl,r,a7,a8) dD eB;rw[l4 (by rw[a9];omega)]at r;exact q _ _ (a7.trans (bp eB)) (λn=>(a8 n).upd) (os,aP,r.same (bp eB))
theorem WE:cj P base T 2 t.C5 t.Ds Ea S5:=by
 refine cn (z6 T) λpO=>?_;exists T.BL.ok xw,9
 let(z,p,x,sp,rfl,ax,L,aB,q):=h;refine(_,(aN (zv (i:=3) xw.aD rfl (m2 rfl) rfl (lb rfl T.i9 (ag (U 0) aA)) (hi (sc:=br (top 91)) rfl ∅) (N:=["turn"]) (sel:=[none]) (ha (M:=["size","spans","name","marks","begin","turns","step"]) ∅) (fR.of (λ_ _ _ _=>(b6 (i:=0) (fk (N:=["turn"]) ∅ rfl))) (λ_ _ _ _=>(_,iB,by walk_at "B")) (λ_ _ _ _=>(_,hA,by walk_at "B"))) rfl)
   (aN (eF fJ rfl (e5 (bT pO au T.zo T.tK.bt T.xH (ag (U 1) (ag (U 2) aA)))) (jm (K:=K) (n:=2) rfl rfl (eb (b6 (i:=4) xw.aD) (eb (b6 (i:=5) xw.aD) jd))) (aY (eF fJ rfl (lb rfl T.i9 (ag (U 5) aA)) (b6 (i:=6) xw.aD) (aY (mr hA (vr (U 3) (bk iu (bk dd (U 4) (U 6)) (U 0)) u9))))))
   (aY (bR (U 3))))),?_)
 nofun;let(rW,oG):=ax;let(xJ,fH):=aB;refine((),(),?_);refine dv.Ik (λ_=>V.bE false) (cH (show(z:Int).toNat<=1000 by omega) ∅) (λi N ao bc=>?_) (λmk k5=>?_)
 .nofun;exact(Sub.name,bc)
 rw[show(el (z:Int).toNat).map (λ_=>V.bE false)=i7 (er z [])by
  unfold i7 er;rw[xt,akk];exact q7 (by simp) (by simp)]
 refine(p,x,sp,rfl,L.same (bp k5),xJ,λr H1 s1 fs jz=>(r,rfl,?_));let(qs,cw,iJ):=jz;refine((_,aH.of cw),?_);have p2:H1 mk\(.lst (i7 (er z []))):=s1 _ _ aP;have Ms:r≠mk:=λe=>by
  subst e;rw[cw]at p2;injection p2 with az;injection az with aE;have b7:=congrArg nA aE;cases qs with
  |nil=>simp[i7,oi]at b7;omega
  |cons a qs=>
   have:(i7 (er z []))[0]?\(V.ref a):=by rw[<- aE];rfl
   unfold i7 at this;rw[d7]at this;cases cG:(er z [])[0]? with
   |none=>rw[cG]at this;cases this
   |some b=>rw[cG]at this;cases this
 refine dW.list (xs:=qs.map V.ref) (λi σ I=>(∃a b c,σ=[some (V.int z),some (V.ref p),some (V.str x),some (V.ref mk),a,b,c])/\cW mk H1 I/\(aG H->aG I)/\I mk\(.lst (i7 (er z ((cA x sp).take i))))) ?_ ?_ ?_ ?_
 .exact ((_,_,_,rfl),λb u _ e=>e,λn=>fs n.upd,p2)
 .rintro i σ I ao a3;ac_rfl
  let(_,ei,_,_):=a3;subst ba;exact aH.of (ei _ _ Ms cw)
 .rintro i v σ I aM a3;ac_rfl
  let((a,b,c,rfl),ei,ef,hm):=a3;let(hG,fg,rfl):=cF aM;let(o,aW,e):=iJ.at fg;let(d,hd,rfl):=cF aW;let(dq,iv,yC,rfl):=Zb (cC hd);have ae:=fH dq iv;have bZ:=ei _ _ (d_ e p2 (by intro z;cases z)) e;subst ba;nofun;refine(_,b1.of bZ,rfl,_,_,rfl,_,_,rfl,rfl,_,rfl,(by dsimp only;omega),(by dsimp only;omega),?_);rw[alF hd];refine dW.range (λk σ I=>(∃c,σ=[some (V.int z),some (V.ref p),some (V.str x),some (V.ref mk),some (V.int dq.b),some (V.int dq.n),c])/\cW mk H1 I/\(aG H->aG I)/\I mk\(.lst (i7 (jC z true dq.b k (er z ((cA x sp).take i)))))) ?_ ?_ ?_
  .exact ((_,rfl),ei,ef,hm)
  .rintro k σ ay aI a3;ac_rfl
   let((c,rfl),lq,f_,j2):=a3;subst ba;nofun;refine((),_,j2,_,Bm V.bE (by rw[mL,oi]) rW _,(_,rfl),λb u ae e=>by rw[aO ae];exact lq _ _ ae e,λn=>(f_ n).upd,?_);rw[aP];unfold i7;rw[E9 V.bE];rfl
  .rintro σ ay a3;ac_rfl
   let((c,rfl),lq,f_,j2):=a3;subst ba;exact((_,_,_,rfl),lq,f_,j2)
 .rintro σ I a3;ac_rfl
  let((a,b,c,rfl),ei,ef,hm):=a3;subst ba;nofun;rw[l4 (by rw[a9,iJ.1,a9];exact b0 _)]at hm;exact q _ _ (lf ((bp k5).trans s1) ei k5) ef k5 hm
theorem ajY:cj P base T 2 t.K8 t.Lw Ij (aog t):=by
 refine cn (z6 T) λpO=>?_;have IW:qz P w K av base cN 1 (vt t) "ready" ["self"] (vS t):=Rt T;have LZ:qz P w K av base cN 1 (vt t) "fade" ["self"] (vq t):=Ws T;exists T.MT.ok tB,9
 let(a,d,z,p,sp,rfl,(rW,oG),W,L,(xJ,fH),adZ,q):=h;refine(_,(aN (zv (i:=3) tB.aD rfl (m2 rfl) rfl (lb rfl T.i9 (ag (U 1) aA)) (hi (sc:=br (top 92)) rfl ∅) (N:=["turn"]) (sel:=[none]) (ha (M:=["way","size","spans","shown","begin","turns","step"]) ∅) (fR.of (λ_ _ _ _=>(b6 (i:=0) (fk (N:=["turn"]) ∅ rfl))) (λ_ _ _ _=>(_,iB,by walk_at "B")) (λ_ _ _ _=>(_,Db,by walk_at "B"))) rfl)
   (aN (eF fJ rfl (e5 (bT pO au T.zo T.tK.bt T.xH (ag (U 2) (ag (dJ (U 0) rfl) aA)))) (jm (K:=K) (n:=2) rfl rfl (eb (b6 (i:=4) tB.aD) (eb (b6 (i:=5) tB.aD) jd))) (aN (eF fJ rfl (lb rfl T.i9 (ag (Dr (U 0) IW au cJ) aA)) (b6 (i:=6) tB.aD) (aY (mr Db (vr (U 3) (bk iu (bk ih (bk ih (U 4) aS) (U 6)) (U 1)) u9))))
   (aN (eF fJ rfl (lb rfl T.i9 (ag (U 5) aA)) (b6 (i:=6) tB.aD) (aY (mr Db (vr (U 3) (bk iu (bk dd (U 4) (U 6)) (U 1)) u9))))
   (aY (eF fJ rfl (lb rfl T.i9 (ag (Dr (U 0) LZ au cJ) aA)) (b6 (i:=6) tB.aD) (aY (mr Db (vr (U 3) (bk iu (bk dd (bk dd (U 4) (U 5)) (U 6)) (U 1)) u9))))))))
   (aY (bR (U 3))))),?_)
 nofun;refine((),(),?_);refine dv.Ik (λ_=>V.str (aa "stop")) (cH (show(z:Int).toNat<=1000 by omega) ∅) (λi N ao bc=>?_) (λmk k5=>?_)
 .nofun;exact(Sub.name,bc)
 rw[show(el (z:Int).toNat).map (λ_=>V.str (aa "stop"))=bz (hR z (c1 d).toNat (c5 d).toNat [])by
  unfold bz hR;rw[xt,akk];exact q7 (by simp) (by simp)]
 have A7:=O4 d;have asF:=ah' adZ;let(bb,ak,Bq):=id W;have l_:∀{I:ar},cW mk (upd H mk (.lst (bz (hR z (c1 d).toNat (c5 d).toNat [])))) I->I a\(.ins (t.gd d.k) ak (ml d)):=λei=>ei _ _ (cM Bq k5) ((bp k5) _ _ Bq)
 refine(_,(W.same (bp k5)).Dd T,p,d.name,sp,rfl,L.same (bp k5),xJ,λr H1 s1 fs jz=>(r,rfl,?_));let(qs,cw,iJ):=jz;refine((_,aH.of cw),?_);have p2:H1 mk\(.lst (bz (hR z (c1 d).toNat (c5 d).toNat []))):=s1 _ _ aP;have Ms:r≠mk:=λe=>by
  subst e;rw[cw]at p2;injection p2 with az;injection az with aE;have b7:=congrArg nA aE;cases qs with
  |nil=>simp[bz,wH]at b7;omega
  |cons a qs=>
   have:(bz (hR z (c1 d).toNat (c5 d).toNat []))[0]?\(V.ref a):=by rw[<- aE];rfl
   unfold bz at this;rw[d7]at this;cases cG:(hR z (c1 d).toNat (c5 d).toNat [])[0]? with
   |none=>rw[cG]at this;cases this
   |some b=>rw[cG]at this;cases this
 have PO:∀{I:ar},cW mk H1 I->eU t I a d:=λei=>(bb,ak,ei _ _ (cM Bq k5) (s1 _ _ ((bp k5) _ _ Bq)))
 refine dW.list (xs:=qs.map V.ref) (λi σ I=>(∃a1 b c,σ=[some (V.ref a),some (V.int z),some (V.ref p),some (V.ref mk),a1,b,c])/\cW mk H1 I/\(aG H->aG I)/\I mk\(.lst (bz (hR z (c1 d).toNat (c5 d).toNat ((cA d.name sp).take i))))) ?_ ?_ ?_ ?_
 .exact ((_,_,_,rfl),λb u _ e=>e,λn=>fs n.upd,p2)
 .rintro i σ I ao a3;ac_rfl
  let(_,ei,_,_):=a3;subst ba;exact aH.of (ei _ _ Ms cw)
 .rintro i v σ I aM a3;ac_rfl
  let((a1,b,c,rfl),ei,ef,hm):=a3;let(hG,fg,rfl):=cF aM;let(o,aW,e):=iJ.at fg;let(c9,hd,rfl):=cF aW;let(dq,iv,yC,rfl):=Zb (cC hd);have ae:=fH dq iv;have bZ:=ei _ _ (d_ e p2 (by intro z;cases z)) e;have W1:=PO ei;let(_,Ji,Zi):=id W1;subst ba;nofun;refine(_,b1.of bZ,rfl,_,_,rfl,_,_,rfl,rfl,_,_,_,Zi,(_,bb,rfl),CU ∅,_,d,rfl,W1,rfl,_,rfl,(),(),?_);rw[acI hd];refine dW.range (λk σ I=>(∃c,σ=[some (V.ref a),some (V.int z),some (V.ref p),some (V.ref mk),some (V.int dq.b),some (V.int dq.n),c])/\cW mk H1 I/\(aG H->aG I)/\I mk\(.lst (bz (ng z (aa "ready") dq.b k (hR z (c1 d).toNat (c5 d).toNat ((cA d.name sp).take i)))))) ?_ ?_ ?_
  .exact ((_,rfl),ei,ef,hm)
  .rintro k σ ay aI a3;ac_rfl
   let((c,rfl),lq,f_,j2):=a3;subst ba;nofun;refine((),_,j2,_,Bm V.str (by rw[q8,wH]) rW _,(_,rfl),λb u ae e=>by rw[aO ae];exact lq _ _ ae e,λn=>(f_ n).upd,?_);rw[aP];unfold bz;rw[E9 V.str];rfl
  rintro σ ay a3;ac_rfl
  let((c,rfl),lq,f_,j2):=a3;subst ba;nofun;refine((),(),?_);refine dW.range (λk σ I=>(∃c,σ=[some (V.ref a),some (V.int z),some (V.ref p),some (V.ref mk),some (V.int dq.b),some (V.int dq.n),c])/\cW mk H1 I/\(aG H->aG I)/\I mk\(.lst (bz (jC z (aa "free") dq.b k (ng z (aa "ready") dq.b (c1 d).toNat (hR z (c1 d).toNat (c5 d).toNat ((cA d.name sp).take i))))))) ?_ ?_ ?_
  .exact ((_,rfl),lq,f_,j2)
  .rintro k σ ay aI a3;ac_rfl
   let((c,rfl),lq,f_,j2):=a3;subst ba;nofun;refine((),_,j2,_,Bm V.str (by rw[mL,q8,wH]) rW _,(_,rfl),λb u ae e=>by rw[aO ae];exact lq _ _ ae e,λn=>(f_ n).upd,?_);rw[aP];unfold bz;rw[E9 V.str];rfl
  rintro σ bq a3;ac_rfl
  let((c,rfl),XN,kg,aeW):=a3;have RO:=PO XN;let(_,asp,nJ):=id RO;subst ba;nofun;refine(_,_,_,nJ,(_,bb,rfl),CU ∅,_,d,rfl,RO,rfl,_,rfl,(),(),?_);refine dW.range (λk σ I=>(∃c,σ=[some (V.ref a),some (V.int z),some (V.ref p),some (V.ref mk),some (V.int dq.b),some (V.int dq.n),c])/\cW mk H1 I/\(aG H->aG I)/\I mk\(.lst (bz (jC z (aa "fade") (dq.b+dq.n) k (jC z (aa "free") dq.b dq.n.toNat (ng z (aa "ready") dq.b (c1 d).toNat (hR z (c1 d).toNat (c5 d).toNat ((cA d.name sp).take i)))))))) ?_ ?_ ?_
  .exact ((_,rfl),XN,kg,aeW)
  .rintro k σ ay aI a3;ac_rfl
   let((c,rfl),lq,f_,j2):=a3;subst ba;nofun;refine((),_,j2,_,Bm V.str (by rw[mL,mL,q8,wH]) rW _,(_,rfl),λb u ae e=>by rw[aO ae];exact lq _ _ ae e,λn=>(f_ n).upd,?_);rw[aP];unfold bz;rw[E9 V.str];rfl
  .rintro σ ay a3;ac_rfl
   let((c,rfl),lq,f_,j2):=a3;subst ba;exact((_,_,_,rfl),lq,f_,j2)
 .rintro σ I a3;ac_rfl
  let((a1,b,c,rfl),ei,ef,hm):=a3;subst ba;nofun;rw[l4 (by rw[a9,iJ.1,a9];exact b0 _)]at hm;exact q _ _ (lf ((bp k5).trans s1) ei k5) ef k5 hm
def Za:cj P base T 1 t.MV t.MO ["marks"] agF:=by
 exists T.EL.ok wh,9
 let(p,m,rfl,hm,aw,q):=h;refine(_,(aN (bO (i:=1) wh.aD (f7 iM rfl T.hY hT (ag (U 0) aA)))
   (aN (bO (i:=2) wh.aD aS)
   (aN (bO (i:=3) wh.aD (fE aA))
   (aN (eF fJ rfl (adE rfl T.i9 (ag (bk ih (bk s8 aS (U 1)) aS) (ag (Rh RI aS) (ag (Rh RI aS) aA)))) (b6 (i:=4) wh.aD) (aN (bO (i:=2) wh.aD (Ev (jS (bP dA (U 0) (bk iu (U 4) (U 1)))) aS (bk dd (U 2) aS)))
   (aY (c0 (cS qv (U 4) (U 1) (ct _)) (aY (eu (gL mw qK rl qJ (U 3) (ag (U 2) aA)))) c7))))
   (aY (bR (At rfl rfl T.xI rfl T.FV (ag (U 3) aA)))))))),?_)
 nofun;refine(_,.inl (aH.of hm),gx _,λu bx=>?_);have alb:↑(i7 m)=↑m:=by unfold i7;rw[a9]
 rw[alb];refine(by unfold oP;omega,(),(),(),(),?_);have qk:p≠u:=cM hm bx;refine dW.of (n:=2*↑m) (λk σ I=>(∃x,σ=[some (V.ref p),some (V.int ↑m),some (V.int (hb m k)),some (V.ref u),x])/\cW u H I/\(aG H->aG I)/\I u\(.lst ((v9 m (k-↑m)).map V.int))) ?_ (λi σ I ao _=>?_) (λσ I _=>?_) ?_ ?_
 .exact ((_,rfl),λb o ae e=>by rw[aO ae];exact e,λn=>n.upd,by rw[aP,Nat.zero_sub];rfl)
 .show i<_;omega
 .show _<=2*↑m;omega
 .rintro k σ vM v I aI ⟨⟨x,rfl⟩,ei,ef,qy⟩ ⟨rfl,rfl⟩;have Zm:(2*↑m-1-k)%↑m<↑m:=Cn _ aw.1;have U7:m[(2*↑m-1-k)%↑m]?\m[(2*↑m-1-k)%↑m]:=bJ Zm;have aZ:((2*↑m-1-k:Int))%(↑m:Int)=(((2*↑m-1-k)%↑m:Nat):Int):=by
   rw[ao_];congr 1;omega
  have nK:eD (i7 m) ((2*↑m-1-k:Int)%(↑m:Int))\(V.bE m[(2*↑m-1-k)%↑m]):=by
   rw[aZ];exact cO (by unfold i7;rw[d7,U7];rfl)
  have gJ:hb m (k+1)=if m[(2*↑m-1-k)%↑m]=true then 0 else hb m k+1:=by
   show(if m[(2*↑m-1-k)%↑m]?\true then 0 else hb m k+1)=_;rw[U7];simp
  simp only[gu,d4,j',j8];exists (λσ cc=>cc=I/\σ=[some (V.ref p),some (V.int ↑m),some (V.int (hb m (k+1))),some (V.ref u),some (V.int (2*↑m-1-k))]),0
  .nofun;refine((),_,aH.of (ei _ _ qk hm),_,nK,_,rfl,?_);rw[gJ]at bB;by_cases c:m[(2*↑m-1-k)%↑m]=true
   .rw [if_pos c]at bB⊢;exact bB _ _ (rfl,rfl)
   .rw [if_neg c]at bB⊢;exact bB _ _ (rfl,rfl)
  intro σ cc (rfl,rfl);subst ba;dsimp only;refine cX (decide ((2*↑m-1-k:Int)<↑m)) (λQ aV=>?_) (λah=>?_) (λah=>?_)
  .nofun;exact aV
  .nofun;have qh:=of_decide_eq_true ah;refine(.inl (_,aH.of qy),_,qy,i5 (show ↑((v9 m (k-↑m)).map V.int)<=1000 by unfold v9;simp;omega) ∅,(_,rfl),λb o ae e=>by rw[aO ae];exact ei _ _ ae e,λn=>(ef n).upd,?_);rw[aP,show k+1-↑m=k-↑m+1 by omega];unfold v9;rw[Hc,ew,ew];simp only[dZ,gI];rw[show ↑m+(k-↑m)+1=k+1 by omega]
  .nofun;have qh:=of_decide_eq_false ah;refine((_,rfl),ei,ef,?_);rw[qy,show k-↑m=0 by omega,show k+1-↑m=0 by omega]
 .rintro σ I a3;ac_rfl
  let((x,rfl),ei,ef,qy):=a3;subst ba;nofun;refine(_,aH.of qy,λl mH=>?_);have ash:l≠u:=λz=>by subst z;rw[qy]at mH;cases mH
  refine q _ _ ((lf (aC.refl H) ei bx).trans (bp mH)) (λn=>(ef n).upd) ((lf (aC.refl H) ei bx).free mH) ?_;rw[aP,show 2*↑m-↑m=↑m by omega,<- U9,akQ]
def ads:cj P base T 2 t.Cz t.Ep ["marks"] Ro:=by
 refine cn (Za T) λI_=>?_;exists T.Gr.ok afU,9
 let(p,m,rfl,hm,aw,q):=h;refine(_,(aY (bR (At rfl rfl T.xI rfl T.FV (ag (bT I_ au T.U2 T.EL.bt T.Vi (ag (At rfl rfl T.xI rfl T.FV (ag (U 0) aA)) aA)) aA)))),?_);nofun;refine(_,aH.of hm,λcw af=>?_);refine(cw,m.reverse,rfl,by rw[aP,i7,i7,U9],by rw[yR];exact aw,λr H1 s1 fs ll bx=>(r,rfl,_,aH.of bx,λdH aj=>?_));refine q _ _ (((bp af).trans s1).trans (bp aj)) (λn=>(fs n.upd).upd) (((bp af).trans s1).free aj) ?_;rw[aP,<- U9];rfl
def qc{i:Int}(h:i.natAbs<100000):i.natAbs.log2<1920:=by
 by_cases h0:i.natAbs=0
 .rw [h0];decide
 .exact (M1 h0).mpr (SW h ∅)
theorem h4{a x:α}{i:Nat}(h:(l++[a])[i]?\x):(i<↑l/\l[i]?\x)\/(i=↑l/\x=a):=by
 by_cases ao:i<↑l
 .rw [sv ao]at h;exact .inl (ao,h)
 .rw[sS ()]at h;have h0:i-↑l=0:=by
   cases cG:i-↑l with
   |zero=>rfl
   |succ m=>rw[cG]at h;simp at h
  rw[h0]at h;exact .inr ((),(by simpa using h:a=x).symm)
def nQ(x:Str):Prop:=↑x<=1000/\∀c∈x.cps.toList,c<16 ^ 8
def nP(C:Addr)(aR:List (Str×V))(H:ar)(E:dG):Prop:=∀ak I,aC H I->(aG H->aG I)->I ak\(.ext (fY ak aR))->E ⇑C (some ak) I
def nP.step{aR:List (Str×V)}(h:nP C aR H E)(s:aC H H1)(n:aG H->aG H1):nP C aR H1 E:=λak I s' fK e=>h ak I (s.trans s') (λz=>fK (n z)) e
def qr(ds:List aQ):Prop:=∀d∈ds,nQ d.name/\0<=d.off/\d.off<=1000
noncomputable def k3(ds:List aQ)(sp:List bj):Option Str:=(ds.map (·.name)).find? λx=>(cA x sp).isEmpty
def UM(t:bA):bH:=λvs H Q _=>∃x n,vs=[⇑x,.str n]/\nQ n/\H x\(.ext (ek x t.ad none)) /\
 ∀ak,H ak=none->ak≠x->Q .b4 (upd (upd H x (.ext (ek x t.ad (some ak)))) ak (.ext (fY ak [(aa "way",.str n)])))
def UP(t:bA):bH:=λvs H Q _=>∃x n i,vs=[⇑x,.str n,.int i]/\nQ n/\i.natAbs.log2<1920/\H x\(.ext (ek x t.eW none)) /\
 ∀ak,H ak=none->ak≠x->Q .b4 (upd (upd H x (.ext (ek x t.eW (some ak)))) ak (.ext (fY ak [(aa "way",.str n),(aa "at",.int i)])))
def XQ(t:bA):bH:=λvs H Q _=>∃x n m i,vs=[⇑x,.str n,.str m,.int i]/\nQ n/\nQ m/\i.natAbs.log2<1920/\H x\(.ext (ek x t.eI none)) /\
 ∀ak,H ak=none->ak≠x->Q .b4 (upd (upd H x (.ext (ek x t.eI (some ak)))) ak (.ext (fY ak [(aa "way",.str n),(aa "other",.str m),(aa "at",.int i)])))
def ON(t:bA):bH:=λvs H Q E=>∃c n ds p sp,vs=[⇑c,⇑p]/\fO t H c n ds/\qr ds/\ho H p (gR hM sp)/\↑sp<=100 /\
 match k3 ds sp with
 |none=>∀I,aC H I->(aG H->aG I)->Q .b4 I
 |some x=>nP t.ad [(p'p (aa "way") (.str x))] H E
noncomputable def rh(z:Int)(sp:List bj)(k:Nat)(d:bj):Int:=(((cA d.name (sp.eraseIdx k)).map λp=>(p.1-d.b)%z).min?).getD z
def Y4:bH:=λvs H Q E=>∃(z:Int) (p:Addr) (sp:List bj) (k:Nat) (d:bj),vs=[.int z,⇑p,.int k]/\0<z/\ho H p (gR hM sp)/\↑sp<=100/\sp[k]?\d/\∀I,aC H I->(aG H->aG I)->Q (.int (rh z sp k d)) I
def ai7(l:List α)(x:α)(k:Nat):(l++[x]).eraseIdx k=if k=↑l then l.eraseIdx k else l.eraseIdx k++[x]:=by
 by_cases h:k<↑l
 .rw [if_neg (),List.eraseIdx_append_of_lt_length h]
 .rw[List.eraseIdx_append_of_length_le (),aec (l:=l) ()];by_cases aj:k=↑l
  .rw [if_pos aj,aj,Nat.sub_self];simp
  .rw [if_neg aj,aec (by simp;omega)]
noncomputable def lZ(ds:List aQ)(x:Str):Option aQ:=ds.find? λd=>decide (d.name=x)
noncomputable def vY(ds:List aQ)(z:Int)(sp:List bj)(k:Nat)(s:bj):Bool:=(lZ ds s.name).any λd=>decide (s.n<d.least)||decide (rh z sp k s<s.n+c5 d+c1 d)
noncomputable def mM(ds:List aQ)(z:Int)(sp:List bj):Option (bj×Nat):=sp.zipIdx.find? λe=>vY ds z sp e.2 e.1
def Vl(t:bA):bH:=λvs H Q E=>∃(c:Addr) (n:Int) (ds:List aQ) (z:Int) (p:Addr) (sp:List bj),vs=[⇑c,.int z,⇑p]/\fO t H c n ds/\qr ds/\(0<z/\z<=1000)/\ho H p (gR hM sp)/\tY z sp/\(∀s∈sp,∃d,lZ ds s.name\d) /\
 match mM ds z sp with
 |none=>∀I,aC H I->(aG H->aG I)->Q .b4 I
 |some e=>nP t.eW [(p'p (aa "way") (.str e.1.name)),(p'p (aa "at") (.int e.1.b))] H E
def Td{w:World}{K:a'}{av:Str->Option Value}{base:Heap}{j k:Nat}(V:qz P w K av base CX j oK m ps oy)(h:j<=k):qz P w K av base CX k oK m ps oy:=⟨λC cq=>by
 let(f,fd,af,aj,a_,b'):=V.ok C cq;exact(f,fd,af,aj,a_.mono h,b')⟩
def Pm{x:Str}{d:aQ}(h:lZ ds x\d):d.name=x/\∃i:Nat,ds[i]?\d:=by
 unfold lZ at h;refine(by simpa using List.find?_some h,?_);let(i,ao,e):=sG (List.mem_of_find?_eq_some h);exact(i,by rw[bJ ao,e])
noncomputable def hr(cU dr:aQ):Int:=if cU.off-dr.near>0 then cU.off-dr.near else 0
noncomputable def n9(g:Int)(fa e':List Int):Option ((Int×Int)×Nat):=(fa.zip e').zipIdx.find? λe=>decide (e.1.2=0)&&decide (e.1.1<=g)
def WS(t:bA):bH:=λvs H Q E=>∃(c:Addr) (n:Int) (ds:List aQ) (cU dr:aQ) (dD dR:Addr) (fa e':List Int),vs=[⇑c,.str cU.name,.str dr.name,⇑dD,⇑dR]/\fO t H c n ds/\qr ds/\cU∈ds/\dr∈ds/\H dD\(.lst (fa.map V.int))/\H dR\(.lst (e'.map V.int))/\↑fa=↑e'/\↑fa<=1000 /\
 match n9 (hr cU dr) fa e' with
 |none=>∀I,aC H I->(aG H->aG I)->Q .b4 I
 |some e=>nP t.eI [(p'p (aa "way") (.str cU.name)),(p'p (aa "other") (.str dr.name)),(p'p (aa "at") (.int e.2))] H E
noncomputable def lx(z:Nat)(sp:List bj)(x:Str):List Int:=tg (er z (cA x sp))
noncomputable def nw(n:Int)(z:Nat)(sp:List bj)(cU dr:aQ):Option Nat:=if cU.name≠dr.name/\mt n cU dr=true then(n9 (hr cU dr) (lx z sp cU.name) (lx z sp dr.name)).map (·.2)else none
noncomputable def v3(n:Int)(z:Nat)(sp:List bj)(cU:aQ)(ds:List aQ):Option (aQ×aQ×Nat):=ds.findSome? λdr=>(nw n z sp cU dr).map λi=>(p'p cU (p'p dr i))
noncomputable def nF(n:Int)(z:Nat)(sp:List bj)(ds:List aQ):Option (aQ×aQ×Nat):=ds.findSome? λcU=>v3 n z sp cU ds
def SM(t:bA):bH:=λvs H Q E=>∃(c:Addr) (n:Int) (ds:List aQ) (z:Nat) (p:Addr) (sp:List bj),vs=[⇑c,.int z,⇑p]/\fO t H c n ds/\0<n/\qr ds/\(0<z/\z<=1000)/\ho H p (gR hM sp)/\tY z sp/\aG H /\
 match nF n z sp ds with
 |none=>∀I,aC H I->aG I->Q .b4 I
 |some e=>nP t.eI [(p'p (aa "way") (.str e.1.name)),(p'p (aa "other") (.str e.2.1.name)),(p'p (aa "at") (.int e.2.2))] H E
def Dm(m:List Bool):↑(ny m)=↑m:=by unfold ny;simp
def G3(z:Nat)(sp:List bj)(x:Str):↑(lx z sp x)=z:=by
 unfold lx tg;rw[yR,Dm,yR,oi]
noncomputable def gU(ds:List aQ)(rs:List Addr):List (Key×V):=(ds.zip rs).map λe=>(p'p (b5 e.1.name) (V.ref e.2))
def pB(H:ar)(p:Addr)(ds:List aQ)(f:aQ->eY)(n:Nat):Prop:=∃rs:List Addr,↑rs=n/\H p\(.bL (gU ds rs))/\∀(i:Nat) (r:Addr) (d:aQ),rs[i]?\r->ds[i]?\d->H r\(f d)
def xB{ds:List aQ}(h:(ds.map (·.name)).Nodup){i j:Nat}{d e:aQ}(ao:ds[i]?\d)(aZ:ds[j]?\e)(z:d.name=e.name):i=j:=
 AL h (cv.mp ao).1 (cv.mp aZ).1 (by rw[rY ao,rY aZ];exact z)
def Nx(h:(ds.map (·.name)).Nodup){i:Nat}{d:aQ}(hd:ds[i]?\d)(au:rs[i]?\r):c6 (gU ds rs) (b5 d.name)\⇑r:=by
 let(af,az):=cv.mp hd;let(aj,aE):=cv.mp au;unfold c6;have hf:Pk (λc2=>decide (c2.1=(b5 d.name:Key))) (gU ds rs)=some (p'p (b5 d.name) (⇑r)):=by
  rw[apW];refine(by simp,i,by unfold gU;simp;omega,by unfold gU;simp[az,aE],λj aZ=>?_);unfold gU;simp;intro z;have:=xB h (bJ (show j<↑ds by omega)) hd z;omega
 rw[hf];rfl
def L'(h:(ds.map (·.name)).Nodup){d:aQ}(hd:ds[↑rs]?\d):eN (gU ds rs) (b5 d.name) ⇑r=gU ds (rs++[r]):=by
 let(af,az):=cv.mp hd;unfold eN;have no:((gU ds rs).any λc2=>decide (c2.1=b5 d.name))=false:=by
  rw[LD];intro p aq;unfold gU at aq;let(e,he,rfl):=dg.mp aq;let(j,aZ,aj5):=sG he;simp only[decide_eq_true_eq];intro z;have z:=xm z;rw[<- aj5]at z;simp at aZ z;have:=xB h (bJ (show j<↑ds by omega)) hd z;omega
 rw[no,if_neg ∅];unfold gU;refine q7 (by simp;omega) (λi a_ b'=>?_);simp at a_ b';by_cases c:i<↑rs
 .simp [anH,c,show i<ds.length by omega];rw[dif_pos ()]
 .have:i=↑rs:=()
  subst this;simp[anH,sg af,az]
def aey:cj P base T 1 t.xx t.D' xO (UM t):=by
 exists T.Uk.ok amG,9
 let(x,n,rfl,aL,ai,q):=h;refine(_,(aN (eu (CV rfl T.zA T.AX (ag (U 0) (ag (Cy (ra (Ao (U 1) (ra ES))) (by rw[sizeLine_eq];decide)) aA))))
   (aY (Ck (U 0) (U 1) rfl))),?_)
 nofun;refine(aL.1,aL.2,λy=>(_,_,ai,T.AU,?_));exact(_,ai,T.AU,T.anu,q)
def adM:cj P base T 1 t.y9 t.DH zK (UP t):=by
 exists T.Yr.ok anT,9
 let(x,n,i,rfl,aL,ao,ai,q):=h;refine(_,(aN (eu (CV rfl T.zA T.AX (ag (U 0) (ag (Cy (ra (Ao (U 1) (ra (Xp (U 2) ES)))) (by rw[sizeLine_eq];decide)) aA))))
   (aN (Ck (U 0) (U 1) rfl)
   (aY (Gh (U 0) (U 2) rfl)))),?_)
 nofun;refine(aL.1,aL.2,ao,λy=>(_,_,ai,T.Ap,?_));refine(_,ai,T.Ap,T.apn,λak hd b8=>?_);refine(_,ak,by rw[aO (dB b8),aP],_,aP,T.Ap,T.aaN,(∅:1<1000),?_);rw[pY,show dz (aa "at") (V.int i) ([(p'p (aa "way") (V.str n))]:List (Str×V))=[(p'p (aa "way") (V.str n)),(p'p (aa "at") (V.int i))]from hl [aa "way"] rfl ∅];exact q ak hd b8
def aa1:cj P base T 1 t.xX t.E' yx (XQ t):=by
 exists T.Rg.ok apj,9
 let(x,n,m,i,rfl,aL,hm,ao,ai,q):=h;refine(_,(aN (eu (CV rfl T.zA T.AX (ag (U 0) (ag (Cy (ra (Ao (U 1) (ra (Ao (U 2) (ra (Xp (U 3) ES)))))) (by rw[sizeLine_eq];decide)) aA))))
   (aN (Ck (U 0) (U 1) rfl)
   (aN (Gh (U 0) (U 2) rfl)
   (aY (Gh (U 0) (U 3) rfl))))),?_)
 nofun;refine(aL.1,aL.2,hm.1,hm.2,ao,λy=>(_,_,ai,T.uY,?_));refine(_,ai,T.uY,T.apw,λak hd b8=>?_);refine(_,ak,by rw[aO (dB b8),aP],_,aP,T.uY,T.aoo,(∅:1<1000),?_);rw[pY,show dz (aa "other") (V.str m) ([(p'p (aa "way") (V.str n))]:List (Str×V))=[(p'p (aa "way") (V.str n)),(p'p (aa "other") (V.str m))]from hl [aa "way"] rfl ∅];refine(_,ak,by rw[aO (dB b8),aP],_,aP,T.uY,T.adT,(∅:2<1000),?_);rw[pY,show dz (aa "at") (V.int i) ([(p'p (aa "way") (V.str n)),(p'p (aa "other") (V.str m))]:List (Str×V))=[(p'p (aa "way") (V.str n)),(p'p (aa "other") (V.str m)),(p'p (aa "at") (V.int i))]from hl [aa "way",aa "other"] rfl ∅];exact q ak hd b8
theorem ad2(T:Txt w K av t):bD P w K av base (fm P w) 3 t.Al t.BN BA (ON t):=by
 have anz:bD P w K av base cN 1 t.xx t.D' xO (UM t):=aey T;have pO:bD P w K av base cN 2 t.Cj t.CP vy S1:=(z6 T).mono ∅;have nW:bD P w K av base cN 2 t.vU t.zB ["self"] (H' t):=(zN T).mono ∅;exists T.Ny.o7 Xd,9
 let(c,n,ds,p,sp,rfl,C,bB,L,aB,q):=h;refine(_,(aY (eF (q6 (rfl,rfl)) rfl (e5 (iL (U 0) T.g5 T.sT nW au T.sI .nil cJ)) (b6 (i:=2) Xd.aD) (aY (c0 (Fk (Fv (bT pO au T.zo T.tK.bt T.xH (ag (U 1) (ag (U 2) aA))) (λ_=>rfl))) (aY (BQ (CC T.V5 anz au rfl T.QD T.ao1 (ag (U 2) aA)) AW)) c7)))),?_);nofun;let(_,ak,wl,aD,az,_,_):=id C;refine(_,_,az,jl _ _ _ ∅,c,n,ds,rfl,C,λd8 hc=>(d8,rfl,(_,aH.of aP),?_));refine dW.list (xs:=bz (ds.map (·.name))) (λi σ I=>(∃y,σ=[some (V.ref c),some (V.ref p),y])/\aC (upd H d8 (.lst (bz (ds.map (·.name))))) I/\(aG H->aG I)/\k3 ds sp=((ds.map (·.name)).drop i).find? λx=>(cA x sp).isEmpty) ?_ ?_ ?_ ?_
 .exact ((_,rfl),aC.refl _,λn=>n.upd,rfl)
 .rintro i σ I ao a3;ac_rfl
  let(_,a7,_,_):=a3;subst ba;exact aH.of (a7 _ _ aP)
 .rintro i v σ I aM a3;ac_rfl
  let((y,rfl),a7,a8,hf):=a3;let(x,ai,rfl):=cF aM;have lz:aC H I:=(bp hc).trans a7;let(ao,xu):=cv.mp ai;subst ba;rw[Bw ao,xu,oo]at hf;nofun;refine jW (λb ay=>b=(cA x sp).isEmpty/\aC I ay/\(aG I->aG ay)) (λQ aV=>?_) (λay r=>?_) (λay r=>?_)
  .nofun;refine(p,x,sp,rfl,L.same lz,aB,λr ay s2 cg ⟨qs,cw,dH⟩=>(!(cA x sp).isEmpty,.inl (_,aH.of cw,?_),?_))
   .have aw:=dH.1;cases qs with
    |nil=>cases h:cA x sp with
     |nil=>rfl
     |cons a r=>rw[h]at aw;simp at aw
    |cons a r=>cases h:cA x sp with
     |nil=>rw[h]at aw;simp at aw
     |cons a r=>rfl
   .rw [Bool.not_not];exact aV _ _ (rfl,s2,cg)
  .obtain⟨bX,c4,kc⟩:=r;rw[<- bX]at hf;have hf:k3 ds sp\x:=hf;rw[hf]at q;nofun;have aL:nQ x:=by
    let(d,hd,rfl):=cF ai;exact(bB d (cC hd)).1
   refine(∅,λa aJ=>(a,x,rfl,aL,aP,λd hd b8=>?_));have nO:ay d=none:=by rw[aO b8]at hd;exact hd
   refine(rfl,t.ad,some d,by rw[aO (dB b8),aP],T.AU,q d _ (λb u e=>?_) (λn=>((((kc (a8 n)).upd).upd).upd).upd) (by rw[aO b8,aP]));have bZ:=c4 _ _ (lz _ _ e);rw[aO (cM bZ aJ),aO (cM bZ nO),aO (cM bZ aJ),aO (cM bZ aJ)];exact bZ
  .let(bX,c4,kc):=r;rw[<- bX]at hf;nofun;exact((_,rfl),a7.trans c4,λn=>kc (a8 n),hf)
 .rintro σ I a3;ac_rfl
  let((y,rfl),a7,a8,hf):=a3;subst ba;rw[BX (by unfold bz;simp)]at hf;have hf:k3 ds sp=none:=hf;rw[hf]at q;exact q _ ((bp hc).trans a7) a8
theorem ajl:cj P base T 2 t.CT t.D1 CA Y4:=by
 refine cn (z6 T) λpO=>?_;exists T.Mv.ok yi,9
 let(z,p,sp,k,d,rfl,ax,(qs,cw,iJ),aB,aI,q):=h;refine(_,(aN (mr (bP dA (U 1) (U 2)) (jm (K:=K) (n:=3) rfl rfl (eb (b6 (i:=3) yi.aD) (eb (SB (i:=4) yi.aD rfl (p5 rfl) (.inl rfl)) (eb (b6 (i:=5) yi.aD) jd)))))
   (aN (zv (i:=6) yi.aD rfl (m2 rfl) rfl (z5 rfl T.xZ (ag (U 1) aA)) (hi (sc:=br (top 98)) rfl ∅) (N:=Gp) (sel:=[none,none,some 2]) (ha (M:=Nh) ∅) (fR.of (λ_ _ _ _=>(jm (K:=K) (n:=2) rfl rfl (eb (b6 (i:=0) (fk (N:=Gp) ∅ rfl)) (eb (b6 (i:=1) (fk (N:=Gp) ∅ rfl)) jd)))) (λ_ _ _ _=>(_,(x' (cS js (U 0) (U 2) (ct _))),by walk_at "B")) (λ_ _ _ _=>(_,(U 1),by walk_at "B"))) rfl)
   (aY (bR (ZW rfl rfl T.N' (ag (iz rfl (e5 (bT pO au T.zo T.tK.bt T.xH (ag (U 6) (ag (U 3) aA)))) (hi (sc:=br (top 98)) rfl ∅) (N:=La) (sel:=[none,none,some 4,some 0]) (ha (M:=Nh) ∅) (fR.of (λ_ _ _ _=>(jm (K:=K) (n:=2) rfl rfl (eb (b6 (i:=0) (fk (N:=La) ∅ rfl)) (eb (b6 (i:=1) (fk (N:=La) ∅ rfl)) jd)))) (λ_ _ _ _=>(_,iB,by walk_at "B")) (λ_ _ _ _=>(_,(bk iu (bk ih (U 0) (U 2)) (U 3)),by walk_at "B")))) aA) (U 0)))))),?_)
 nofun;have nV:↑qs=↑sp:=by rw[iJ.1,a9]
 let(Wy,as'):=cv.mp aI;have oC:qs[k]?\qs[k]:=bJ ();have wo:H qs[k]\(hM d):=iJ.2 k _ _ oC (by rw[d7,aI];rfl);refine(_,aH.of cw,_,cO (by rw[d7,oC];rfl),_,rfl,_,b1.of wo,rfl,_,_,rfl,_,_,rfl,_,_,rfl,rfl,(_,aH.of cw),?_);refine dv.enum (xs:=qs.map V.ref) (λi ys I=>∃os:List Addr,ys=os.map V.ref/\gM I os (((sp.take i).eraseIdx k).map hM)/\aC H I/\(aG H->aG I)) (cH (show ↑(qs.map V.ref)<=100 by rw[a9];omega) ∅) ([],rfl,by rw[Bv];exact gM.nil _,aC.refl _,id) ?_ ?_ ?_
 .rintro i ys I ao a3;ac_rfl
  let(os,rfl,r,a7,_):=a3;subst ba;refine((aH.of cw).same a7,?_);rw[a9,r.1,a9];exact cH (Wt ..) (by rw[fw];omega)
 .rintro i v ys I dD aM ⟨os,rfl,r,a7,a8⟩ eB N bc;obtain⟨hG,fg,rfl⟩:=cF aM;obtain⟨o,aW,e⟩:=iJ.at fg;obtain⟨d',m7,rfl⟩:=cF aW;have bZ:=a7 _ _ e;have s1:aC I (upd I dD (.tup [.int i,⇑hG])):=bp eB;refine vh ?_;dsimp only at bc;have tb:↑(sp.take i)=i:=by
   have:=(cv.mp m7).1;rw[fw];omega
  rw[jn m7,ai7,tb]at bc;nofun;refine(Sub.DG,?_);by_cases c:k=i
  .rw [if_pos c]at bc;rw[if_neg (by subst c;simp)];exact bc _ _ (os,rfl,r.same s1,a7.trans s1,λn=>(a8 n).upd)
  .rw [if_neg c]at bc;rw[if_pos (by simp;omega)];refine bc _ _ (os++[hG],by rw[ew];rfl,?_,a7.trans s1,λn=>(a8 n).upd);rw[ew];exact(r.same s1).app (gM.one (s1 _ _ bZ))
 .rintro ys I ⟨os,rfl,r,a7,a8⟩ dD eB;rw[l4 (by rw[a9];omega)]at r;nofun;have s1:aC I (upd I dD (.lst (os.map V.ref))):=bp eB;refine⟨dD,d.name,sp.eraseIdx k,rfl,⟨os,aP,r.same s1⟩,cH (Wt ..) aB,fun c4 ay s2 cg ⟨zY,fa,e'⟩=>⟨c4,rfl,⟨_,aH.of fa⟩,?_⟩⟩;have FW:↑(cA d.name (sp.eraseIdx k))<=100:=cH (GU _ _) (cH (Wt ..) aB);have Hp:↑zY=↑(cA d.name (sp.eraseIdx k)):=by rw[e'.1,a9]
  refine dv.tu (zs:=((cA d.name (sp.eraseIdx k)).map λp=>(p.1-d.b)%z).map V.int) (aH.of fa) (cH (show ↑(zY.map V.ref)<=100 by rw[a9];omega) ∅) (by simp[Hp]) (λi v z' N aM e2 bc=>?_) (λl aw=>?_)
  .let(hG,fg,rfl):=cF aM;let(o,aW,e):=e'.at fg;let(pr,ao3,rfl):=cF aW;let(y,bg,rfl):=cF e2;let(aq_,YO,rfl):=cF bg;rw[ao3]at YO;cases YO;nofun;exact(_,b1.of e,rfl,_,_,rfl,_,_,rfl,rfl,Sub.DG,_,rfl,ax,bc)
  .nofun;refine(_,aH.of aP,?_);have:=q (upd ay l (.lst (((cA d.name (sp.eraseIdx k)).map λp=>(p.1-d.b)%z).map V.int))) (((a7.trans s1).trans s2).trans (bp aw)) (λn=>(cg (a8 n).upd).upd);unfold rh at this;cases hm:((cA d.name (sp.eraseIdx k)).map λp=>(p.1-d.b)%z).min? with
   |none=>rw[hm]at this;exact this
   |some m=>rw[hm]at this;exact this
def akM(T:Txt w K av t):bD P w K av base (fm P w) 4 t.wM t.DD si (Vl t):=by
 have aik:bD P w K av base cN 2 t.y9 t.DH zK (UP t):=(adM T).mono ∅;have acP:bD P w K av base cN 3 t.CT t.D1 CA Y4:=(ajl T).mono ∅;have jx:bD P w K av base cN 3 t.lc t.Ag kl (F3 t):=(ro T).mono ∅;have IW:qz P w K av base cN 3 (vt t) "ready" ["self"] (vS t):=Td (Rt T) ∅;have LZ:qz P w K av base cN 3 (vt t) "fade" ["self"] (vq t):=Td (Ws T) ∅;exists T.NU.o7 r8,9
 let(c,n,ds,z,p,sp,rfl,C,bB,ax,(qs,cw,iJ),aB,aI,q):=h;refine(_,(aY (eF (q6 (rfl,rfl)) rfl (z5 rfl T.xZ (ag (U 2) aA)) (jm (K:=K) (n:=2) rfl rfl (eb (b6 (i:=3) r8.aD) (eb (b6 (i:=4) r8.aD) jd))) (aN (mr (U 4) (jm (K:=K) (n:=3) rfl rfl (eb (b6 (i:=5) r8.aD) (eb (b6 (i:=6) r8.aD) (eb (b6 (i:=7) r8.aD) jd)))))
   (aN (bO (i:=8) r8.aD (e0 (U 0) T.g5 T.oA jx au T.oq .nil cJ (ag (U 5) aA)))
   (aN (bO (i:=9) r8.aD (bk dd (bk dd (U 7) (Dr (U 8) LZ au cJ)) (Dr (U 8) IW au cJ)))
   (aY (c0 (f5.pt (ph (cS qv (U 7) (dJ (U 8) rfl) (ct _)) (pF (cS qv (bT acP au T.apV T.Mv.bt T.io (ag (U 1) (ag (U 2) (ag (U 3) aA)))) (U 9) (ct _))))) (aY (BQ (CC T.Wi aik au rfl T.Pj T.aah (ag (U 5) (ag (U 6) aA))) AW)) c7))))))),?_)
 nofun;have nV:↑qs=↑sp:=by rw[iJ.1,a9]
 refine((_,aH.of cw),?_);refine dW.enum (xs:=qs.map V.ref) (λi σ I=>(∃a b cu d e f g,σ=[some (V.ref c),some (V.int z),some (V.ref p),a,b,cu,d,e,f,g])/\aC H I/\(aG H->aG I)/\mM ds z sp=(sp.zipIdx.drop i).find? λe=>vY ds z sp e.2 e.1) ?_ ?_ ?_ ?_
 .exact ((_,_,_,_,_,_,_,rfl),aC.refl _,id,rfl)
 .rintro i σ I ao a3;ac_rfl
  let(_,a7,_,_):=a3;subst ba;exact aH.of (a7 _ _ cw)
 .rintro i v σ fP dD aM ⟨⟨a1,a2,uL,UI,art,arS,arT,rfl⟩,a7,a8,hf⟩ eB;obtain⟨hG,fg,rfl⟩:=cF aM;obtain⟨o,aW,e⟩:=iJ.at fg;obtain⟨dq,iv,rfl⟩:=cF aW;obtain⟨ao,xu⟩:=cv.mp iv;rw[Bw (by simpa using ao),oo]at hf;simp only[ad_,MA,xu]at hf;have s1:aC fP (upd fP dD (.tup [.int i,⇑hG])):=bp eB;refine vh ?_;have fs:aG H->aG (upd fP dD (.tup [.int i,⇑hG])):=fun n=>(a8 n).upd
  generalize upd fP dD (.tup [.int i,⇑hG])=I at s1 fs⊢;have lz:aC H I:=a7.trans s1;let(d,hd):=aI dq (cC iv);let(rJ,j,aZ):=Pm hd;have hO:=C.same lz;let(_,ak,wl,aD,az,_,_):=id hO;have abp:=bB d (cC aZ);have gT:vY ds z sp i dq=(decide (dq.n<d.least)||decide (rh z sp i dq<dq.n+c5 d+c1 d)):=by
   unfold vY;rw[hd];rfl
  nofun;refine(_,b1.of (lz _ _ e),rfl,_,_,rfl,_,_,rfl,_,_,rfl,rfl,_,_,az,jl _ _ _ ∅,c,n,ds,j,d,by rw[rJ],hO,aZ,λa W=>?_);let(bb,asS,aJ):=id W;refine(a,rfl,_,_,_,aJ,(_,bb,rfl),CU ∅,a,d,rfl,W,rfl,_,rfl,_,rfl,a,rfl,_,_,_,aJ,(_,bb,rfl),CU ∅,a,d,rfl,W,rfl,_,rfl,?_);refine jW (λb ay=>b=vY ds z sp i dq/\aC I ay/\(aG I->aG ay)) (λQ aV=>?_) (λay r=>?_) (λay r=>?_)
  .rw[gT]at aV;nofun;refine(_,W.ad1 T,_,rfl,?_);by_cases cu:dq.n<d.least
   .rw [decide_eq_true cu]at aV;rw[if_pos (decide_eq_true cu)];exact aV _ _ (rfl,aC.refl _,id)
   .rw [decide_eq_false cu,ov]at aV;rw[if_neg (by simpa using cu)];exact(z,p,sp,i,dq,rfl,ax.1,(qs,lz _ _ cw,iJ.same lz),aB.1,iv,λay s2 cg=>(_,rfl,aV _ _ (rfl,s2,cg)))
  .obtain⟨bX,c4,kc⟩:=r;rw[<- bX]at hf;have hf:mM ds z sp\(dq,i):=hf;rw[hf]at q;nofun;have aL:nQ dq.name:=by rw[<- rJ];exact abp.1
   have Ax:=aB.2 dq (cC iv);refine(∅,λa aJ=>(a,dq.name,dq.b,rfl,aL,qc (),aP,λd hd b8=>?_));have nO:ay d=none:=by rw[aO b8]at hd;exact hd
   refine(rfl,t.eW,some d,by rw[aO (dB b8),aP],T.Ap,q d _ (λb u e=>?_) (λn=>((((kc (fs n)).upd).upd).upd).upd) (by rw[aO b8,aP]));have bZ:=c4 _ _ (lz _ _ e);rw[aO (cM bZ aJ),aO (cM bZ nO),aO (cM bZ aJ),aO (cM bZ aJ)];exact bZ
  .let(bX,c4,kc):=r;rw[<- bX]at hf;exact((_,_,_,_,_,_,_,rfl),lz.trans c4,λn=>kc (fs n),hf)
 .rintro σ I a3;ac_rfl
  let(_,a7,a8,hf):=a3;subst ba;rw[BX (by simp[nV])]at hf;have hf:mM ds z sp=none:=hf;rw[hf]at q;exact q _ a7 a8
def aqH(T:Txt w K av t):bD P w K av base (fm P w) 4 t.Bf t.E8 D0 (WS t):=by
 have aeO:bD P w K av base cN 2 t.xX t.E' yx (XQ t):=(aa1 T).mono ∅;have afv:bD P w K av base cN 3 t.Bi t.DN ri (SP t):=aqk T;exists T.LP.o7 wf,9
 let(c,n,ds,cU,dr,dD,dR,fa,e',rfl,C,bB,af,aj,jz,L2,aw,hm,q):=h;refine(_,(aN (bO (i:=5) wf.aD (bT afv au T.api T.JY.bt T.aiA (ag (U 0) (ag (U 1) (ag (U 2) aA)))))
   (aY (eF (q6 (rfl,rfl)) rfl (z5 rfl T.xZ (ag (U 3) aA)) (jm (K:=K) (n:=2) rfl rfl (eb (b6 (i:=6) wf.aD) (eb (b6 (i:=7) wf.aD) jd))) (aY (c0 (f5.pt (wB (cS eZ (bP dA (U 4) (U 6)) aS (ct _)) (u4 (cS aeV (U 7) (U 5) (ct _))))) (aY (BQ (CC T.X4 aeO au rfl T.Vj T.ajq (ag (U 1) (ag (U 2) (ag (U 6) aA)))) AW)) c7))))),?_)
 nofun;let(DK,anW,akP):=sG af;let(EJ,Hu,af2):=sG aj;refine(c,n,ds,DK,EJ,cU,dr,rfl,C,by rw[bJ anW,akP],by rw[bJ Hu,af2],(_,aH.of jz),?_);rw[show(if cU.off-dr.near>0 then cU.off-dr.near else 0)=hr cU dr from rfl];refine dW.enum (xs:=fa.map V.int) (λi σ I=>(∃a b,σ=[some (V.ref c),some (V.str cU.name),some (V.str dr.name),some (V.ref dD),some (V.ref dR),some (V.int (hr cU dr)),a,b])/\aC H I/\(aG H->aG I)/\n9 (hr cU dr) fa e'=((fa.zip e').zipIdx.drop i).find? λe=>decide (e.1.2=0)&&decide (e.1.1<=hr cU dr)) ?_ ?_ ?_ ?_
 .exact ((_,_,rfl),aC.refl _,id,rfl)
 .rintro i σ I ao a3;ac_rfl
  let(_,a7,_,_):=a3;subst ba;exact aH.of (a7 _ _ jz)
 .rintro i v σ fP iD aM ⟨⟨a1,a2,rfl⟩,a7,a8,hf⟩ pV;obtain⟨fN,pj,rfl⟩:=cF aM;obtain⟨ao,aeo⟩:=cv.mp pj;have Zs:i<↑e':=()
  have L_:e'[i]?\e'[i]:=bJ Zs;rw[Bw (by simp;omega),oo]at hf;simp only[ad_,List.getElem_zip,MA,aeo]at hf;have s1:aC fP (upd fP iD (.tup [.int i,.int fN])):=bp pV;refine vh ?_;have fs:aG H->aG (upd fP iD (.tup [.int i,.int fN])):=λn=>(a8 n).upd
  generalize upd fP iD (.tup [.int i,.int fN])=I at s1 fs⊢;have lz:aC H I:=a7.trans s1;nofun;refine cX (decide (e'[i]=0)&&decide (fN<=hr cU dr)) (λQ aV=>?_) (λcu=>?_) (λcu=>?_)
  .nofun;refine(_,aH.of (lz _ _ L2),_,cO (by rw[d7,L_];rfl),rfl,?_);by_cases et:e'[i]=0
   .rw [decide_eq_true et,B6]at aV;rw[if_pos (by rw[et];exact decide_eq_true rfl)];exact aV
   .rw [decide_eq_false et,tU]at aV;rw[if_neg (by rw[decide_eq_true_eq];exact λe=>et (V.int.inj e))];exact aV
  .rw[cu]at hf;have hf:n9 (hr cU dr) fa e'\(p'p (p'p fN (e'[i])) i):=hf;rw[hf]at q;nofun;refine(∅,λa aJ=>(a,cU.name,dr.name,i,rfl,(bB _ af).1,(bB _ aj).1,qc (),aP,λd hd b8=>?_));have nO:I d=none:=by rw[aO b8]at hd;exact hd
   refine(rfl,t.eI,some d,by rw[aO (dB b8),aP],T.uY,q d _ (λb u e=>?_) (λn=>((((fs n).upd).upd).upd).upd) (by rw[aO b8,aP]));have bZ:=lz _ _ e;rw[aO (cM bZ aJ),aO (cM bZ nO),aO (cM bZ aJ),aO (cM bZ aJ)];exact bZ
  .rw [cu]at hf;exact((_,_,rfl),lz,fs,hf)
 .rintro σ I a3;ac_rfl
  let(_,a7,a8,hf):=a3;subst ba;rw[BX (by simp;omega)]at hf;have hf:n9 (hr cU dr) fa e'=none:=hf;rw[hf]at q;exact q _ a7 a8
theorem adj(T:Txt w K av t):bD P w K av base (fm P w) 5 t.y2 t.AS si (SM t):=by
 have ai2:bD P w K av base cN 4 t.Cz t.Ep ["marks"] Ro:=(ads T).mono ∅;have NG:bD P w K av base cN 4 t.C5 t.Ds Ea S5:=(WE T).mono ∅;have nW:bD P w K av base cN 4 t.vU t.zB ["self"] (H' t):=(zN T).mono ∅;have aaZ:bD P w K av base cN 4 t.Ew t.Eu ri (Rm t):=(agr T).mono ∅;have agP:bD P w K av base (fm P w) 4 t.Bf t.E8 D0 (WS t):=aqH T;exists T.Jl.o7 zj,9
 let(c,n,ds,z,p,sp,rfl,C,aL,bB,ax,L,aB,w4,q):=h;have bx:=iU au;refine(_,(aN (bO (i:=3) zj.aD ql)
   (aN (eF (q6 (rfl,rfl)) rfl (e5 (iL (U 0) T.g5 T.sT nW au T.sI .nil cJ)) (b6 (i:=4) zj.aD) (aY (rA bx (U 3) (U 4) (bT ai2 au T.ahy T.Gr.bt T.anl (ag (bT NG au T.Pn T.BL.bt T.Pf (ag (U 1) (ag (U 2) (ag (U 4) aA)))) aA)) rfl)))
   (aY (eF (q6 (rfl,rfl)) rfl (e5 (iL (U 0) T.g5 T.sT nW au T.sI .nil cJ)) (b6 (i:=5) zj.aD) (aY (eF (q6 (rfl,rfl)) rfl (e5 (iL (U 0) T.g5 T.sT nW au T.sI .nil cJ)) (b6 (i:=6) zj.aD) (aY (c0 (f5.pt (wB (cS js (U 5) (U 6) (ct _)) (u4 (jS (bT aaZ au T.alK T.Il.bt T.aeY (ag (U 0) (ag (U 5) (ag (U 6) aA)))))))) (aY (eu (pM agP au rfl T.ahH T.LP.bt T.aib .nil pD (ag (U 0) (ag (U 5) (ag (U 6) (ag (j7 bx (U 3) (U 5) (λ_ _=>rfl)) (ag (j7 bx (U 3) (U 6) (λ_ _=>rfl)) aA)))))))) c7)))))))),?_)
 nofun;intro qe Th;let((hQ,hU),ak,wl,aD,az,_,_):=id C;have s0:aC H (upd H qe (.bL [])):=bp Th;refine(_,_,s0 _ _ az,jl _ _ _ ∅,c,n,ds,rfl,C.same s0,λd8 hc=>(d8,rfl,(_,aH.of aP),?_));have Ez:d8≠qe:=λe=>by subst e;rw[aP]at hc;cases hc
 refine dW.list (xs:=bz (ds.map (·.name))) (λi σ I=>(∃y,σ=[some (V.ref c),some (V.int z),some (V.ref p),some (V.ref qe),y,none,none])/\aC H I/\aG I/\I d8\(.lst (bz (ds.map (·.name))))/\pB I qe ds (λd=>.lst ((lx z sp d.name).map V.int)) i) ?_ ?_ ?_ ?_
 .exact ((_,rfl),s0.trans (bp hc),(w4.upd).upd,aP,[],rfl,by rw[aO (dB Ez),aP];simp[gU],λi r d h=>by simp at h)
 .rintro i σ I ao a3;ac_rfl
  let(_,_,_,h,_):=a3;subst ba;exact aH.of h
 .rintro i v σ I aM a3;ac_rfl
  let((y,rfl),a7,a8,iA,rs,pf,acm,vC):=a3;let(x,ai,rfl):=cF aM;let(d,hd,rfl):=cF ai;subst ba;nofun;refine(z,p,d.name,sp,rfl,ax,L.same a7,aB,λbX H1 s1 bY ll af=>(bX,_,rfl,af,by rw[oi];exact ax,λc4 ay s2 cg lK aj=>?_));have nE:=s1.trans s2;have dy:=nE _ _ acm;refine(_,mO.k (k:=b5 d.name) dy (i5 (show ↑(gU ds rs)<=12 by unfold gU;rw[a9,Mg];omega) ∅),?_);have g0:ds[↑rs]?\d:=by rw[pf];exact hd
  rw[L' hQ g0];have b8:∀{b:Addr} {ys:List V},ay b\(.lst ys)->b≠qe:=λe=>d_ e dy (by intro z;cases z)
  refine((_,rfl),λb u e=>?_,(cg (bY a8)).upd,?_,rs++[c4],by rw[c',pf];rfl,aP,λj r e aZ he=>?_)
  .rw [aO (cM e Th)];exact nE _ _ (a7 _ _ e)
  .rw [aO Ez];exact nE _ _ iA
  .rcases h4 aZ with⟨_,dF⟩|⟨dS,rfl⟩
   .have:=nE _ _ (vC j r e dF he);rw[aO (b8 this)];exact this
   .rw [dS]at he;rw[g0]at he;cases he;rw[aO (b8 aj)];exact aj
 rintro σ H1 a3;ac_rfl
 let((y,rfl),j1,fs,ar2,sm):=a3;have hH:↑(bz (ds.map (·.name)))=↑ds:=by unfold bz;simp
 subst ba;rw[hH]at sm;let(rs,pf,WD,vC):=sm;have wL:=C.same j1;nofun;refine(_,_,j1 _ _ az,jl _ _ _ ∅,c,n,ds,rfl,wL,λdR dy=>(dR,rfl,(_,aH.of aP),?_));refine dW.list (xs:=bz (ds.map (·.name))) (λi σ I=>(∃y u v,σ=[some (V.ref c),some (V.int z),some (V.ref p),some (V.ref qe),y,u,v])/\aC H1 I/\aG I/\I dR\(.lst (bz (ds.map (·.name))))/\nF n z sp ds=(ds.drop i).findSome? λcU=>v3 n z sp cU ds) ?_ ?_ ?_ ?_
 .exact ((_,_,_,rfl),bp dy,fs.upd,aP,rfl)
 .rintro i σ I ao a3;ac_rfl
  let(_,_,_,h,_):=a3;subst ba;exact aH.of h
 .rintro i v σ ay aM a3;ac_rfl
  let((y,u,jv,rfl),gC,f_,akE,f'):=a3;let(x,ai,rfl):=cF aM;let(cU,wY,rfl):=cF ai;let(ao,xu):=cv.mp wY;subst ba;rw[Bw ao,xu,afk]at f';have tJ:=wL.same gC;nofun;refine(_,_,gC _ _ (j1 _ _ az),jl _ _ _ ∅,c,n,ds,rfl,tJ,λiD pV=>(iD,rfl,(_,aH.of aP),?_));refine dW.list (xs:=bz (ds.map (·.name))) (λj σ I=>(∃y v,σ=[some (V.ref c),some (V.int z),some (V.ref p),some (V.ref qe),y,some (V.str cU.name),v])/\aC ay I/\aG I/\I iD\(.lst (bz (ds.map (·.name))))/\v3 n z sp cU ds=(ds.drop j).findSome? λdr=>(nw n z sp cU dr).map λi=>(p'p cU (p'p dr i))) ?_ ?_ ?_ ?_
  .exact ((_,_,rfl),bp pV,f_.upd,aP,rfl)
  .rintro i σ I ao a3;ac_rfl
   let(_,_,_,h,_):=a3;subst ba;exact aH.of h
  .rintro j v σ bq aM a3;ac_rfl
   let((y,jv,rfl),hV,kg,W8,gT):=a3;let(x,ai,rfl):=cF aM;let(dr,hd2,rfl):=cF ai;let(aZ,aaD):=cv.mp hd2;subst ba;rw[Bw aZ,aaD,afk]at gT;have za:=tJ.same hV;have yr:=gC.trans hV;nofun;refine cX (decide (cU.name≠dr.name)&&mt n cU dr) (λQ aV=>?_) (λcu=>?_) (λcu=>?_)
   .nofun;by_cases et:cU.name=dr.name
    .rw [decide_eq_false (λz=>z et),tU]at aV;rw[if_neg (by simp[et])];exact aV
    .rw [decide_eq_true et,B6]at aV;rw[if_pos (by simp[et])];exact(c,n,ds,i,j,cU,dr,rfl,za,aL,wY,hd2,kg,_,rfl,aV)
   .rw[jt]at cu;have dP:nw n z sp cU dr=(n9 (hr cU dr) (lx z sp cU.name) (lx z sp dr.name)).map (·.2):=by
     unfold nw;rw[if_pos (of_decide_eq_true cu.1,cu.2)]
    rw[dP]at gT;have ll:rs[i]?\rs[i]:=bJ ();have lK:rs[j]?\rs[j]:=bJ ();have g1:gq bq qe (.str cU.name) (some (⇑rs[i])):=by rw[<- Nx hQ wY ll];exact gq.k (k:=b5 cU.name) (yr _ _ WD)
    have g2:gq bq qe (.str dr.name) (some (⇑rs[j])):=by rw[<- Nx hQ hd2 lK];exact gq.k (k:=b5 dr.name) (yr _ _ WD)
    nofun;refine(_,g1,_,g2,c,n,ds,cU,dr,_,_,_,_,rfl,za,bB,cC wY,cC hd2,yr _ _ (vC i _ _ ll wY),yr _ _ (vC j _ _ lK hd2),by rw[G3,G3],by rw[G3];exact ax.2,?_);cases ah:n9 (hr cU dr) (lx z sp cU.name) (lx z sp dr.name)with
    |none=>
     rw[ah]at gT;exact λcc s4 ez=>((by first|exact(_,_,rfl)|exact(_,rfl)|simp),hV.trans s4,ez kg,s4 _ _ W8,gT)
    |some e=>
     rw[ah]at gT;have gT:v3 n z sp cU ds\(p'p cU (p'p dr e.2)):=gT;rw[gT]at f';have f':nF n z sp ds\(p'p cU (p'p dr e.2)):=f';rw[f']at q;exact q.step (j1.trans yr) λ_=>kg
   .have dP:nw n z sp cU dr=none:=by
     unfold nw;rw[if_neg];intro(dS,dF);rw[decide_eq_true dS,dF]at cu;cases cu
    rw[dP]at gT;exact((_,_,rfl),hV,kg,W8,gT)
  .rintro σ I a3;ac_rfl
   let((y,jv,rfl),hV,kg,_,gT):=a3;subst ba;rw[hH,BX (b0 _)]at gT;have gT:v3 n z sp cU ds=none:=gT;rw[gT]at f';exact((_,_,_,rfl),gC.trans hV,kg,hV _ _ akE,f')
 .rintro σ I a3;ac_rfl
  let(_,a7,a8,_,f'):=a3;subst ba;rw[hH,BX (b0 _)]at f';have f':nF n z sp ds=none:=f';rw[f']at q;exact q _ (j1.trans a7) a8
noncomputable abbrev z7:List Str:=[aa "crossing",aa "size",aa "spans",aa "lamps",aa "untils"]
noncomputable def nf(c:Addr)(z:Int)(p lm un:Addr):List (Str×V):=[(p'p (aa "crossing") (⇑c)),(p'p (aa "size") (.int z)),(p'p (aa "spans") (⇑p)),(p'p (aa "lamps") (⇑lm)),(p'p (aa "untils") (⇑un))]
def Bo(c:Addr)(z:Int)(p lm un:Addr):(nf c z p lm un).map (·.1)=z7:=rfl
noncomputable def oh(z:Nat)(sp:List bj)(d:aQ):List Str:=hR z (c1 d).toNat (c5 d).toNat (cA d.name sp)
noncomputable def ft(z:Nat)(sp:List bj)(x:Str):List Int:=ny (er z (cA x sp))
structure h_(t:bA)(H:ar)(a c:Addr)(n:Int)(ds:List aQ)(z:Nat)(sp:List bj):Prop where
 at_:∃ak p lm un,H a\(.ins t.g_ ak (nf c z p lm un))/\fO t H c n ds/\ho H p (gR hM sp)/\pB H lm ds (λd=>.lst (bz (oh z sp d))) ↑ds/\pB H un ds (λd=>.lst ((ft z sp d.name).map V.int)) ↑ds
def PH(t:bA):bH:=λvs H Q _=>∃(a ak c:Addr) (n:Int) (ds:List aQ) (z:Nat) (p:Addr) (sp:List bj),vs=[⇑a,⇑c,.int z,⇑p]/\H a\(.ins t.g_ ak [])/\fO t H c n ds/\qr ds/\(0<z/\z<=1000)/\ho H p (gR hM sp)/\tY z sp/\aG H /\
 ∀I,cW a H I->aG I->h_ t I a c n ds z sp->Q .b4 I
def xU(t:bA)(c:Addr)(n:Int)(ds:List aQ)(z:Nat)(sp:List bj)(H:ar)(Q:cz)(E:dG):Prop:=
 (k3 ds sp=none->mM ds z sp=none->nF n z sp ds=none->∀a I,aC H I->aG I->h_ t I a c n ds z sp->Q ⇑a I) /\
 (∀x,k3 ds sp\x->nP t.ad [(p'p (aa "way") (.str x))] H E) /\
 (∀e,k3 ds sp=none->mM ds z sp\e->nP t.eW [(p'p (aa "way") (.str e.1.name)),(p'p (aa "at") (.int e.1.b))] H E) /\
 (∀e,k3 ds sp=none->mM ds z sp=none->nF n z sp ds\e->nP t.eI [(p'p (aa "way") (.str e.1.name)),(p'p (aa "other") (.str e.2.1.name)),(p'p (aa "at") (.int e.2.2))] H E)
theorem xU.step{t:bA}{n:Int}{sp:List bj}(h:xU t c n ds z sp H Q E)(s:aC H H1)(a8:aG H1):xU t c n ds z sp H1 Q E:=
 (λaf aj a_ a I s' fK p=>h.1 af aj a_ a I (s.trans s') fK p,λx ai=>(h.2.1 x ai).step s λ_=>a8,λe af aj=>(h.2.2.1 e af aj).step s λ_=>a8,λe af aj a_=>(h.2.2.2 e af aj a_).step s λ_=>a8)
def Yb(t:bA):bH:=λvs H Q E=>∃(c:Addr) (n:Int) (ds:List aQ) (z:Nat) (p:Addr) (sp:List bj),vs=[⇑c,.int z,⇑p]/\fO t H c n ds/\0<n/\qr ds/\(0<z/\z<=1000)/\ho H p (gR hM sp)/\tY z sp/\(∀s∈sp,∃d,lZ ds s.name\d)/\aG H /\
 xU t c n ds z sp H Q E
section
variable{w:World}{K:a'}{av:Str->Option Value}{t:bA}{H:ar}{a c ak p lm un:Addr}{z:Int}
def W4(T:Txt w K av t)(e:H a\(.ins t.g_ ak (nf c z p lm un))):ix K H a (aa "lamps") ⇑lm:=(_,ak,_,e,T.qg,T.VM,kI z7 3 (Bo ..) ∅ rfl)
def DJ(T:Txt w K av t)(e:H a\(.ins t.g_ ak (nf c z p lm un))):ix K H a (aa "untils") ⇑un:=(_,ak,_,e,T.qg,T.W7,kI z7 4 (Bo ..) ∅ rfl)
end
def UY{H:ar}{a b C hO ak fc:Addr}{aR:List (Str×V)}(aJ:H a\(.ins C ak []))(ae:H b\(.ins hO fc aR))(hf:aR≠[]):b≠a:=λz=>by
 subst z;rw[ae]at aJ;have e:=d6 aJ;injection e with _ _ b7;exact hf b7
def fO.j0{t:bA}{H I:ar}{a c C ak:Addr}{n:Int}{ds:List aQ}(h:fO t H c n ds)(s:cW a H I)(aJ:H a\(.ins C ak [])):fO t I c n ds:=by
 let(h0,fc,wl,aD,az,(as,c_,d0,al),b7):=h;refine(h0,fc,wl,aD,s _ _ (UY aJ az (by unfold n0;simp)) az,(as,s _ _ (d_ c_ aJ (by intro z;cases z)) c_,d0,λi b d ae hd=>?_),s _ _ (d_ b7 aJ (by intro z;cases z)) b7);let(k,ae8,dc):=al i b d ae hd;exact(k,ae8,s _ _ (UY aJ dc (by unfold ml;simp)) dc)
def ho.j0{a p C ak:Addr}{sp:List bj}(h:ho H p (gR hM sp))(s:cW a H I)(aJ:H a\(.ins C ak [])):ho I p (gR hM sp):=by
 let(qs,cw,dH):=h;refine(qs,s _ _ (d_ cw aJ (by intro z;cases z)) cw,dH.1,λi q o aF aW=>?_);have e:=dH.2 i q o aF aW;refine s _ _ (d_ e aJ ?_) e;let(d,_,rfl):=cF aW;intro z;cases z
def ane:cj P base T 4 t.An t.CB CE (PH t):=by
 refine cn (ajY T) λaiZ=>cn (Za T) λI_=>cn (WE T) λNG=>cn (zN T) λnW=>cn (ro T) λjx=>?_;exists T.Se.ok P9,9
 let(a,ak,c,n,ds,z,p,sp,rfl,aJ,C,bB,ax,L,aB,w4,q):=h;have bx:=iU au;refine(_,(aN (h1 (U 0) (U 1) rfl)
   (aN (h1 (U 0) (U 2) rfl)
   (aN (h1 (U 0) (U 3) rfl)
   (aN (h1 (U 0) ql rfl)
   (aN (h1 (U 0) ql rfl)
   (aY (eF fJ rfl (e5 (iL (U 1) T.g5 T.sT nW au T.sI .nil cJ)) (b6 (i:=4) P9.aD) (aN (rA bx (dJ (U 0) rfl) (U 4) (bT aiZ au T.aev T.MT.bt T.agV (ag (e0 (U 1) T.g5 T.oA jx au T.oq .nil cJ (ag (U 4) aA)) (ag (U 2) (ag (U 3) aA)))) rfl)
   (aY (rA bx (dJ (U 0) rfl) (U 4) (bT I_ au T.U2 T.EL.bt T.Vi (ag (bT NG au T.Pn T.BL.bt T.Pf (ag (U 2) (ag (U 3) (ag (U 4) aA)))) aA)) rfl)))))))))),?_)
 nofun;refine(_,_,_,aJ,T.qg,T.Uv,∅,?_);refine(_,_,_,aP,T.qg,T.WH,fD (n:=999) ∅,?_);refine(_,_,_,aP,T.qg,T.akg,fD (n:=999) (fD (n:=998) ∅),λlm tF=>?_);simp only[pY]at tF⊢;rw[show dz (aa "crossing") (V.ref c) ([]:List (Str×V))=[(p'p (aa "crossing") (V.ref c))]from rfl,show dz (aa "size") (V.int z) [(p'p (aa "crossing") (V.ref c))]=[(p'p (aa "crossing") (V.ref c)),(p'p (aa "size") (V.int z))]from hl [aa "crossing"] rfl ∅,show dz (aa "spans") (V.ref p) [(p'p (aa "crossing") (V.ref c)),(p'p (aa "size") (V.int z))]=[(p'p (aa "crossing") (V.ref c)),(p'p (aa "size") (V.int z)),(p'p (aa "spans") (V.ref p))]from hl [aa "crossing",aa "size"] rfl ∅]at tF⊢;have vn:a≠lm:=λz=>by subst z;rw[aP]at tF;cases tF
 have Oy:H lm=none:=by rw[aO (dB vn)]at tF;exact tF
 refine(t.g_,ak,[(p'p (aa "crossing") (V.ref c)),(p'p (aa "size") (V.int z)),(p'p (aa "spans") (V.ref p))],by rw[aO vn];exact aP,T.qg,T.VM,(∅:(3:Nat)<1000),λun qk=>?_);rw[show dz (aa "lamps") (V.ref lm) [(p'p (aa "crossing") (V.ref c)),(p'p (aa "size") (V.int z)),(p'p (aa "spans") (V.ref p))]=[(p'p (aa "crossing") (V.ref c)),(p'p (aa "size") (V.int z)),(p'p (aa "spans") (V.ref p)),(p'p (aa "lamps") (V.ref lm))]from hl [aa "crossing",aa "size",aa "spans"] rfl ∅]at qk⊢;have vV:a≠un:=λz=>by subst z;rw[aP]at qk;cases qk
 have wk:un≠lm:=λz=>by subst z;rw[aO (dB vV),aP]at qk;cases qk
 have QB:H un=none:=by rw[aO (dB vV),aO wk,aO (dB vV)]at qk;exact qk
 refine(t.g_,ak,[(p'p (aa "crossing") (V.ref c)),(p'p (aa "size") (V.int z)),(p'p (aa "spans") (V.ref p)),(p'p (aa "lamps") (V.ref lm))],by rw[aO vV];exact aP,T.qg,T.W7,(∅:(4:Nat)<1000),?_);rw[show dz (aa "untils") (V.ref un) [(p'p (aa "crossing") (V.ref c)),(p'p (aa "size") (V.int z)),(p'p (aa "spans") (V.ref p)),(p'p (aa "lamps") (V.ref lm))]=nf c z p lm un from hl [aa "crossing",aa "size",aa "spans",aa "lamps"] rfl ∅];have hf:∃cQ:ar,cQ=upd (upd (upd (upd (upd H a (.ins t.g_ ak [(p'p (aa "crossing") (V.ref c)),(p'p (aa "size") (V.int z)),(p'p (aa "spans") (V.ref p))])) lm (.bL [])) a (.ins t.g_ ak [(p'p (aa "crossing") (V.ref c)),(p'p (aa "size") (V.int z)),(p'p (aa "spans") (V.ref p)),(p'p (aa "lamps") (V.ref lm))])) un (.bL [])) a (.ins t.g_ ak (nf c z p lm un)):=(_,rfl);let(cQ,dn):=hf;rw[<- dn];have g1:cQ a\(.ins t.g_ ak (nf c z p lm un)):=by rw[dn,aP]
 have g2:cQ lm\(.bL []):=by rw[dn,aO (dB vn),aO (dB wk),aO (dB vn),aP]
 have g3:cQ un\(.bL []):=by rw[dn,aO (dB vV),aP]
 have th:cW a H cQ:=λb u ae e=>by rw[dn,aO ae,aO (cM e QB),aO ae,aO (cM e Oy),aO ae];exact e
 have AN:aG cQ:=by rw[dn];exact((((w4.upd).upd).upd).upd).upd
 clear dn;have rq:=C.j0 th aJ;let((hQ,hU),uj,wl,aD,az,_,_):=id rq;refine(_,_,az,jl _ _ _ ∅,c,n,ds,rfl,rq,λd8 hc=>(d8,rfl,(_,aH.of aP),?_));refine dW.list (xs:=bz (ds.map (·.name))) (λi σ I=>(∃y,σ=[some (V.ref a),some (V.ref c),some (V.int z),some (V.ref p),y])/\cW a H I/\aG I/\I a\(.ins t.g_ ak (nf c z p lm un))/\I d8\(.lst (bz (ds.map (·.name))))/\pB I lm ds (λd=>.lst (bz (oh z sp d))) i/\pB I un ds (λd=>.lst ((ft z sp d.name).map V.int)) i) ?_ ?_ ?_ ?_
 .have sn:=bp (o:=.lst (bz (ds.map (·.name)))) hc;exact((_,rfl),th.trans (cW.of sn),AN.upd,sn _ _ g1,aP,([],rfl,by rw[sn _ _ g2];simp[gU],λi r d h=>by simp at h),([],rfl,by rw[sn _ _ g3];simp[gU],λi r d h=>by simp at h))
 .rintro i σ I ao a3;ac_rfl
  let(_,_,_,_,h,_):=a3;subst ba;exact aH.of h
 .rintro i v σ I aM a3;ac_rfl
  let((y,rfl),ei,a8,rZ,iA,(dt,pf,Ge,vC),(ed,VV,HG,abf)):=a3;let(x,ai,rfl):=cF aM;let(d,hd,rfl):=cF ai;have hO:=C.j0 ei aJ;have Ma:=L.j0 ei aJ;let(_,asv,as4,atf,afW,_,_):=id hO;subst ba;nofun;refine(_,_,afW,jl _ _ _ ∅,c,n,ds,i,d,rfl,hO,hd,λkp W=>?_);have g0:ds[↑dt]?\d:=by rw[pf];exact hd
  have mG:ds[↑ed]?\d:=by rw[VV];exact hd
  refine(kp,d,z,p,sp,rfl,ax,W,Ma,aB,(bB d (cC hd)).2,λbX H1 s1 bY ll af=>(_,W4 T (s1 _ _ rZ),lm,rfl,_,mO.k (k:=b5 d.name) (s1 _ _ Ge) (i5 (show ↑(gU ds dt)<=12 by unfold gU;rw[a9,Mg];omega) ∅),?_));rw[L' hQ g0];have sy:∀{b:Addr} {u:eY},I b\u->b≠lm->upd H1 lm (.bL (gU ds (dt++[bX]))) b\u:=λe h=>by rw[aO h];exact s1 _ _ e
  have bU:cW a H (upd H1 lm (.bL (gU ds (dt++[bX])))):=λb u ae e=>sy (ei b u ae e) (cM e Oy)
  refine(z,p,d.name,sp,rfl,ax,L.j0 bU aJ,aB,λkc bq s3 dh Jo a_=>(kc,_,rfl,a_,by rw[oi];exact ax,λyJ cc s4 ez asL b'=>?_));have IS:=s3.trans s4;have XI:cc un\(.bL (gU ds ed)):=IS _ _ (sy HG wk);have a2:cc a\(.ins t.g_ ak (nf c z p lm un)):=IS _ _ (sy rZ vn);refine(_,DJ T a2,un,rfl,_,mO.k (k:=b5 d.name) XI (i5 (show ↑(gU ds ed)<=12 by unfold gU;rw[a9,Mg];omega) ∅),?_);rw[L' hQ mG];have sR:∀{b:Addr} {u:eY},upd H1 lm (.bL (gU ds (dt++[bX]))) b\u->b≠un->upd cc un (.bL (gU ds (ed++[yJ]))) b\u:=λe h=>by rw[aO h];exact IS _ _ e
  have JE:∀{b:Addr} {ys:List V},I b\(.lst ys)->b≠lm:=λe=>d_ e Ge (by intro z;cases z)
  have J4:∀{b:Addr} {ys:List V},I b\(.lst ys)->b≠un:=λe=>d_ e HG (by intro z;cases z)
  have ad6:bX≠lm:=d_ af (s1 _ _ Ge) (by intro z;cases z);have amH:bX≠un:=d_ af (s1 _ _ HG) (by intro z;cases z);have anr:yJ≠un:=d_ b' XI (by intro z;cases z);refine((_,rfl),λb u ae e=>sR (bU b u ae e) (cM e QB),(ez (dh (bY a8).upd)).upd,sR (sy rZ vn) vV,sR (sy iA (JE iA)) (J4 iA),(dt++[bX],by rw[c',pf];rfl,sR aP (dB wk),λj r e aZ he=>?_),(ed++[yJ],by rw[c',VV];rfl,aP,λj r e aZ he=>?_))
  .rcases h4 aZ with⟨_,dF⟩|⟨dS,rfl⟩
   .have:=vC j r e dF he;exact sR (sy this (JE this)) (J4 this)
   .rw [dS,g0]at he;cases he;exact sR (by rw[aO ad6];exact af) amH
  .rcases h4 aZ with⟨_,dF⟩|⟨dS,rfl⟩
   .have:=abf j r e dF he;exact sR (sy this (JE this)) (J4 this)
   .rw [dS,mG]at he;cases he;rw[aO anr];exact b'
 .rintro σ I a3;ac_rfl
  let(_,ei,a8,rZ,_,sm,Ei):=a3;have hH:↑(bz (ds.map (·.name)))=↑ds:=by unfold bz;simp
  subst ba;rw[hH]at sm Ei;exact q _ ei a8 (ak,p,lm,un,rZ,C.j0 ei aJ,L.j0 ei aJ,sm,Ei)
theorem aaB(T:Txt w K av t):bD P w K av base (fm P w) 6 t.Fc t.AJ Aq (Yb t):=by
 have jx:bD P w K av base cN 5 t.lc t.Ag kl (F3 t):=(ro T).mono ∅;have aof:bD P w K av base cN 4 t.An t.CB CE (PH t):=ane T;have aj_:bD P w K av base (fm P w) 5 t.Al t.BN BA (ON t):=(ad2 T).mono ∅;have ap8:bD P w K av base (fm P w) 5 t.wM t.DD si (Vl t):=(akM T).mono ∅;have afl:bD P w K av base (fm P w) 5 t.y2 t.AS si (SM t):=adj T;exists T.Wp.o7 ye,9
 let(c,n,ds,z,p,sp,rfl,C,aL,bB,ax,L,aB,hw,w4,bM,cP,eC,lD):=h;refine(_,(aN (zv (i:=3) ye.aD rfl (m2 rfl) rfl (e5 (U 2)) (hi (sc:=br (top 104)) rfl ∅) (N:=Az) (sel:=[none,none,none]) (ha (M:=["crossing","size","rows","spans","name","begin","turns"]) ∅) (fR.of (λ_ _ _ _=>(jm (K:=K) (n:=3) rfl rfl (eb (b6 (i:=0) (fk (N:=Az) ∅ rfl)) (eb (b6 (i:=1) (fk (N:=Az) ∅ rfl)) (eb (b6 (i:=2) (fk (N:=Az) ∅ rfl)) jd))))) (λ_ _ _ _=>(_,iB,by walk_at "B")) (λ_ _ _ _=>(_,(kr (ag (U 0) (ag (U 1) (ag (U 2) aA)))),by walk_at "B"))) rfl)
   (aN (eF (q6 (rfl,rfl)) rfl (e5 (U 3)) (jm (K:=K) (n:=3) rfl rfl (eb (b6 (i:=4) ye.aD) (eb (b6 (i:=5) ye.aD) (eb (b6 (i:=6) ye.aD) jd)))) (aY (eu (e0 (U 0) T.g5 T.oA jx au T.oq .nil cJ (ag (U 4) aA)))))
   (aN (eu (pM aj_ au rfl T.abT T.Ny.bt T.aqg .nil pD (ag (U 0) (ag (U 3) aA))))
   (aN (eu (pM ap8 au rfl T.aaf T.NU.bt T.aqQ .nil pD (ag (U 0) (ag (U 1) (ag (U 3) aA)))))
   (aN (eu (pM afl au rfl T.ahu T.Jl.bt T.amF .nil pD (ag (U 0) (ag (U 1) (ag (U 3) aA)))))
   (aY (bR (sX T.ah1 aof au rfl T.aht T.akJ .nil cJ (ag (U 0) (ag (U 1) (ag (U 3) aA))))))))))),?_)
 nofun;let(qs,cw,iJ):=L;have nV:↑qs=↑sp:=by rw[iJ.1,a9]
 have xJ:=aB.1;refine((_,aH.of cw),?_);refine dv.list (xs:=qs.map V.ref) (λi ys I=>∃os:List Addr,ys=os.map V.ref/\gM I os ((sp.take i).map hM)/\aC H I/\aG I) (cH (show ↑(qs.map V.ref)<=100 by rw[a9];omega) ∅) ([],rfl,by rw[Bv];exact gM.nil _,aC.refl _,w4) ?_ ?_ ?_
 .rintro i ys I ao a3;ac_rfl
  let(os,rfl,r,a7,_):=a3;subst ba;refine((aH.of cw).same a7,?_);rw[a9,r.1,a9,fw];omega
 .intro i v ys I aM (os,rfl,r,a7,a8) N bc;let(hG,fg,rfl):=cF aM;let(o,aW,e):=iJ.at fg;let(d,hd,rfl):=cF aW;have bZ:=a7 _ _ e;dsimp only at bc;rw[jn hd,ew]at bc;nofun;refine(_,b1.of bZ,rfl,_,_,rfl,_,_,rfl,_,_,rfl,rfl,Sub.YI,∅,λdD eB=>?_);exact bc _ _ (os++[dD],by rw[ew];rfl,(r.same (bp eB)).app (gM.one aP),a7.trans (bp eB),a8.upd)
 intro ys H1 (os,rfl,r,j1,fs) dD eB;rw[l4 (by rw[a9];omega)]at r;have s2:aC H1 (upd H1 dD (.lst (os.map V.ref))):=bp eB;have f_:aG (upd H1 dD (.lst (os.map V.ref))):=fs.upd;have L2:ho (upd H1 dD (.lst (os.map V.ref))) dD (gR hM sp):=(os,aP,r.same s2);have gC:=j1.trans s2;generalize upd H1 dD (.lst (os.map V.ref))=ay at s2 f_ L2 gC⊢;have tJ:=C.same gC;let(_,uj,wl,aD,az,_,_):=id tJ;let(zY,fa,SX):=id L2;have arL:↑zY=↑sp:=by rw[SX.1,a9]
 nofun;refine((_,aH.of fa),?_);refine dW.list (xs:=zY.map V.ref) (λi σ I=>(∃x y z',σ=[some (V.ref c),some (V.int z),some (V.ref p),some (V.ref dD),x,y,z'])/\I=ay) ?_ ?_ ?_ ?_
 .exact ((_,_,_,rfl),rfl)
 .intro i σ I ao (_,rfl);exact aH.of fa
 .rintro i v σ I aM a3;ac_rfl
  let((x,y,z',rfl),rfl):=a3;let(hG,fg,rfl):=cF aM;let(o,aW,e):=SX.at fg;let(dq,iv,rfl):=cF aW;let(d,hd):=hw dq (cC iv);let(rJ,j,aZ):=Pm hd;subst ba;nofun;exact(_,b1.of e,rfl,_,_,rfl,_,_,rfl,_,_,rfl,rfl,_,_,az,jl _ _ _ ∅,c,n,ds,j,d,by rw[rJ],tJ,aZ,λa W=>((by first|exact(_,_,_,rfl)|exact(_,_,rfl)|exact(_,rfl)|simp),rfl))
 rintro σ I a3;ac_rfl
 let((x,y,z',rfl),rfl):=a3;subst ba;nofun;refine(c,n,ds,dD,sp,rfl,tJ,bB,L2,xJ,?_);cases bc:k3 ds sp with
 |some x=>exact(cP x bc).step gC λ_=>f_
 |none=>
 intro bq s3 dh;have kg:=dh f_;have za:=tJ.same s3;have lQ:=L2.same s3;nofun;refine(c,n,ds,z,dD,sp,rfl,za,bB,((),()),lQ,aB,hw,?_);cases e6:mM ds z sp with
 |some e=>exact(eC e bc e6).step (gC.trans s3) λ_=>kg
 |none=>
 intro cc s4 ez;have yG:=ez kg;have Q':=za.same s4;have sa:=lQ.same s4;nofun;refine(c,n,ds,z,dD,sp,rfl,Q',aL,bB,ax,sa,aB,yG,?_);cases cq:nF n z sp ds with
 |some e=>exact(lD e bc e6 cq).step ((gC.trans s3).trans s4) λ_=>yG
 |none=>
 intro cQ s5 u1;have rq:=Q'.same s5;have Gf:=sa.same s5;nofun;intro a ak aJ nh b8;have sc:aC cQ (upd (upd cQ ak (.own a)) a (.ins t.g_ ak [])):=((aC.refl cQ).gm nh).gm aJ;refine(a,ak,c,n,ds,z,dD,sp,rfl,aP,rq.same sc,bB,ax,Gf.same sc,aB,(u1.upd).upd,λeQ jr HD da=>(rfl,?_));have P2:=((gC.trans s3).trans s4).trans s5;exact bM bc e6 cq a eQ (lf (P2.trans sc) jr (P2.free aJ)) HD da
noncomputable abbrev S(x:String):Str:=aa x
noncomputable def o4(s:bj):List Str:=[S "free",s.name,num s.b,num s.n]
noncomputable def ie(z:Int)(sp:List bj):List (List Str):=[S "round",num z]::sp.map o4
noncomputable def hy(z:Int)(sp:List bj):Str:=dk nl ((ie z sp).map (dk b3))
noncomputable def o3(ds:List aQ)(sp:List bj):List Str:=(ds.map (·.name)).filter λx=>decide (↑(cA x sp)<3)
def A2(z:Int)(d:bj):Prop:=0<=d.b/\d.b<z/\1<=d.n/\d.n<=z
structure qa(z:Int)(ds:List aQ)(sp:List bj):Prop where
 ln:↑sp<=40
 nm:∀s∈sp,made s.name gB 8=true
 DB:∀(i:Nat) (d:bj),sp[i]?\d->d.name∈o3 ds (sp.take i)
 dq:∀s∈sp,A2 z s
def Xe(t:bA):bH:=λvs H Q _=>∃q row z,vs=[⇑q]/\cx t H q row [S "round",num z] 0/\(1<=z/\z<=240)/\aG H/\PM q H (Q (.int z))
def SU(t:bA):bH:=λvs H Q _=>∃q row c n ds z p sp d,vs=[⇑q,⇑c,.int z,⇑p]/\cx t H q row (o4 d) 0/\fO t H c n ds/\(1<=z/\z<=240)/\ho H p (gR hM sp)/\↑sp<=100/\aG H/\d.name∈o3 ds sp/\A2 z d /\
 ∀x I,cW q H I->aG I->I x\(hM d)->H x=none->Q ⇑x I
def aag(t:bA):bH:=λvs H Q E=>∃(c:Addr) (n:Int) (ds:List aQ) (z:Nat) (sp:List bj),vs=[⇑c,.str (hy z sp)]/\fO t H c n ds/\0<n/\qr ds/\(1<=z/\z<=240)/\qa z ds sp/\aG H/\xU t c n ds z sp H Q E
def qa.ok{sp:List bj}(h:qa z ds sp)(ax:z<=240):tY z sp:=(cH h.ln ∅,λd hd=>by have:=h.dq d hd;unfold A2 at this;omega)
theorem qa.lZ{sp:List bj}(h:qa z ds sp):∀s∈sp,∃d,lZ ds s.name\d:=λs aB=>by
 let(i,ao):=pJ aB;let(d,hd,e):=dg.mp (lu.mp (h.DB i s ao)).1;unfold My.lZ;cases hf:ds.find? λd=>decide (d.name=s.name)with
 |some d'=>exact(d',rfl)
 |none=>exact absurd (zC.mp hf d hd) (by simp[e])
def aaz{z:Nat}{ds:List aQ}{sp:List bj}(ax:z<=240)(h:qa z ds sp):(iI (hy z sp)=ie z sp)/\↑(hy z sp)<=20000/\∀r∈ie z sp,r≠[]/\↑r<=1000/\∀y∈r,↑y<=1000:=by
 have pl:∀r∈ie z sp,(r≠[]/\↑r<=4)/\∀x∈r,n7 x:=λr au=>by
  rcases cT.mp au with rfl|au
  .refine⟨⟨by simp,by simp⟩,fun x ai=>?_⟩;simp only[cT,fq,or_false]at ai;rcases ai with rfl|rfl
   .exact (∅,∅,∅)
   .exact gP () ()
  .obtain⟨s,aB,rfl⟩:=dg.mp au;have g:=h.dq s aB;unfold A2 at g;refine⟨⟨by simp[o4],by simp[o4]⟩,fun x ai=>?_⟩;simp only[o4,cT,fq,or_false]at ai;rcases ai with rfl|rfl|rfl|rfl
   .exact (∅,∅,∅)
   .exact vu (h.nm s aB)
   .exact gP () ()
   .exact gP () ()
 refine(OS (by simp[ie]) (λr au=>(pl r au).1.1) λr au=>(pl r au).2,?_,λr au=>((pl r au).1.1,cH (pl r au).1.2 ∅,λy bg=>cH ((pl r au).2 y bg).1 ∅));have af:∀y∈(ie z sp).map (dk b3),↑y<=36:=λy bg=>by
  let(r,au,rfl):=dg.mp bg;have:=mf b3 8 r λx ai=>((pl r au).2 x ai).1
  rw[jw]at this;have:=(pl r au).1.2;omega
 have aj:=mf nl 36 _ af;rw[lC]at aj;have a_:↑((ie z sp).map (dk b3))<=41:=by
  have:=h.ln;simp[ie];omega
 unfold hy;omega
def fO.Mw{t:bA}{n:Int}{k:Nat}(h:fO t H c n ds)(s:cW q H I)(R:cx t H q row ws k):fO t I c n ds:=by
 let(h0,fc,wl,aD,az,(as,c_,d0,al),b7):=h;let(_,EG,a4,f1,f2):=id R;refine(h0,fc,wl,aD,s _ _ (λz=>?_) az,(as,s _ _ (d_ c_ f1 (by intro z;cases z)) c_,d0,λi b d ae hd=>?_),s _ _ (d_ b7 f1 (by intro z;cases z)) b7)
 .subst z;rw[az]at f1;have e:=d6 f1;injection e with _ _ gY;unfold n0 kU at gY;injection gY with j9 _;injection j9 with hX _;exact absurd hX ∅
 .have W:=al i b d ae hd;have aL:=wE W R;exact(W.1,W.2.imp λak e=>s _ _ aL e)
def ho.Mw{t:bA}{q p:Addr}{sp:List bj}{k:Nat}(h:ho H p (gR hM sp))(s:cW q H I)(R:cx t H q row ws k):ho I p (gR hM sp):=by
 let(_,EG,a4,f1,f2):=id R;let(qs,cw,dH):=h;refine(qs,s _ _ (d_ cw f1 (by intro z;cases z)) cw,dH.1,λi q o aF aW=>?_);have e:=dH.2 i q o aF aW;refine s _ _ (d_ e f1 ?_) e;let(d,_,rfl):=cF aW;intro z;cases z
def afL:cj P base T 5 t.Ec t.Em ["reader"] (Xe t):=by
 refine cn (ms T) λoH=>cn (uJ T) λkm=>cn (yb T) λp0=>?_;exists T.LH.ok Q1,9
 let(q,row,z,rfl,R,ax,a8,kH):=h;refine(_,(aN (eu (e0 (U 0) T.ey T.vG oH au T.vB .nil cJ (ag (fE (ag Db aA)) aA)))
   (aN (bO (i:=1) Q1.aD (e0 (U 0) T.ey T.pE km au T.oM .nil cJ (ag aS (ag (gN rfl T.apg T.aqN) aA))))
   (aN (eu (iL (U 0) T.ey T.xk p0 au T.yk .nil cJ))
   (aY (bR (U 1)))))),?_)
 let(_,ak,a4,az,aE):=id R;nofun;refine(_,_,az,cx.no _ _ _ ∅,∅,λp aq=>?_);have s0:aC H (upd H p (.lst [V.str (aa "round")])):=bp aq;refine(q,row,_,0,_,p,[aa "round"],rfl,R.same s0,rfl,aH.of aP,by simp,λH1 s1 bY kN=>?_);let(_,Ji,TO,f1,f2):=id kN;nofun;refine(_,_,f1,cx.no _ _ _ ∅,(q,row,_,1,_,1,240,z,rfl,kN,rfl,n_ () () () (),bY a8.upd,λay s2 cg e9=>?_));let(_,Yw,RL,g1,g2):=id e9;nofun;refine(_,_,g1,cx.no _ _ _ ∅,(q,row,_,2,rfl,e9,rfl,?_));exact kH ay (((cW.of s0).trans s1).trans s2) (cg (bY a8.upd))
theorem adY:cj P base T 5 t.C0 t.Bh EX (SU t):=by
 refine cn (ms T) λoH=>cn (uJ T) λkm=>cn (yb T) λp0=>cn (z6 T) λpO=>cn (zN T) λnW=>?_;exists T.NQ.ok AY,9
 let(q,row,c,n,ds,z,p,sp,d,rfl,R,C,ax,L,hH,a8,aI,(nY,jY,Nk,bY),kH):=h;refine(_,(aN (eu (e0 (U 0) T.ey T.vG oH au T.vB .nil cJ (ag (fE (ag Db aA)) aA)))
   (aN (bO (i:=4) AY.aD (e0 (U 0) T.ey T.vG oH au T.vB .nil cJ (ag (iz rfl (e5 (iL (U 1) T.g5 T.sT nW au T.sI .nil cJ)) (hi (sc:=br (top 94)) rfl ∅) (N:=["known","spans"]) (sel:=[none,some 3]) (ha (M:=["reader","crossing","size","spans","name","begin","turns"]) ∅) (fR.of (λ_ _ _ _=>(b6 (i:=0) (fk (N:=["known","spans"]) ∅ rfl))) (λ_ _ _ _=>(_,(x' (cS qv (f7 iM rfl T.hY hT (ag (bT pO au T.zo T.tK.bt T.xH (ag (U 1) (ag (U 0) aA))) aA)) (gN rfl T.aaJ T.amY) (ct _))),by walk_at "B")) (λ_ _ _ _=>(_,(U 0),by walk_at "B")))) aA)))
   (aN (bO (i:=5) AY.aD (e0 (U 0) T.ey T.pE km au T.oM .nil cJ (ag aS (ag (bk ih (U 2) aS) aA))))
   (aN (bO (i:=6) AY.aD (e0 (U 0) T.ey T.pE km au T.oM .nil cJ (ag aS (ag (U 2) aA))))
   (aN (eu (iL (U 0) T.ey T.xk p0 au T.yk .nil cJ))
   (aY (bR (kr (ag (U 4) (ag (U 5) (ag (U 6) aA))))))))))),?_)
 let(_,ak,a4,az,aE):=id R;nofun;refine(_,_,az,cx.no _ _ _ ∅,∅,λe3 j4=>?_);have s0:aC H (upd H e3 (.lst [V.str (aa "free")])):=bp j4;refine(q,row,_,0,_,e3,[aa "free"],rfl,R.same s0,rfl,aH.of aP,by simp,λH1 s1 ahj kN=>?_);let(_,Ji,TO,f1,f2):=id kN;have fs:=ahj a8.upd;have fN:cW q H H1:=(cW.of s0).trans s1;have wL:=C.Mw fN R;have jz:=L.Mw fN R;let((_,hU),uj,wl,aD,g1,_,_):=id wL;nofun;refine(_,_,f1,cx.no _ _ _ ∅,_,_,g1,jl _ _ _ ∅,c,n,ds,rfl,wL,λd8 hc=>(d8,rfl,(_,aH.of aP),?_));have sn:aC H1 (upd H1 d8 (.lst (bz (ds.map (·.name))))):=bp hc;have P7:↑(bz (ds.map (·.name)))=↑ds:=by unfold bz;simp
 refine dv.list (xs:=bz (ds.map (·.name))) (λi ys I=>ys=bz (((ds.map (·.name)).take i).filter λx=>decide (↑(cA x sp)<3))/\aC (upd H1 d8 (.lst (bz (ds.map (·.name))))) I/\aG I) (cH (show _<=12 by rw[P7];omega) ∅) (by rw[Bv];rfl,aC.refl _,fs.upd) ?_ ?_ ?_
 .intro i ys I ao (rfl,a7,_);refine(aH.of (a7 _ _ aP),?_);unfold bz;rw[a9];exact cH (Q8 ..) (by rw[fw];omega)
 .rintro i v ys I aM ⟨rfl,a7,ef⟩ N bc;obtain⟨x,ai,rfl⟩:=cF aM;dsimp only at bc;rw[jn ai,YZ]at bc;nofun;refine⟨Sub.name,p,x,sp,rfl,(jz.same sn).same a7,hH,fun r ay s2 cg ⟨qs,fa,e'⟩=>⟨r,rfl,_,.inl (aH.of fa),?_⟩⟩;have Hp:↑qs=↑(cA x sp):=by rw[e'.1,a9]
  rw[a9,Hp];by_cases et:↑(cA x sp)<3
  .rw [if_pos (decide_eq_true ())];refine bc _ _ (?_,a7.trans s2,cg ef);rw[PV (by simpa using et)];unfold bz;rw[ew];rfl
  .rw [if_neg (by rw[decide_eq_true_eq];omega)];refine bc _ _ (?_,a7.trans s2,cg ef);rw[Wh (by simpa using et),List.filter_nil,ow]
 intro ys ay (rfl,gC,f_) uh akT;rw[P7,l4 (by rw[a9];exact b0 _)];rw[show(ds.map (·.name)).filter (λx=>decide (↑(cA x sp)<3))=o3 ds sp from rfl];have I':aC H1 (upd ay uh (.lst (bz (o3 ds sp)))):=(sn.trans gC).trans (bp akT);have Pu:aG (upd ay uh (.lst (bz (o3 ds sp)))):=f_.upd;have Jz:upd ay uh (.lst (bz (o3 ds sp))) uh\(.lst (bz (o3 ds sp))):=aP;generalize upd ay uh (.lst (bz (o3 ds sp)))=bq at I' Pu Jz⊢;nofun;refine(q,row,_,1,_,uh,o3 ds sp,rfl,kN.same I',rfl,aH.of Jz,aI,λcc s4 ez jN=>?_);have yG:=ez Pu;have gA:cW q H cc:=(fN.trans (cW.of I')).trans s4;let(_,agK,aac,uk,yA):=id jN;nofun;refine(_,_,uk,cx.no _ _ _ ∅,(q,row,_,2,_,0,z-1,d.b,rfl,jN,rfl,n_ nY () nY (),yG,λcQ s5 jk p8=>?_));have u1:=jk yG;have ej:cW q H cQ:=gA.trans s5;let(_,RC,Rc,DK,EJ):=id p8;nofun;refine(_,_,DK,cx.no _ _ _ ∅,(q,row,_,3,_,1,z,d.n,rfl,p8,rfl,n_ () () Nk bY,u1,λeQ jr rM yK=>?_));have HD:=rM u1;have dU:cW q H eQ:=ej.trans jr;let(_,abX,aaL,bU,bo):=id yK;nofun;refine(_,_,bU,cx.no _ _ _ ∅,(q,row,_,4,rfl,yK,rfl,∅,λx ai=>?_));have aav:H x=none:=by
  cases e:H x with
  |none=>rfl
  |some u=>
   by_cases xN:x=q
   .subst xN;rw[bU]at ai;cases ai
   .rw [dU _ _ xN e]at ai;cases ai
 exact kH x _ (dU.trans (cW.of (bp ai))) HD.upd aP aav
theorem acX(T:Txt w K av t):bD P w K av base (fm P w) 8 t.z9 t.yQ zt (aag t):=by
 have Gk:bD P w K av base cN 7 t.y5 t.yV ["text"] (HS t):=(Oq T).mono ∅;have amb:bD P w K av base cN 7 t.Ec t.Em ["reader"] (Xe t):=(afL T).mono ∅;have ab1:bD P w K av base cN 7 t.C0 t.Bh EX (SU t):=(adY T).mono ∅;have abN:bD P w K av base (fm P w) 7 t.Fc t.AJ Aq (Yb t):=(aaB T).mono ∅;exists T.Ku.o7 xP,9
 let(c,n,ds,z,sp,rfl,C,aL,bB,ax,vf,a8,kH):=h;refine(_,(aN (bO (i:=2) xP.aD (bT Gk au T.R5 T.BO.bt T.TK (ag (U 1) aA)))
   (aN (bO (i:=3) xP.aD (bT amb au T.ah3 T.LH.bt T.akh (ag (bP dA (U 2) aS) aA)))
   (aN (bO (i:=4) xP.aD (fE aA))
   (aN (eF (q6 (rfl,rfl)) rfl (e5 (tE H6 (U 2) (tC aS) s6)) (b6 (i:=5) xP.aD) (aY (eu (gL mw qK rl qJ (U 4) (ag (bT ab1 au T.UF T.NQ.bt T.afh (ag (U 5) (ag (U 0) (ag (U 3) (ag (U 4) aA))))) aA)))))
   (aY (bR (pM abN au rfl T.acn T.Wp.bt T.aoZ .nil pD (ag (U 0) (ag (U 3) (ag (U 4) aA)))))))))),?_)
 let(lV,ta,l6):=aaz ax.2 vf;generalize hy z sp=x at lV ta⊢;nofun;refine(x,rfl,ta,?_,a8,λp H1 j1 fs R=>?_)
 .rw [lV];exact λr au=>(l6 r au).2
 rw[lV]at R;let(qs,aq,j4,nV,yF):=R;let(iw,hW,rfl):∃iw hW,qs=iw::hW:=by
  cases qs with
  |nil=>simp[ie]at nV
  |cons a b=>exact(a,b,rfl)
 have JD:↑hW=↑sp:=by simpa[ie]using nV
 have F9:=vf.ln;let(qS,KJ):=yF 0 iw _ rfl rfl;nofun;refine(_,aH.of aq,_,cO (j:=0) rfl,(iw,_,z,rfl,qS,(),fs,λay s2 f_=>?_));nofun;refine(gx _,λwl jQ=>?_);let(ao6,aij,apz,Jw):=qS.ins;have KY:p≠iw:=d_ aq Jw (by intro z;cases z);have dy:ay p\(.lst ((iw::hW).map V.ref)):=s2 _ _ KY aq;have sE:aC ay (upd ay wl (.lst [])):=bp jQ;have yY:k_ ((iw::hW).map V.ref) (some 1) none=hW.map V.ref:=by
  unfold k_;simp[fx.c3];exact l4 (by rw[a9];exact b0 _)
 refine(_,aH.of (sE _ _ dy),λpc tH=>?_);rw[yY];have yw:pc≠wl:=λz=>by subst z;rw[aP]at tH;cases tH
 have tL:aC (upd ay wl (.lst [])) (upd (upd ay wl (.lst [])) pc (.lst (hW.map V.ref))):=bp tH;refine((_,aH.of aP),?_);have zy:aC H ay:=lf j1 s2 KJ;refine dW.list (xs:=hW.map V.ref) (λi σ I=>(∃y,σ=[some (V.ref c),some (V.str x),some (V.ref p),some (V.int z),some (V.ref wl),y])/\aG I/\aC H I/\I pc\(.lst (hW.map V.ref))/\H wl=none /\
  ho I wl (gR hM (sp.take i)) /\
  ∀(j:Nat) (q:Addr) (s:bj),i<=j->hW[j]?\q->sp[j]?\s->cx t I q ((j+1:Nat):Int) (o4 s) 0/\H q=none) ?_ ?_ ?_ ?_
 .refine ((_,rfl),(f_.upd).upd,(zy.trans sE).trans tL,aP,zy.free jQ,([],tL _ _ aP,gM.nil _),λj q s _ af aj=>?_);let(mT,l5):=yF (j+1) q (o4 s) (by rw[wF];exact af) (by unfold ie;rw[wF,d7,aj];rfl);exact(((mT.j0 s2 (EC mT qS ()) qS.ins).same sE).same tL,l5)
 .rintro i σ I ao a3;ac_rfl
  let(_,_,_,h,_):=a3;subst ba;exact aH.of h
 .rintro i v σ I aM a3;ac_rfl
  let((y,rfl),ef,ot,tc,te,L,Rs):=a3;let(q,aF,rfl):=cF aM;let(ao,_):=cv.mp aF;have hp:i<↑sp:=()
  have iv:sp[i]?\sp[i]:=bJ hp;let(pz,wx):=Rs i q _ (b0 _) aF iv;let(os,c_,d0):=id L;let(_,EG,ar4,fg,ar5):=id pz;have ate:↑os=i:=by rw[d0.1,a9,fw];omega
  subst ba;nofun;refine(.inl (_,aH.of c_),?_);refine(q,_,c,n,ds,z,wl,sp.take i,sp[i],rfl,pz,C.same ot,(),L,by rw[fw];omega,ef,vf.DB i _ iv,vf.dq _ (cC iv),λr5 bq s3 kg g6 x6=>?_);have Kf:wl≠q:=d_ c_ fg (by intro z;cases z);have nJ:bq wl\(.lst (os.map V.ref)):=s3 _ _ Kf c_;have Nt:aC H bq:=lf ot s3 wx;refine(_,nJ,i5 (show ↑(os.map V.ref)<=100 by rw[a9];omega) ∅,?_);have IT:r5≠wl:=λz=>by
   subst z;rw[c_]at x6;cases x6
  refine((_,rfl),kg.upd,λb u e=>?_,?_,te,(os++[r5],by rw[aP,ew];rfl,?_),λj du s aZ af aj=>?_)
  .rw [aO (cM e te)];exact Nt _ _ e
  .rw [aO yw];exact s3 _ _ (d_ tc fg (by intro z;cases z)) tc
  .rw [jn iv,ew];refine gM.app (d0.1,λj b o ae aW=>?_) (gM.one (by rw[aO IT];exact g6));have e:=d0.2 j b o ae aW;let(s,_,rfl):=cF aW;rw[aO (d_ e c_ (by intro z;cases z))];exact s3 _ _ (d_ e fg (by intro z;cases z)) e
  .obtain⟨mT,l5⟩:=Rs j du s () af aj;have ti:=mT.j0 s3 (EC mT pz ()) pz.ins;refine⟨?_,l5⟩;obtain⟨ax,fc,a4,az,aE⟩:=ti;refine⟨ax,fc,a4,by rw[aO (d_ az nJ (by intro z;cases z))];exact az,?_⟩;rw[aO (fun z=>by
    subst z;rw[nJ]at aE;have j9:=d6 aE;injection j9 with hX;cases os with
    |nil=>cases hX
    |cons a dE=>injection hX with qQ _;cases qQ)]
   exact aE
 .rintro σ I a3;ac_rfl
  let((y,rfl),ef,ot,tc,te,L,Rs):=a3;subst ba;rw[a9,JD,kR]at L;nofun;exact(c,n,ds,z,wl,sp,rfl,C.same ot,aL,bB,(),L,vf.ok (),vf.lZ,ef,kH.step ot ef)
theorem wO(z:Nat)(v:α)(b:Int)(ax:0<z)(l:List α)(aw:↑l=z):∀(k:Nat) (i:Nat),i<z->(jC z v b k l)[i]? = if ∃j,j<k/\(b+(j:Int))%(z:Int)=(i:Int)then some v else l[i]?
 |0,i,ao=>by rw[if_neg (λ⟨j,aZ,_⟩=>())];rfl
 | k+1,i,ao=>by
  have b9:=wO z v b ax l aw k i ao;have h0:=e8 (b+(k:Int)) (show(z:Int)≠0 by omega);have af:=e_ (b+(k:Int)) (show 0<(z:Int)by omega);unfold jC o1;by_cases c:(b+(k:Int))%(z:Int)=(i:Int)
  .rw [show((b+(k:Int))%(z:Int)).toNat=i by omega,rg (by rw[mL,aw];exact ao),if_pos (k,(),c)]
  .rw[tT (),b9];by_cases e:∃j,j<k/\(b+(j:Int))%(z:Int)=(i:Int)
   .let(j,aZ,ly):=e;rw[if_pos (j,aZ,ly),if_pos (j,(),ly)]
   .rw[if_neg e,if_neg];intro(j,aZ,ly);by_cases L8:j=k
    .subst L8;exact c ly
    .exact e (j,(),ly)
def AZ{z b i:Int}{n:Int}(ax:0<z)(ao:0<=i/\i<z)(aL:0<=n/\n<=z):(∃j:Nat,j<n.toNat/\(b+(j:Int))%z=i)↔(i-b)%z<n:=by
 have h0:=e8 (i-b) (show z≠0 by omega);have af:=e_ (i-b) ax;constructor
 .rintro⟨j,aZ,e⟩;have:(i-b)%z=j:=by
   rw[<- e,mz,show b+(j:Int)-b=j by omega];exact jP () ()
  omega
 .intro h;refine(((i-b)%z).toNat,(),?_);rw[iF h0,aiQ,show b+(i-b)=i by omega];exact jP ao.1 ao.2
theorem B'(m:List Bool):∀k,0<=hb m k
 |0=>by show(0:Int)<=0;decide
 |k+1=>by
  have:=B' m k;unfold hb;split <;> omega
theorem YS(m:List Bool)(g:Int)(a0:0<=g):∀k:Nat,hb m k<=g↔(∃j:Nat,(j:Int)<=g/\j<k/\m[(2*↑m-1-(k-1-j))%↑m]?\true)\/(k:Int)<=g
 |0=>by
  constructor
  .intro _;exact .inr ()
  .intro _;exact a0
 | k + 1=>by
  by_cases c:m[(2*↑m-1-k)%↑m]?\true
  .have e:hb m (k+1)=0:=by unfold hb;rw[if_pos c]
   rw[e];exact(λ_=>.inl (0,(),(),by rw[show k+1-1-0=k by omega];exact c),λ_=>a0)
  .have e:hb m (k+1)=hb m k+1:=by
    show(if m[(2*↑m-1-k)%↑m]?\true then 0 else hb m k+1)=_;rw[if_neg c]
   rw[e];by_cases asq:1<=g
   .have b9:=YS m (g-1) () k;constructor
    .intro h;rcases b9.mp ()with⟨j,af,aj,a_⟩|h
     .exact .inl (j+1,(),(),by rw[show k+1-1-(j+1)=k-1-j by omega];exact a_)
     .exact .inr ()
    .rintro(⟨j,af,aj,a_⟩|h)
     .by_cases aZ:j=0
      .subst aZ;rw[show k+1-1-0=k by omega]at a_;exact absurd a_ c
      .have:=b9.mpr (.inl (j-1,(),(),by rw[show k-1-(j-1)=k+1-1-j by omega];exact a_));omega
     .have:=b9.mpr (.inr ());omega
   .have:=B' m k;constructor
    .intro h;omega
    .rintro(⟨j,af,aj,a_⟩|h)
     .have aZ:j=0:=()
      subst aZ;rw[show k+1-1-0=k by omega]at a_;exact absurd a_ c
     .omega
def T2{t:Nat}(cV:t<↑m):(ny m)[t]?\(hb m (2*↑m-t)):=by
 unfold ny;rw[d7,A1 cV];rfl
def Q5(hm:∃i,i<↑m/\m[i]?\true){t:Nat}(cV:t<↑m)(g:Int)(a0:0<=g):hb m (2*↑m-t)<=g↔∃j:Nat,(j:Int)<=g/\m[(t+j)%↑m]?\true:=by
 have pos:∀j,j<2*↑m-t->(2*↑m-1-(2*↑m-t-1-j))=t+j:=λj aZ=>()
 rw[YS m g a0];constructor
 .rintro(⟨j,af,aj,a_⟩|h)
  .rw [pos j aj]at a_;exact(j,af,a_)
  .obtain⟨i,ao,e⟩:=hm;refine⟨(i+↑m-t)%↑m,?_,?_⟩
   .have:=Cn (i+↑m-t) (show 0<↑m by omega);omega
   .rw [aqm,show t+(i+↑m-t)=i+↑m by omega,Nat.add_mod_right,Nat.mod_eq_of_lt ao];exact e
 .intro (j,af,aj);have aZ:=Cn j (show 0<↑m by omega);have hle:=Nat.mod_le j ↑m;refine .inl (j%↑m,(),(),?_);rw[pos _ (),aqm];exact aj
def anN{m:List Bool}(hm:∃i,i<↑m/\m[i]?\true):∃i,i<↑m.reverse/\m.reverse[i]?\true:=by
 let(i,ao,e):=hm;refine(↑m-1-i,by rw[yR];omega,?_);rw[Pg (),show ↑m-1-(↑m-1-i)=i by omega];exact e
def RK {m:List Bool} {t:Nat} (cV:t<↑m):∃v,(tg m)[t]?\v/\0<=v/\((∃i,i<↑m/\m[i]?\true)->∀g:Int,0<=g->(v<=g↔∃j:Nat,(j:Int)<=g/\m[(((t:Int)-(j:Int))%(↑m:Int)).toNat]?\true)):=by
 have au:↑m.reverse=↑m:=yR;have af:↑m-1-t<↑m.reverse:=()
 refine(hb m.reverse (2*↑m.reverse-(↑m-1-t)),?_,B' _ _,λhm g a0=>?_)
 .unfold tg;rw[Pg (by rw[Dm];omega),Dm,au];have:=T2 af;rw[au]at this;exact this
 .rw [Q5 (anN hm) af g a0];have key:∀j:Nat,m.reverse[(↑m-1-t+j)%↑m.reverse]? = m[(((t:Int)-(j:Int))%(↑m:Int)).toNat]?:=λj=>by
   rw[au];have cD:=Cn (↑m-1-t+j) (show 0<↑m by omega);rw[Pg ()];congr 1;have h0:=e8 ((t:Int)-(j:Int)) (show(↑m:Int)≠0 by omega);have e:((t:Int)-(j:Int))%(↑m:Int)=((↑m-1-(↑m-1-t+j)%↑m:Nat):Int):=by
    have d:=Nat.div_add_mod (↑m-1-t+j) ↑m;generalize (↑m-1-t+j) / ↑m=q at d;generalize (↑m-1-t+j)%↑m=r at d cD⊢;have aE:(t:Int)-(j:Int)=((↑m-1-r:Nat):Int)+(↑m:Int)*(-(q:Int)):=by
     have d':(↑m:Int)*(q:Int)+(r:Int)=((↑m-1-t+j:Nat):Int):=by rw[<- d];push_cast;rfl
     rw[aqy];omega
    rw[aE,yy];exact jP () ()
   omega
  constructor
  .intro (j,aj,a_);exact(j,aj,by rw[<- key j];exact a_)
  .intro (j,aj,a_);exact(j,aj,by rw[key j];exact a_)
theorem Tg{z:Nat}(ax:0<z):∀(ps:List (Int×Int)),(∀p∈ps,0<=p.2/\p.2<=z)->∀(l:List Bool),↑l=z->∀{i:Nat},i<z ->
  (ps.foldl (λl p=>jC z true p.1 p.2.toNat l) l)[i]? = some ((ps.any λp=>decide (((i:Int)-p.1)%(z:Int)<p.2))||l[i]?.getD false)
 |[],_,l,aw,i,ao=>by
  rw[xt,aiz,ov,bJ ()];rfl
 |p::ps,h,l,aw,i,ao=>by
  have aq:=h p (lW ..);rw[xR,Tg ax ps (λq aF=>h q (fS _ aF)) _ (by rw[mL,aw]) ao,wO z true p.1 ax l aw _ _ ao,rR];have:=AZ (z:=z) (b:=p.1) (i:=i) (n:=p.2) () ((),()) aq;by_cases c:((i:Int)-p.1)%(z:Int)<p.2
  .rw [if_pos (this.mpr c),decide_eq_true c];simp
  .rw [if_neg (λe=>c (this.mp e)),decide_eq_false c,ov]
def Dx{z:Nat}(ax:0<z){ps:List (Int×Int)}(h:∀p∈ps,0<=p.2/\p.2<=z){i:Nat}(ao:i<z):(er z ps)[i]?\(ps.any λp=>decide (((i:Int)-p.1)%(z:Int)<p.2)):=by
 unfold er;rw[Tg ax ps h _ (kE ..) ao,Dn,if_pos ao];simp
noncomputable def kd(z t:Int)(p:Int×Int):Int:=if(t-p.1)%z<p.2 then 0 else z-(t-p.1)%z
noncomputable def oa(z t:Int)(ps:List (Int×Int)):Int:=ps.foldl (λb p=>min b (kd z t p)) z
def LW{z t:Int}(ax:0<z)(p:Int×Int):0<=kd z t p/\kd z t p<=z:=by
 have h0:=e8 (t-p.1) (show z≠0 by omega);have af:=e_ (t-p.1) ax;unfold kd;split <;> omega
def CY{z t g:Int}(ax:0<z){p:Int×Int}(aq:1<=p.2/\p.2<=z)(a0:0<=g):kd z t p<=g↔∃j:Nat,(j:Int)<=g/\(t+(j:Int)-p.1)%z<p.2:=by
 have h0:=e8 (t-p.1) (show z≠0 by omega);have af:=e_ (t-p.1) ax;have step:∀j:Int,(t+j-p.1)%z=((t-p.1)%z+j)%z:=λj=>by
  rw[Qq,show t+j-p.1=t-p.1+j by omega]
 unfold kd;by_cases c:(t-p.1)%z<p.2
 .rw [if_pos c];exact(λ_=>(0,(),by rw[step,Int.natCast_zero,Int.add_zero,ag' _ (ady _)];exact c),λ_=>a0)
 .rw[if_neg c];constructor
  .intro h;refine((z-(t-p.1)%z).toNat,(),?_);rw[step,iF (),show(t-p.1)%z+(z-(t-p.1)%z)=z by omega,aju];omega
  .rintro⟨j,aZ,h⟩;by_cases d:(t-p.1)%z+j<z
   .rw [step,jP () d]at h;omega
   .omega
theorem Os(z t g:Int):∀(ps:List (Int×Int)) (b:Int),ps.foldl (λb p=>min b (kd z t p)) b<=g↔b<=g\/∃p∈ps,kd z t p<=g
 |[],b=>by simp
 |p::ps,b=>by
  rw[xR,Os z t g ps];simp only[cT,exists_eq_or_imp];rw[show min b (kd z t p)<=g↔b<=g\/kd z t p<=g by omega,or_assoc]
def RM{z t:Int}(ax:0<z)(ps:List (Int×Int)):0<=oa z t ps:=by
 have:¬oa z t ps <= -1:=λh=>by
  rcases(Os z t (-1) ps z).mp h with h|⟨p,_,h⟩
  .omega
  .have:=LW (t:=t) ax p;omega
 omega
def adD{z t:Int}(ps:List (Int×Int)):oa z (t%z) ps=oa z t ps:=by
 have:∀p:Int×Int,kd z (t%z) p=kd z t p:=λp=>by
  unfold kd;rw[mz]
 unfold oa;simp only[this]
def ako {z:Nat} (ax:0<z) {ps:List (Int×Int)} (h:∀p∈ps,1<=p.2/\p.2<=z) (b8:ps≠[]) {t:Nat} (cV:t<z):(ny (er z ps))[t]?\(oa z t ps):=by
 have aw:↑(er z ps)=z:=oi _ _;have cG:∀p∈ps,0<=p.2/\p.2<=z:=λp aq=>(by have:=h p aq;omega,(h p aq).2)
 have key:∀j:Nat,(er z ps)[(t+j)%z]?\(ps.any λp=>decide (((t:Int)+(j:Int)-p.1)%(z:Int)<p.2)):=λj=>by
  rw[Dx ax cG (Cn _ ax)];congr 2;funext p;rw[ao_,mz,Int.natCast_add]
 let(e3,fu,rfl):=anI b8;have hm:∃i,i<↑(er z (e3::fu))/\(er z (e3::fu))[i]?\true:=by
  have w6:=e8 e3.1 (show(z:Int)≠0 by omega);have lr:=e_ e3.1 (show 0<(z:Int)by omega);refine((e3.1%(z:Int)).toNat,by rw[aw];omega,?_);rw[Dx ax cG (),rR,iF w6,mz,TM,Pr,decide_eq_true (by have:=h e3 (lW ..);omega),ug]
 rw [T2 (by rw[aw];exact cV)];congr 1;have ul:=Q5 hm (t:=t) (by rw[aw];exact cV);rw[aw]at ul⊢;have all:∀g:Int,0<=g->(hb (er z (e3::fu)) (2*z-t)<=g↔oa z t (e3::fu)<=g):=λg a0=>by
  rw[ul g a0];unfold oa;rw[Os];constructor
  .intro (j,aZ,e);rw[key j,Dk,qO]at e;let(p,aq,e):=e;exact .inr (p,aq,(CY () (h p aq) a0).mpr (j,aZ,of_decide_eq_true e))
  .intro e;have e:∃p∈e3::fu,kd z t p<=g:=by
    rcases e with e|e
    .exact (e3,lW ..,by have:=(LW (z:=z) (t:=t) () e3).2;omega)
    .exact e
   let(p,aq,e):=e;let(j,aZ,e):=(CY () (h p aq) a0).mp e;exact(j,aZ,by rw[key j,Dk,qO];exact(p,aq,decide_eq_true e))
 have a1:=B' (er z (e3::fu)) (2*z-t);have a2:=RM (z:=z) (t:=t) () (e3::fu);have jY:=(all _ a2).mpr (yu _);have iq:=(all _ a1).mp (yu _);omega
def Mr(z rd fd:Int)(p q:Int×Int):Prop:=p.2+fd+rd<=(q.1-p.1)%z/\q.2+fd+rd<=(p.1-q.1)%z
structure eM(z rd fd ls:Int)(ps:List (Int×Int)):Prop where
 hq:0<z
 fu:0<=rd
 f0:0<=fd
 mb:fd=0->rd=0
 al:∀p∈ps,1<=p.2/\ls<=p.2/\p.2+fd+rd<=z
 vw:∀p∈ps,∀q∈ps,p=q\/Mr z rd fd p q
noncomputable def cE(z u:Int)(p:Int×Int):Int:=(u-p.1)%z
def uA(ax:0<z)(u:Int)(p:Int×Int):0<=cE z u p/\cE z u p<z:=(e8 _ (),e_ _ ax)
def w3(ax:0<z)(u:Int)(p:Int×Int)(aZ:0<=j)(h:cE z u p+j<z):cE z (u+j) p=cE z u p+j:=by
 have:=uA ax u p;unfold cE at *;have e:u+j-p.1=(u-p.1)+j:=()
 rw[e,<- Qq,jP () h]
def Ui(ax:0<z)(u:Int)(p:Int×Int)(h:cE z u p+j=z):cE z (u+j) p=0:=by
 unfold cE at *;have e:u+j-p.1=(u-p.1)+j:=()
 rw[e,<- Qq,h,aju]
def rj(ax:0<z)(u:Int)(p:Int×Int):(cE z u p+1<z/\cE z (u+1) p=cE z u p+1)\/(cE z u p=z-1/\cE z (u+1) p=0):=by
 have h:=uA ax u p;by_cases c:cE z u p+1<z
 .exact .inl (c,w3 ax u p ∅ c)
 .exact .inr ((),Ui ax u p ())
def Mr.clear(ax:0<z){rd fd:Int}(au:0<=rd)(hf:0<=fd){p q:Int×Int}(h:Mr z rd fd p q)(aq:1<=p.2)(aF:1<=q.2)(ah:cE z u p<p.2+fd\/z-rd<=cE z u p):q.2+fd<=cE z u q/\cE z u q<z-rd:=by
 have h0:=uA ax u p;have bB:0<(p.1-q.1)%z:=by have:=h.2;omega
 have ar9:=e_ (p.1-q.1) ax;have aL:(q.1-p.1)%z=z-(p.1-q.1)%z:=by
  have e:q.1-p.1=(z-(p.1-q.1)%z)+z*(-((p.1-q.1) / z)-1):=by
   have:=Int.mul_ediv_add_emod (p.1-q.1) z;rw[Int.mul_sub,aqy,ap3];omega
  rw[e,yy,jP () ()]
 have af:=h.1;have aj:=h.2;rw[aL]at af;have e:cE z u q=(cE z u p+(p.1-q.1)%z)%z:=by
  unfold cE;rw[<- YF,show u-p.1+(p.1-q.1)=u-q.1 by omega]
 generalize (p.1-q.1)%z=D at *;rw[e];rcases ah with ah|ah
 .rw [jP () ()];omega
 .rw [show cE z u p+D=(cE z u p+D-z)+z*1 by omega,yy,jP () ()];omega
noncomputable def eg(z rd fd:Int)(ps:List (Int×Int))(u:Int):Nat:=if(ps.any λp=>decide (cE z u p<p.2))=true then 2 else if(ps.any λp=>decide (cE z u p<p.2+fd))=true then 3 else if(ps.any λp=>decide (z-rd<=cE z u p))=true then 1 else 0
section
variable{z rd fd ls:Int}{ps:List (Int×Int)}
def FH[DecidablePred f](h:∀p∈ps,¬f p):¬(ps.any λp=>decide (f p))=true:=λe=>by
 let(p,aq,hd):=qO.mp e;exact h p aq (of_decide_eq_true hd)
def vW[DecidablePred f]{p:Int×Int}(aq:p∈ps)(h:f p):(ps.any λp=>decide (f p))=true:=qO.mpr (p,aq,decide_eq_true h)
def IV[DecidablePred f](e:(ps.any λp=>decide (f p))=true):∃p∈ps,f p:=by
 let(p,aq,hd):=qO.mp e;exact(p,aq,of_decide_eq_true hd)
theorem eM.clear(C:eM z rd fd ls ps){p:Int×Int}(aq:p∈ps)(ah:cE z u p<p.2+fd\/z-rd<=cE z u p)(aF:q∈ps):p=q\/(q.2+fd<=cE z u q/\cE z u q<z-rd):=by
 rcases C.vw p aq q aF with e|e
 .exact .inl e
 .exact .inr (e.clear C.hq C.fu C.f0 (C.al p aq).1 (C.al q aF).1 ah)
def eM.free{p:Int×Int}(aq:p∈ps)(h:cE z u p<p.2):eg z rd fd ps u=2:=by
 unfold eg;rw[if_pos (vW aq h)]
def eM.td(C:eM z rd fd ls ps){p:Int×Int}(aq:p∈ps)(af:p.2<=cE z u p)(aj:cE z u p<p.2+fd):eg z rd fd ps u=3:=by
 unfold eg;rw[if_neg (FH λq aF=>?_),if_pos (vW aq aj)];have:=C.f0;rcases C.clear aq (.inl aj) aF with e|e
 .rw [<- e];omega
 .omega
def eM.ready(C:eM z rd fd ls ps){p:Int×Int}(aq:p∈ps)(h:z-rd<=cE z u p):eg z rd fd ps u=1:=by
 have a:=(C.al p aq).2.2;have:=C.f0;unfold eg;rw[if_neg (FH λq aF=>?_),if_neg (FH λq aF=>?_),if_pos (vW aq h)]
 .rcases C.clear aq (.inr h) aF with e|e
  .rw [<- e];omega
  .omega
 .rcases C.clear aq (.inr h) aF with e|e
  .rw [<- e];omega
  .omega
def qN (z rd fd:Int) (ps:List (Int×Int)) (u:Int):(eg z rd fd ps u=2/\∃p∈ps,cE z u p<p.2)\/(eg z rd fd ps u=3/\∃p∈ps,p.2<=cE z u p/\cE z u p<p.2+fd)\/(eg z rd fd ps u=1/\∃p∈ps,z-rd<=cE z u p)\/(eg z rd fd ps u=0/\∀p∈ps,p.2<=cE z u p/\p.2+fd<=cE z u p/\cE z u p<z-rd):=by
 unfold eg;by_cases cu:(ps.any λp=>decide (cE z u p<p.2))=true
 .rw [if_pos cu];exact .inl (rfl,IV cu)
 .have bY:∀p∈ps,¬cE z u p<p.2:=λp aq h=>cu (vW aq h)
  rw[if_neg cu];by_cases dP:(ps.any λp=>decide (cE z u p<p.2+fd))=true
  .rw [if_pos dP];let(p,aq,h):=IV dP;exact .inr (.inl (rfl,p,aq,by have:=bY p aq;omega,h))
  .have cg:∀p∈ps,¬cE z u p<p.2+fd:=λp aq h=>dP (vW aq h)
   rw[if_neg dP];by_cases i':(ps.any λp=>decide (z-rd<=cE z u p))=true
   .rw [if_pos i'];exact .inr (.inr (.inl (rfl,IV i')))
   .rw[if_neg i'];refine .inr (.inr (.inr (rfl,λp aq=>(by have:=bY p aq;omega,by have:=cg p aq;omega,?_))));have:¬z-rd<=cE z u p:=λh=>i' (vW aq h)
    omega
def S6(z rd fd:Int)(ps:List (Int×Int))(u:Int):eg z rd fd ps u<4:=by
 rcases qN z rd fd ps u with h|h|h|h <;> rw[h.1] <;> decide
structure KX(rd fd:Int)(a b:Nat):Prop where
 f0:a=0->b=if 0<rd then 1 else 2
 f1:a=1->b=2
 f2:a=2->b=if 0<fd then 3 else 0
 eP:a=3->b=0\/b=if 0<rd then 1 else 2
def eM.ahead(C:eM z rd fd ls ps)(h:∀p∈ps,cE z (u+1) p<p.2+fd->cE z (u+1) p=0/\rd=0):eg z rd fd ps (u+1)=0\/eg z rd fd ps (u+1)=if 0<rd then 1 else 2:=by
 rcases qN z rd fd ps (u+1)with e|e|e|e
 .let(e,p,aq,ah):=e;have:=C.f0;rw[e,if_neg (by have:=(h p aq ()).2;omega)];exact .inr rfl
 .let(e,p,aq,af,aj):=e;have:=(h p aq aj).1;have:=(C.al p aq).1;omega
 .let(e,p,aq,af):=e;have:=uA C.hq (u+1) p;rw[e,if_pos ()];exact .inr rfl
 .exact .inl e.1
def eM.acu (C:eM z rd fd ls ps) (u:Int) (h:eg z rd fd ps (u+1)≠eg z rd fd ps u):KX rd fd (eg z rd fd ps u) (eg z rd fd ps (u+1)):=by
 have hf:=C.f0;have au:=C.fu;rcases qN z rd fd ps u with e|e|e|e
 .obtain⟨e,p,aq,af⟩:=e;have a:=C.al p aq;rw[e]at h⊢;refine⟨fun z=>(),fun z=>(),fun _=>?_,fun z=>()⟩;rcases rj C.hq u p with⟨cu,dP⟩|⟨cu,dP⟩
  .by_cases c:cE z u p+1<p.2
   .exact absurd (eM.free aq ()) h
   .by_cases U':0<fd
    .rw [if_pos U'];exact C.td aq () ()
    .rw[if_neg U'];have fu:=C.mb ();rcases qN z rd fd ps (u+1)with k|k|k|k
     .exact absurd k.1 h
     .let(_,q,_,af,aj):=k;omega
     .let(_,q,_,af):=k;have:=uA C.hq (u+1) q;omega
     .exact k.1
  .exact absurd (eM.free aq ()) h
 .obtain⟨e,p,aq,af,aj⟩:=e;have a:=C.al p aq;rw[e]at h⊢;refine⟨fun z=>(),fun z=>(),fun z=>(),fun _=>?_⟩;refine C.ahead fun q aF ah=>?_
  rcases C.clear aq (.inl aj) aF with k|k
  .subst k;rcases rj C.hq u p with⟨cu,dP⟩|⟨cu,dP⟩
   .exact absurd (C.td aq () ah) h
   .exact (dP,())
  .rcases rj C.hq u q with⟨cu,dP⟩|⟨cu,dP⟩
   .omega
   .exact (dP,())
 .obtain⟨e,p,aq,af⟩:=e;have a:=C.al p aq;rw[e]at h⊢;refine⟨fun z=>(),fun _=>?_,fun z=>(),fun z=>()⟩;rcases rj C.hq u p with⟨cu,dP⟩|⟨cu,dP⟩
  .exact absurd (C.ready aq ()) h
  .exact eM.free aq ()
 .obtain⟨e,al⟩:=e;rw[e]at h⊢;refine⟨fun _=>?_,fun z=>(),fun z=>(),fun z=>()⟩;refine(C.ahead fun q aF ah=>?_).resolve_left h;have k:=al q aF;rcases rj C.hq u q with⟨cu,dP⟩|⟨cu,dP⟩
  .omega
  .exact (dP,())
def eM.len (C:eM z rd fd ls ps) (hm:0<m) (h0:eg z rd fd ps (a-1)≠eg z rd fd ps a) (ah:∀j:Nat,j<m->eg z rd fd ps (a+j)=eg z rd fd ps a) (af:eg z rd fd ps (a+m)≠eg z rd fd ps a) :
  (eg z rd fd ps a=1->(m:Int)=rd)/\(eg z rd fd ps a=2->ls<=(m:Int))/\(eg z rd fd ps a=3->(m:Int)=fd):=by
 have hf:=C.f0;have au:=C.fu;have U:∀p,(cE z (a-1) p+1<z/\cE z a p=cE z (a-1) p+1)\/(cE z (a-1) p=z-1/\cE z a p=0):=λp=>by
  have:=rj C.hq (a-1) p;rw[show a-1+1=a by omega]at this;exact this
 rcases qN z rd fd ps a with e|e|e|e
 .obtain⟨e,p,aq,bU⟩:=e;rw[e]at h0 ah af⊢;refine⟨fun z=>(),fun _=>?_,fun z=>()⟩;have al:=C.al p aq;have o0:cE z a p=0:=by
   rcases U p with⟨cu,dP⟩|⟨cu,dP⟩
   .exact absurd (eM.free aq ()) h0
   .exact dP
  by_cases c:(m:Int)<p.2
  .refine absurd (eM.free aq ?_) af;rw[w3 C.hq a p () ()];omega
  .omega
 .obtain⟨e,p,aq,bU,bo⟩:=e;rw[e]at h0 ah af⊢;refine⟨fun z=>(),fun z=>(),fun _=>?_⟩;have al:=C.al p aq;have o0:cE z a p=p.2:=by
   rcases U p with⟨cu,dP⟩|⟨cu,dP⟩
   .by_cases c:cE z a p=p.2
    .exact c
    .exact absurd (C.td aq () ()) h0
   .omega
  by_cases c:(m:Int)<fd
  .refine absurd (C.td aq ?_ ?_) af <;> rw[w3 C.hq a p () ()] <;> omega
  .by_cases eT:(m:Int)=fd
   .exact eT
   .exfalso;have aZ:=ah fd.toNat ();rw[iF hf]at aZ;have aw:cE z (a+(fd-1)) p=p.2+(fd-1):=by rw[w3 C.hq a p () (),o0]
    have aE:a+fd=a+(fd-1)+1:=()
    rw[aE]at aZ;rcases qN z rd fd ps (a+(fd-1)+1)with k|k|k|k
    .omega
    .obtain⟨_,q,aF,bM,cP⟩:=k;rcases C.clear aq (u:=a+(fd-1)) (.inl ()) aF with k|k
     .subst k;rcases rj C.hq (a+(fd-1)) p with⟨cu,dP⟩|⟨cu,dP⟩ <;> omega
     .have:=(C.al q aF).1;rcases rj C.hq (a+(fd-1)) q with⟨cu,dP⟩|⟨cu,dP⟩ <;> omega
    .omega
    .omega
 .obtain⟨e,p,aq,bU⟩:=e;rw[e]at h0 ah af⊢;refine⟨fun _=>?_,fun z=>(),fun z=>()⟩;have al:=C.al p aq;have PZ:=uA C.hq a p;have o0:cE z a p=z-rd:=by
   rcases U p with⟨cu,dP⟩|⟨cu,dP⟩
   .by_cases c:cE z a p=z-rd
    .exact c
    .exact absurd (C.ready aq ()) h0
   .omega
  by_cases c:(m:Int)<rd
  .refine absurd (C.ready aq ?_) af;rw[w3 C.hq a p () ()];omega
  .by_cases eT:(m:Int)=rd
   .exact eT
   .exfalso;have aZ:=ah rd.toNat ();rw[iF au]at aZ;have:=eM.free (rd:=rd) (fd:=fd) aq (u:=a+rd) (by rw[Ui C.hq a p ()];omega);omega
 .rw [e.1];exact(λz=>(),λz=>(),λz=>())
end
noncomputable def bS:Nat->Str
 |0=>aa "stop"
 |1=>aa "ready"
 |2=>aa "free"
 |_=>aa "fade"
def Bg:∀{a b:Nat},a<4->b<4->bS a=bS b->a=b:=by
 have h:∀a<4,∀b<4,bS a=bS b->a=b:=∅
 exact λ{a b} aJ ae=>h a aJ b ae
noncomputable def ji(d:aQ):Nat:=if 0<c1 d then 1 else 2
noncomputable def my(d:aQ):Nat:=if 0<c5 d then 3 else 0
noncomputable def vm(d:aQ):Nat->List Nat
 |0=>[ji d]
 |1=>[2]
 |2=>[my d]
 |_=>[0,ji d]
noncomputable def jF(cs:List Nat):List V:=cs.map λc=>V.str (bS c)
def Di(H:ar)(bd:Addr)(d:aQ):Prop:=∃kvs,H bd\(.bL kvs)/\∀c<4,∃b,c6 kvs (b5 (bS c))\⇑b/\H b\(.lst (jF (vm d c)))
def Di.same{d:aQ}(h:Di H bd d)(s:aC H I):Di I bd d:=by
 let(kvs,e,al):=h;exact(kvs,s _ _ e,λc ah=>by let(b,af,aj):=al c ah;exact(b,af,s _ _ aj))
def iY{a b:Nat}(aJ:a<4)(ae:b<4)(h:a≠b):bS a≠bS b:=λz=>h (Bg aJ ae z)
def amo(x0 fN fZ dx:V):m8 [] [(p'p (b5 (bS 0)) x0),(p'p (b5 (bS 1)) fN),(p'p (b5 (bS 2)) fZ),(p'p (b5 (bS 3)) dx)]=[(p'p (b5 (bS 0)) x0),(p'p (b5 (bS 1)) fN),(p'p (b5 (bS 2)) fZ),(p'p (b5 (bS 3)) dx)]:=by
 have Iu:=iY (a:=0) (b:=1) ∅ ∅ ∅;have F7:=iY (a:=0) (b:=2) ∅ ∅ ∅;have HJ:=iY (a:=0) (b:=3) ∅ ∅ ∅;have oN:=iY (a:=1) (b:=2) ∅ ∅ ∅;have nu:=iY (a:=1) (b:=3) ∅ ∅ ∅;have t4:=iY (a:=2) (b:=3) ∅ ∅ ∅;unfold m8;simp only[xR,xt];rw[tP x0 (k:=b5 (bS 0)) (by rfl),tP fN (by simp[c6,Iu]),tP fZ (by simp[c6,F7,oN]),tP dx (by simp[c6,HJ,nu,t4])];rfl
theorem am3(f:Nat->V)(ah:c<4):c6 ([(p'p (b5 (bS 0)) (f 0)),(p'p (b5 (bS 1)) (f 1)),(p'p (b5 (bS 2)) (f 2)),(p'p (b5 (bS 3)) (f 3))]:List (Key×V)) (b5 (bS c))\(f c):=by
 have Iu:=iY (a:=0) (b:=1) ∅ ∅ ∅;have F7:=iY (a:=0) (b:=2) ∅ ∅ ∅;have HJ:=iY (a:=0) (b:=3) ∅ ∅ ∅;have oN:=iY (a:=1) (b:=2) ∅ ∅ ∅;have nu:=iY (a:=1) (b:=3) ∅ ∅ ∅;have t4:=iY (a:=2) (b:=3) ∅ ∅ ∅
 match c,ah with
 |0,_=>simp[c6]
 |1,_=>simp[c6,Iu]
 |2,_=>simp[c6,F7,oN]
 |3,_=>simp[c6,HJ,nu,t4]
def apl(h:c∈l):mm (.str (bS c)) (jF l)=true:=by
 unfold mm jF;rw[Z'];exact qO.mpr (c,h,by simp[i8])
def P1(ah:c<4)(hm:m<4):decide (bS c=bS m)=decide (c=m):=decide_eq_decide.mpr (λz=>Bg ah hm z,λz=>by rw[z])
theorem RA(z:Nat)(v:α)(b:Int)(ax:0<z)(l:List α)(aw:↑l=z):∀(k:Nat) (i:Nat),i<z->(ng z v b k l)[i]? = if ∃j,j<k/\(b-1-(j:Int))%(z:Int)=(i:Int)then some v else l[i]?
 |0,i,ao=>by rw[if_neg (λ⟨j,aZ,_⟩=>())];rfl
 | k+1,i,ao=>by
  have b9:=RA z v b ax l aw k i ao;have h0:=e8 (b-1-(k:Int)) (show(z:Int)≠0 by omega);have af:=e_ (b-1-(k:Int)) (show 0<(z:Int)by omega);unfold ng o1;by_cases c:(b-1-(k:Int))%(z:Int)=(i:Int)
  .rw [show((b-1-(k:Int))%(z:Int)).toNat=i by omega,rg (by rw[q8,aw];exact ao),if_pos (k,(),c)]
  .rw[tT (),b9];by_cases e:∃j,j<k/\(b-1-(j:Int))%(z:Int)=(i:Int)
   .let(j,aZ,ly):=e;rw[if_pos (j,aZ,ly),if_pos (j,(),ly)]
   .rw[if_neg e,if_neg];intro(j,aZ,ly);by_cases L8:j=k
    .subst L8;exact c ly
    .exact e (j,(),ly)
def abc{z b i:Int}{n:Int}(ax:0<z)(ao:0<=i/\i<z)(aL:0<=n/\n<=z):(∃j:Nat,j<n.toNat/\(b-1-(j:Int))%z=i)↔z-n<=(i-b)%z:=by
 have h0:=e8 (i-b) (show z≠0 by omega);have af:=e_ (i-b) ax;constructor
 .rintro⟨j,aZ,e⟩;have:(i-b)%z=z-1-j:=by
   rw[<- e,mz,show b-1-(j:Int)-b=(z-1-j)+z*(-1)by omega,yy];exact jP () ()
  omega
 .intro h;refine((z-1-(i-b)%z).toNat,(),?_);rw[iF (),show b-1-(z-1-(i-b)%z)=(b+(i-b)%z)+z*(-1)by omega,yy,aiQ,show b+(i-b)=i by omega];exact jP ao.1 ao.2
noncomputable def hB(n:Int)(d:aQ):List (List aQ)->List (List aQ)
 |[]=>[[d]]
 |g::gs=>if g.any (λe=>mt n e d)then g::hB n d gs else(g++[d])::gs
noncomputable def en(n:Int)(ds:List aQ):List (List aQ):=ds.foldl (λgs d=>hB n d gs) []
theorem Qu(n:Int)(d:aQ):∀gs,(hB n d gs).flatten.Perm (gs.flatten++[d])
 |[]=>by simp[hB]
 |g::gs=>by
  unfold hB;split
  .rw [tm,tm,jE];exact(Qu n d gs).append_left g
  .rw [tm,tm,jE,jE];exact List.perm_append_comm.append_left g
theorem P6{n:Int}{d:aQ}:∀{gs:List (List aQ)},(∀g∈gs,g≠[])->∀g∈hB n d gs,g≠[]
 |[],_,g,a0=>by
  rw[show g=[d]by simpa[hB]using a0];exact List.cons_ne_nil _ _
 | ru::gs,h,g,a0=>by
  unfold hB at a0;split at a0
  .rcases cT.mp a0 with rfl|a0
   .exact h _ (lW ..)
   .exact P6 (λx ai=>h x (fS _ ai)) g a0
  .rcases cT.mp a0 with rfl|a0
   .simp
   .exact h g (fS _ a0)
def KF(n:Int)(ds:List aQ)(d:aQ):en n (ds++[d])=hB n d (en n ds):=by
 unfold en;rw[R'];rfl
theorem XG(n:Int)(ds:List aQ):∀g∈en n ds,g≠[]:=by
 unfold en
 suffices h:∀gs,(∀g∈gs,g≠[])->∀g∈ds.foldl (λgs d=>hB n d gs) gs,g≠[]from h [] (by simp)
 induction ds with
 |nil=>exact λgs h=>h
 |cons d ds b9=>exact λgs h=>b9 _ (P6 h)
theorem vA(n:Int)(ds:List aQ):(en n ds).flatten.Perm ds:=by
 unfold en
 suffices h:∀gs,(ds.foldl (λgs d=>hB n d gs) gs).flatten.Perm (gs.flatten++ds)from h []
 induction ds with
 |nil=>intro gs;simp
 |cons d ds b9=>
  intro gs;refine(b9 (hB n d gs)).trans ?_;have:=(Qu n d gs).append_right ds;rwa[jE]at this
theorem F5:∀{gs:List (List aQ)},(∀g∈gs,g≠[])->↑gs<=↑gs.flatten
 |[],_=>b0 _
 |g::gs,h=>by
  have af:=F5 (gs:=gs) λx ai=>h x (fS _ ai)
  have aj:=Jb.mpr (h g (by simp));rw[tm,c',gw];omega
def ajJ{z:Nat}(ax:0<z){rd fd:Nat}{l:List Str}(aw:↑l=z){p:Int×Int}(aL:0<=p.2/\p.2+fd+rd<=z){i:Nat}(ao:i<z):(m9 z rd fd l p)[i]? =
  if((i:Int)-p.1)%(z:Int)<p.2 then some (aa "free")else if((i:Int)-p.1)%(z:Int)<p.2+fd then some (aa "fade")else if(z:Int)-rd<=((i:Int)-p.1)%(z:Int)then some (aa "ready")else l[i]?:=by
 let(b,n):=p;dsimp only at aL⊢;unfold m9;have s0:=e8 ((i:Int)-b) (show(z:Int)≠0 by omega);have s1:=e_ ((i:Int)-b) (show 0<(z:Int)by omega);rw[wO z _ _ ax _ (by rw[mL,q8,aw]) _ _ ao,wO z _ _ ax _ (by rw[q8,aw]) _ _ ao,RA z _ _ ax _ aw _ _ ao];dsimp only;have fa:=AZ (z:=z) (b:=b+n) (i:=i) (n:=fd) () ((),()) ((),());have e':=AZ (z:=z) (b:=b) (i:=i) (n:=n) () ((),()) ((),());have k2:=abc (z:=z) (b:=b) (i:=i) (n:=rd) () ((),()) ((),());rw[pN]at fa k2;have f1:((i:Int)-(b+n))%(z:Int)<fd↔n<=((i:Int)-b)%(z:Int)/\((i:Int)-b)%(z:Int)<n+fd:=by
  have e:((i:Int)-(b+n))%(z:Int)=(((i:Int)-b)%(z:Int)-n)%(z:Int):=by
   rw[mz,show(i:Int)-(b+n)=(i:Int)-b-n by omega]
  rw[e];by_cases c:n<=((i:Int)-b)%(z:Int)
  .rw [jP () ()];omega
  .rw [show((i:Int)-b)%(z:Int)-n=(((i:Int)-b)%(z:Int)-n+z)+(z:Int)*(-1)by omega,yy,jP () ()];omega
 by_cases cu:((i:Int)-b)%(z:Int)<n
 .rw [if_neg (λh=>by have:=f1.mp (fa.mp h);omega),if_pos (e'.mpr cu),if_pos cu]
 .by_cases dP:((i:Int)-b)%(z:Int)<n+fd
  .rw [if_pos (fa.mpr (f1.mpr ((),dP))),if_neg cu,if_pos dP]
  .rw[if_neg (λh=>by have:=f1.mp (fa.mp h);omega),if_neg (λh=>cu (e'.mp h)),if_neg cu,if_neg dP];by_cases i':(z:Int)-rd<=((i:Int)-b)%(z:Int)
   .rw [if_pos (k2.mpr i'),if_pos i']
   .rw [if_neg (λh=>i' (k2.mp h)),if_neg i']
def Y_{z:Nat}(ax:0<z){ps:List (Int×Int)}(h:∀p∈ps,1<=p.2/\p.2<=z)(b8:ps≠[]){t:Nat}(cV:t<z):∃v,(tg (er z ps))[t]?\v/\0<=v/\∀g:Int,0<=g->(v<=g↔∃j:Nat,(j:Int)<=g/\∃p∈ps,((t:Int)-(j:Int)-p.1)%(z:Int)<p.2):=by
 have aw:↑(er z ps)=z:=oi _ _;have cG:∀p∈ps,0<=p.2/\p.2<=z:=λp aq=>(by have:=h p aq;omega,(h p aq).2)
 let(v,af,aj,a_):=RK (m:=er z ps) (t:=t) (by rw[aw];exact cV);refine(v,af,aj,λg a0=>?_);let(e3,fu,rfl):=anI b8;have hm:∃i,i<↑(er z (e3::fu))/\(er z (e3::fu))[i]?\true:=by
  have w6:=e8 e3.1 (show(z:Int)≠0 by omega);have lr:=e_ e3.1 (show 0<(z:Int)by omega);refine((e3.1%(z:Int)).toNat,by rw[aw];omega,?_);rw[Dx ax cG (),rR,iF w6,mz,TM,Pr,decide_eq_true (by have:=h e3 (lW ..);omega),ug]
 rw[a_ hm g a0,aw];have key:∀j:Nat,(er z (e3::fu))[(((t:Int)-(j:Int))%(z:Int)).toNat]?\((e3::fu).any λp=>decide (((t:Int)-(j:Int)-p.1)%(z:Int)<p.2)):=λj=>by
  have et:=e8 ((t:Int)-(j:Int)) (show(z:Int)≠0 by omega);have cu:=e_ ((t:Int)-(j:Int)) (show 0<(z:Int)by omega);rw[Dx ax cG (),iF et];congr 2;funext p;rw[mz]
 constructor
 .intro (j,g1,g2);rw[key j,Dk,qO]at g2;let(p,aq,e):=g2;exact(j,g1,p,aq,of_decide_eq_true e)
 .intro (j,g1,p,aq,e);exact(j,g1,by rw[key j,Dk,qO];exact(p,aq,decide_eq_true e))
section
variable{z:Nat}{rd fd ls:Int}
def eM.tail{p:Int×Int}(C:eM z rd fd ls (p::ps)):eM z rd fd ls ps:=(C.hq,C.fu,C.f0,C.mb,λq aF=>C.al q (fS _ aF),λq aF r au=>C.vw q (fS _ aF) r (fS _ au))
def aaq{p:Int×Int}(C:eM z rd fd ls (p::ps))(h:eg z rd fd ps u≠0):eg z rd fd (p::ps) u=eg z rd fd ps u:=by
 rcases qN z rd fd ps u with e|e|e|e
 .let(e,q,aF,af):=e;rw[e];exact eM.free (fS _ aF) af
 .let(e,q,aF,af,aj):=e;rw[e];exact C.td (fS _ aF) af aj
 .let(e,q,aF,af):=e;rw[e];exact C.ready (fS _ aF) af
 .exact absurd e.1 h
theorem YK {i:Nat} (ao:i<z):∀(ps:List (Int×Int)) (l:List Str),↑l=z->eM z rd fd ls ps->(ps.foldl (m9 z rd.toNat fd.toNat) l)[i]? = if eg z rd fd ps i=0 then l[i]? else some (bS (eg z rd fd ps i))
 |[],l,_,_=>by rw[if_pos (show eg z rd fd [] i=0 from rfl)];rfl
 | p :: ps,l,aw,C=>by
  have j4:=C.al p (lW ..);have au:=C.fu;have hf:=C.f0;have e:=ajJ (z:=z) () aw (p:=p) (rd:=rd.toNat) (fd:=fd.toNat) ((),()) ao;rw[iF hf,iF au,show((i:Int)-p.1)%(z:Int)=cE z i p from rfl]at e;have mH:↑(m9 z rd.toNat fd.toNat l p)=z:=by unfold m9;rw[mL,mL,q8,aw]
  rw[xR,YK ao ps _ mH C.tail];by_cases c:eg z rd fd ps i=0
  .rw [if_pos c,e];have pm:p∈p::ps:=lW ..;by_cases cu:cE z i p<p.2
   .rw [if_pos cu,eM.free pm cu];rfl
   .rw [if_neg cu];by_cases dP:cE z i p<p.2+fd
    .rw [if_pos dP,C.td pm () dP];rfl
    .rw [if_neg dP];by_cases i':(z:Int)-rd<=cE z i p
     .rw [if_pos i',C.ready pm i'];rfl
     .rw[if_neg i'];have cR:eg z rd fd (p::ps) i=0:=by
       rcases qN z rd fd (p::ps) i with e|e|e|e
       .obtain⟨_,q,aF,af⟩:=e;rcases cT.mp aF with k|k
        .rw [k]at af;exact absurd af cu
        .rw [eM.free k af]at c;cases c
       .obtain⟨_,q,aF,af,aj⟩:=e;rcases cT.mp aF with k|k
        .rw [k]at aj;exact absurd aj dP
        .rw [C.tail.td k af aj]at c;cases c
       .obtain⟨_,q,aF,af⟩:=e;rcases cT.mp aF with k|k
        .rw [k]at af;exact absurd af i'
        .rw [C.tail.ready k af]at c;cases c
       .exact e.1
      rw[cR,if_pos rfl]
  .rw [if_neg c,aaq C c,if_neg c]
def amZ(C:eM z rd fd ls ps){i:Nat}(ao:i<z):(hR z rd.toNat fd.toNat ps)[i]?\(bS (eg z rd fd ps i)):=by
 unfold hR;rw[YK ao ps _ (kE ..) C];by_cases c:eg z rd fd ps i=0
 .rw [if_pos c,c,Dn,if_pos ao];rfl
 .rw [if_neg c]
def ali(u:Int):eg z rd fd ps (u%(z:Int))=eg z rd fd ps u:=by
 have:∀p:Int×Int,cE z (u%(z:Int)) p=cE z u p:=λp=>by unfold cE;rw[mz]
 unfold eg;simp only[this]
end
theorem KL(ax:0<z)(sp:List bj)(k:Nat)(s:bj):rh z sp k s<=z/\∀(j:Nat) (s':bj),j≠k->sp[j]?\s'->s'.name=s.name->rh z sp k s<=(s'.b-s.b)%z:=by
 unfold rh;cases h:((cA s.name (sp.eraseIdx k)).map λp=>(p.1-s.b)%z).min? with
 |none=>
  refine(yu _,λj s' aZ aB aL=>?_);have h0:=List.min?_eq_none_iff.mp h;have:(s'.b-s.b)%z∈(cA s.name (sp.eraseIdx k)).map λp=>(p.1-s.b)%z:=dg.mpr ((p'p s'.b s'.n),dg.mpr (s',lu.mpr (ahS.mpr (j,aZ,aB),by simpa using aL),rfl),rfl)
  rw[h0]at this;cases this
 |some m=>
  rw[abZ]at h;refine(?_,λj s' aZ aB aL=>h.2 _ (dg.mpr ((p'p s'.b s'.n),dg.mpr (s',lu.mpr (ahS.mpr (j,aZ,aB),by simpa using aL),rfl),rfl)));let(p,_,e):=dg.mp h.1;show m<=z;rw[<- e];exact Int.le_of_lt (e_ _ ax)
def abC(aD:(ds.map (·.name)).Nodup){d:aQ}(hd:d∈ds):lZ ds d.name\d:=by
 let(i,nq):=pJ hd;unfold lZ;rw[apW];let(ao,e):=cv.mp nq;refine(by simp,i,ao,e,λj aZ=>?_);rw[Xg,decide_eq_false_iff_not];intro z;have:=xB aD (bJ (show j<↑ds by omega)) nq z;omega
theorem ajZ{d:aQ}(h:c5 d=0):c1 d=0:=by
 unfold c5 at h;unfold c1
 revert h
 match d.k with
 |0=>intro h;cases h
 |1=>intro _;rfl
 |_+2=>intro h;cases h
theorem aqn{d:aQ}(h:0<=d.off):0<=c5 d:=by
 unfold c5
 match d.k with
 |0=>show(0:Int)<=2;decide
 |1=>exact h
 |_+2=>show(0:Int)<=1;decide
def af5(aD:(ds.map (·.name)).Nodup)(ax:0<z){sp:List bj}(e6:mM ds z sp=none){d:aQ}(hd:d∈ds)(aW:0<=d.off)(af:∀s∈sp,1<=s.n):eM z (c1 d) (c5 d) d.least (cA d.name sp):=by
 have hw:=abC aD hd;have key:∀(k:Nat) (s:bj),sp[k]?\s->s.name=d.name->d.least<=s.n/\s.n+c5 d+c1 d<=rh z sp k s:=λk s aI aL=>by
  unfold mM at e6;have:=zC.mp e6 (p'p s k) (anZ.mpr aI);unfold vY at this;dsimp only at this;rw[aL,hw]at this;simp only[Option.any_some,x5,decide_eq_true_eq,not_or,Int.not_lt]at this;exact this
 have get:∀p∈cA d.name sp,∃(k:Nat) (s:bj),sp[k]?\s/\s.name=d.name/\p=(p'p s.b s.n):=λp aq=>by
  let(s,aB,rfl):=dg.mp aq;let(aB,aL):=lu.mp aB;let(k,aI):=pJ aB;exact(k,s,aI,by simpa using aL,rfl)
 refine((),(O4 d).1,aqn aW,ajZ,λp aq=>?_,λp aq q aF=>?_)
 .let(k,s,aI,aL,rfl):=get p aq;have a:=key k s aI aL;have b:=(KL (z:=z) () sp k s).1;exact(af s (cC aI),a.1,BR a.2 b)
 .obtain⟨k,s,aI,aL,rfl⟩:=get p aq;obtain⟨j,e,aZ,hm,rfl⟩:=get q aF;by_cases c:j=k
  .subst c;rw[aI]at aZ;cases aZ;exact .inl rfl
  .refine .inr (BR (key k s aI aL).2 ((KL (z:=z) () sp k s).2 j e c aZ (hm.trans aL.symm)),BR (key j e aZ hm).2 ((KL (z:=z) () sp j e).2 k s (λh=>c h.symm) aI (aL.trans hm.symm)))
noncomputable def fz(z:Nat)(sp:List bj)(d:aQ)(u:Int):Nat:=eg z (c1 d) (c5 d) (cA d.name sp) u
def ZU{z:Nat}{sp:List bj}{d:aQ}(C:eM z (c1 d) (c5 d) d.least (cA d.name sp))(u:Int):(oh z sp d)[(u%(z:Int)).toNat]?\(bS (fz z sp d u)):=by
 have ax:=C.hq;have h0:=e8 u (show(z:Int)≠0 by omega);have af:=e_ u ax;unfold oh fz;rw[amZ C (),iF h0,ali]
def Cd{sp:List bj}{d:aQ}(u:Int):fz z sp d u=2↔∃p∈cA d.name sp,(u-p.1)%(z:Int)<p.2:=by
 unfold fz;constructor
 .intro h;rcases qN z (c1 d) (c5 d) (cA d.name sp) u with e|e|e|e
  .exact e.2
  .rw [e.1]at h;cases h
  .rw [e.1]at h;cases h
  .rw [e.1]at h;cases h
 .intro (p,aq,h);exact eM.free aq h
theorem aer{n:Int}{ds:List aQ}{z:Nat}(ax:0<z){sp:List bj}(af:∀s∈sp,1<=s.n/\s.n<=z)(bc:k3 ds sp=none)(cq:nF n z sp ds=none){d e:aQ}(hd:d∈ds)(he:e∈ds)(b8:d.name≠e.name)(hm:mt n d e=true){u:Int}{j:Nat}(aZ:(j:Int)<=hr d e)(hf:fz z sp e u=2):fz z sp d (u-j)≠2:=by
 intro ae;have WQ:∀x∈ds,cA x.name sp≠[]:=λx ai=>by
  unfold k3 at bc;have:=zC.mp bc x.name (dg.mpr (x,ai,rfl));intro z;rw[z]at this;exact this rfl
 have lr:∀x:aQ,∀p∈cA x.name sp,1<=p.2/\p.2<=z:=λx p aq=>by
  let(s,aB,rfl):=dg.mp aq;exact af s (lu.mp aB).1
 have h0:=e8 u (show(z:Int)≠0 by omega);have aj:=e_ u (show 0<(z:Int)by omega);let(t,cV):∃t:Nat,u%(z:Int)=(t:Nat):=((u%(z:Int)).toNat,());have VG:t<z:=()
 let(v1,a1,jY,cu):=Y_ ax (lr d) (WQ d hd) VG;let(v2,a2,iq,dP):=Y_ ax (lr e) (WQ e he) VG;have a0:0<=hr d e:=by unfold hr;split <;> omega
 have d0:v2=0:=by
  have:=(dP 0 ∅).mpr (0,∅,by
   let(p,aq,cD):=(Cd u).mp hf;refine(p,aq,?_);rw[<- cV,show u%(z:Int)-((0:Nat):Int)-p.1=u%(z:Int)-p.1 by omega,mz];exact cD)
  omega
 have c_:v1<=hr d e:=(cu _ a0).mpr (j,aZ,by
  let(p,aq,cD):=(Cd _).mp ae;refine(p,aq,?_);rw[<- cV,show u%(z:Int)-(j:Int)-p.1=u%(z:Int)-((j:Int)+p.1)by omega,mz,show u-((j:Int)+p.1)=u-(j:Int)-p.1 by omega];exact cD)
 unfold nF at cq;have bU:=aih.mp cq d hd;unfold v3 at bU;have bo:=aih.mp bU e he;unfold nw at bo;rw[if_pos (b8,hm)]at bo;have jA:n9 (hr d e) (lx z sp d.name) (lx z sp e.name)=none:=by
  cases h:n9 (hr d e) (lx z sp d.name) (lx z sp e.name)with
  |none=>rfl
  |some x=>rw[h]at bo;cases bo
 unfold n9 at jA;have:=zC.mp jA (p'p (p'p v1 v2) t) (anZ.mpr (by
  rw[apO];exact(a1,a2)))
 simp[d0]at this;omega
noncomputable def nX(cs:List Nat)(i:Nat):Bool:=decide (i=0)||decide (cs[i]? ≠ cs[i-1]?)
noncomputable def jX(cs:List Nat):List Nat:=(el ↑cs).filter (nX cs)
theorem R2{p:Nat->Bool}:∀(n:Nat) (k a b:Nat),((el n).filter p)[k]?\a->((el n).filter p)[k+1]?\b->a<b/\b<n/\p a=true/\p b=true/\∀j,a<j->j<b->p j=false:=λn k a b aJ ae=>by
 have vw:((el n).filter p).Pairwise (· < ·):=asr _ List.pairwise_lt_range;let(uk,az):=cv.mp aJ;let(yA,aE):=cv.mp ae;have p9:a<b:=by
  have:=Iw.mp vw k (k+1) uk yA ();rw[az,aE]at this;exact this
 have Z5:=lu.mp (cC aJ);have jU:=lu.mp (cC ae);refine(p9,pd.mp jU.1,Z5.2,jU.2,λj af aj=>?_);cases aq:p j with
 |false=>rfl
 | true=>
  exfalso;have aeQ:j∈(el n).filter p:=lu.mpr (pd.mpr (by have:=pd.mp jU.1;omega),aq);let(m,hm):=pJ aeQ;let(Sm,b7):=cv.mp hm;rcases aa3 m k with c|c|c
  .have:=Iw.mp vw m k Sm uk c;rw[b7,az]at this;omega
  .subst c;rw[hm]at aJ;cases aJ;omega
  .rcases ajS (k+1) m with eT|eT
   .have:=Iw.mp vw (k+1) m yA Sm eT;rw[aE,b7]at this;omega
   .have:m=k+1:=()
    subst this;rw[hm]at ae;cases ae;omega
def abL{p:Nat->Bool}{n k a:Nat}(h:((el n).filter p)[k]?\a)(aI:0<k):0<a:=by
 have aw:=(cv.mp h).1;have h0:((el n).filter p)[k-1]?\((el n).filter p)[k-1]:=bJ ();have:=R2 n (k-1) _ a h0 (by rw[show k-1+1=k by omega];exact h);omega
noncomputable def k8(z:Nat)(sp:List bj)(d:aQ)(far:Int)(m:Nat):List Nat:=(el m).map λi=>fz z sp d (far+(i:Nat))
def xi{sp:List bj}{d:aQ}{far:Int}{m i:Nat}(h:i<m):(k8 z sp d far m)[i]?\(fz z sp d (far+(i:Nat))):=by
 unfold k8;rw[d7,A1 h];rfl
def GX{sp:List bj}{d:aQ}{far:Int}:↑(k8 z sp d far m)=m:=by unfold k8;rw[a9,kf]
structure Yg(d:aQ)(cs:List Nat):Prop where
 lt:∀c∈cs,c<4
 gF:∀(k a b ca xK:Nat),(jX cs)[k]?\a->(jX cs)[k+1]?\b->cs[a]?\ca->cs[b]?\xK->KX (c1 d) (c5 d) ca xK
 le:∀(k a b ca:Nat),0<k->(jX cs)[k]?\a->(jX cs)[k+1]?\b->cs[a]?\ca->(ca=1->(b:Int)-a=c1 d)/\(ca=2->d.least<=(b:Int)-a)/\(ca=3->(b:Int)-a=c5 d)
theorem aqZ{z:Nat}{sp:List bj}{d:aQ}(C:eM z (c1 d) (c5 d) d.least (cA d.name sp))(far:Int)(m:Nat):Yg d (k8 z sp d far m):=by
 have key:∀k a b,(jX (k8 z sp d far m))[k]?\a->(jX (k8 z sp d far m))[k+1]?\b->a<b/\b<m/\(0<k->fz z sp d (far+(a:Nat)-1)≠fz z sp d (far+(a:Nat)))/\(∀j:Nat,a<=j->j<b->fz z sp d (far+(j:Nat))=fz z sp d (far+(a:Nat)))/\fz z sp d (far+(b:Nat))≠fz z sp d (far+(b:Nat)-1):=λk a b aJ ae=>by
  let(af,aj,a_,b',dn):=R2 _ k a b aJ ae;rw[GX]at aj;have ch:∀i:Nat,0<i->i<m->(nX (k8 z sp d far m) i=true↔fz z sp d (far+(i:Nat))≠fz z sp d (far+(i:Nat)-1)):=λi Ht im=>by
   unfold nX;rw[decide_eq_false (),ov,decide_eq_true_eq,xi im,xi (show i-1<m by omega),show far+((i-1:Nat):Int)=far+(i:Nat)-1 by omega];simp
  refine(af,aj,λaI=>?_,λj DK EJ=>?_,(ch b () aj).mp b')
  .have:=abL aJ aI;exact λz=>(ch a this ()).mp a_ z.symm
  .induction j with
   |zero=>rw[show a=0 by omega]
   | succ j b9=>
    by_cases c:a=j+1
    .rw [c]
    .rw[<- b9 () ()];have:=dn (j+1) () EJ;by_cases e:fz z sp d (far+((j+1:Nat):Int))=fz z sp d (far+((j+1:Nat):Int)-1)
     .rw [e,show far+((j+1:Nat):Int)-1=far+(j:Nat)by omega]
     .rw [(ch (j+1) () ()).mpr e]at this;cases this
 refine(λc ah=>?_,λk a b ca xK aJ ae cK dc=>?_,λk a b ca aI aJ ae cK=>?_)
 .unfold k8 at ah;let(i,_,rfl):=dg.mp ah;exact S6 ..
 .obtain⟨af,aj,_,b',dn⟩:=key k a b aJ ae;rw[xi ()]at cK dc;cases cK;cases dc;have az:=b' (b-1) () ();have aE:far+(b:Nat)-1=far+((b-1:Nat):Int):=()
  have f:=C.acu (far+(b:Nat)-1) (by rw[show far+(b:Nat)-1+1=far+(b:Nat)by omega];exact dn);rw[show far+(b:Nat)-1+1=far+(b:Nat)by omega]at f;have b7:eg z (c1 d) (c5 d) (cA d.name sp) (far+(b:Nat)-1)=fz z sp d (far+(a:Nat)):=by rw[aE];exact az
  rw[b7]at f;exact f
 .obtain⟨af,aj,a_,b',dn⟩:=key k a b aJ ae;rw[xi ()]at cK;cases cK;have:=C.len (a:=far+(a:Nat)) (m:=b-a) () (a_ aI) (fun j aZ=>by
   have:=b' (a+j) () ();rw[show far+((a+j:Nat):Int)=far+(a:Nat)+(j:Nat)by omega]at this;exact this) (by
   have az:=b' (b-1) () ();rw[show far+((b-1:Nat):Int)=far+(b:Nat)-1 by omega]at az;rw[az]at dn;rw[show far+(a:Nat)+((b-a:Nat):Int)=far+(b:Nat)by omega];exact dn)
  rw[show((b-a:Nat):Int)=(b:Int)-a by omega]at this;exact this
noncomputable abbrev f9(d:aQ):List V:=[.str (d5 d.k),.str d.name,.int d.start,.int d.fin,.int d.off,.int d.near,.int d.least]
def i3(H:ar)(wl:Addr)(ds:List aQ):Prop:=∃qs:List Addr,H wl\(.lst (qs.map V.ref))/\↑qs=↑ds/\∀(i:Nat) (q:Addr) (d:aQ),qs[i]?\q->ds[i]?\d->H q\(.tup (f9 d))
def i3.same(h:i3 H wl ds)(s:aC H I):i3 I wl ds:=by
 let(qs,az,aE,al):=h;exact(qs,s _ _ az,aE,λi q d af aj=>s _ _ (al i q d af aj))
def i3.snoc{H:ar}{wl p:Addr}{ds:List aQ}{d:aQ}{qs:List Addr}(cw:H wl\(.lst (qs.map V.ref)))(dH:↑qs=↑ds)
  (al:∀(i:Nat) (q:Addr) (d:aQ),qs[i]?\q->ds[i]?\d->H q\(.tup (f9 d))) (aq:H p=none) :
  i3 (upd (upd H p (.tup (f9 d))) wl (.lst (qs.map V.ref++[⇑p]))) wl (ds++[d]):=by
 have yw:p≠wl:=(cM cw aq).symm;refine(qs++[p],by rw[aP,ew];rfl,by rw[c',c',dH];rfl,λi q e af aj=>?_);rcases h4 af with⟨dS,dF⟩|⟨dS,rfl⟩
 .rcases h4 aj with⟨mq,o_⟩|⟨mq,_⟩
  .have:=al i q e dF o_;rw[aO (d_ this cw (by intro z;cases z)),aO (cM this aq)];exact this
  .omega
 .rcases h4 aj with⟨mq,o_⟩|⟨mq,rfl⟩
  .omega
  .rw [aO yw,aP]
def acZ:∀j,j<5->(qD (aa "road") none (some (j:Nat))).cps.toList=[114,111,97,100].take j:=∅
def aiP:∀j,j<4->(qD (aa "side") none (some (j:Nat))).cps.toList=[115,105,100,101].take j:=∅
noncomputable def ub(k:Nat):Nat:=[99,97,100,98,101].getD k 97
theorem afr(k:Nat):97<=ub k/\ub k<=122:=by
 match k with
 |0=>decide
 |1=>decide
 |2=>decide
 |3=>decide
 |4=>decide
 |k+5=>exact(by show 97<=97;decide,by show 97<=122;decide)
def akr:∀k,k<5->∀j,j<5->ub k=ub j->k=j:=∅
noncomputable def iP(u v k:Nat):Str:=qD (aa "road") none (some (u:Nat))++⟨#[ub k]⟩++qD (aa "side") none (some (v:Nat))
def OD{u v k:Nat}(bx:u<5)(aM:v<4):(iP u v k).cps.toList=[114,111,97,100].take u++[ub k]++[115,105,100,101].take v:=by
 unfold iP;rw[gH,gS,gH,gS,acZ u bx,aiP v aM]
def OL{u v k:Nat}(bx:u<5)(aM:v<4):made (iP u v k) gB 8=true:=by
 have e:=OD (k:=k) bx aM;have aw:↑(iP u v k)=↑(iP u v k).cps.toList:=by simp[n5]
 refine Ml ?_ ?_ ?_
 .rw [aw,e,c',c',CQ];omega
 .rw [aw,e,c',c',fw,fw];simp only[gw,uZ];omega
 .intro c ah;rw[e]at ah;rcases il.mp ah with ah|ah
  .rcases il.mp ah with ah|ah
   .have:=C6 ah;simp only[cT,fq,or_false]at this;omega
   .simp only[cT,fq,or_false]at ah;have:=afr k;omega
  .have:=C6 ah;simp only[cT,fq,or_false]at this;omega
def AT{u v k jb:Nat}(bx:u<5)(aM:v<4)(aI:k<5)(j3:jb<5)(e:iP u v k=iP u v jb):k=jb:=by
 have:=congrArg (λx:Str=>x.cps.toList) e;simp only[OD bx aM]at this;rw[List.append_left_inj,List.append_right_inj]at this;exact akr k aI jb j3 (uy this).1
def amf{n s j:Int}(h0:0<=s)(af:s<n)(aj:0<=j)(a_:j<n-1):s≠(s+1+j)%n:=by
 rw[Int.add_assoc,RY h0 af () ()];split <;> omega
def adF:∀k,k<5->eD (aa "cadbe").cps.toList ((k:Nat):Int)\(ub k):=∅
def ae4{i:Int}(h0:0<=i)(af:i<3):eD [V.str (aa "car"),V.str (aa "foot"),V.str (aa "tram")] i\(.str (d5 i.toNat)):=by
 have:i=0\/i=1\/i=2:=()
 rcases this with rfl|rfl|rfl
 .exact cO (j:=0) rfl
 .exact cO (j:=1) rfl
 .exact cO (j:=2) rfl
structure qd(n:Int)(ds:List aQ):Prop where
 ln:↑ds<=5
 al:∀d∈ds,la n d/\d.off<=8/\d.least<=3
 nm:∃u v,u<5/\v<4/\∀(i:Nat) (d:aQ),ds[i]?\d->d.name=iP u v i
def qd.aD{n:Int}(h:qd n ds):(ds.map (·.name)).Nodup:=by
 let(u,v,bx,aM,al):=h.nm;refine Iw.mpr λi j ao aZ as0 e=>?_
 rw[a9]at ao aZ;rw[nZ,nZ,al i _ (bJ ao),al j _ (bJ aZ)]at e;have:=AT bx aM (by have:=h.ln;omega) (by have:=h.ln;omega) e;omega
def qd.Mt{n:Int}(h:qd n ds)(aL:2<=n/\n<=99)(aw:1<=↑ds/\↑ds<=12):pS n ds:=(aL,aw,λd hd=>(h.al d hd).1,h.aD)
def PI(K:a')(a:Addr)(ns:List Int):bH:=λvs H Q _=>vs=[⇑a]/\Sc K a ns H /\
 ∀cI wl n ds I,aC H I->Sc K a ns I->I cI\(.tup [.int n,⇑wl])->i3 I wl ds->qd n ds->(4<=n/\n<=12)->(1<=↑ds/\↑ds<=5)->Q ⇑cI I
def aa4(a:Addr)(ns:List Int)(n4:↑ns<=63):cj P base T 2 t.Et t.D9 uq (PI K a ns):=by
 refine cn (Bk T a ns n4) λf6=>?_;refine T.IF.ok pX (λvs H Q E h=>?_) (λ_ _ _ s H vs Q E au h=>?_)
 .let(rfl,_):=h;rfl
 let(rfl,S,q):=h;refine(_,(aN (bO (i:=1) pX.aD (bk dd aS (bT f6 au T.gE T.gi.bt T.gK (ag (U 0) (ag aS (ag aS aA))))))
   (aN (bO (i:=2) pX.aD (fE aA))
   (aN (eF fJ rfl (lb rfl T.i9 (ag (bk dd aS (bT f6 au T.gE T.gi.bt T.gK (ag (U 0) (ag aS (ag aS aA))))) aA)) (b6 (i:=3) pX.aD) (aN (bO (i:=4) pX.aD (bP dA (fE (ag Db (ag Db (ag Db aA)))) (bT f6 au T.gE T.gi.bt T.gK (ag (U 0) (ag (bk dd aS (U 3)) (ag aS aA))))))
   (aN (bO (i:=5) pX.aD (bT f6 au T.gE T.gi.bt T.gK (ag (U 0) (ag (bk dd aS (U 3)) (ag (U 1) aA)))))
   (aN (bO (i:=6) pX.aD (bk iu (bk dd (bk dd (U 5) aS) (bT f6 au T.gE T.gi.bt T.gK (ag (U 0) (ag (bk dd aS (U 3)) (ag (bk ih (U 1) aS) aA))))) (U 1)))
   (aN (bO (i:=7) pX.aD (bk fv (bk fv (tE Jx Db s6 (tC (bT f6 au T.gE T.gi.bt T.gK (ag (U 0) (ag aS (ag aS aA)))))) (bP Fs Db (U 3))) (tE Jx Db s6 (tC (bT f6 au T.gE T.gi.bt T.gK (ag (U 0) (ag aS (ag aS aA))))))))
   (aN (bO (i:=8) pX.aD (kr (ag (U 5) (ag (U 6) (ag (bT f6 au T.gE T.gi.bt T.gK (ag (U 0) (ag (bk dd aS (U 3)) (ag aS aA)))) (ag (bT f6 au T.gE T.gi.bt T.gK (ag (U 0) (ag (bk dd aS (U 3)) (ag aS aA)))) aA))))))
   (aY (eu (gL mw qK rl qJ (U 2) (ag (bk TU (bk TU (kr (ag (U 4) (ag (U 7) aA))) (U 8)) (kr (ag (bk dd aS (bT f6 au T.gE T.gi.bt T.gK (ag (U 0) (ag (bk dd aS (U 3)) (ag aS aA))))) aA))) aA))))))))))
   (aY (bR (kr (ag (U 1) (ag (U 2) aA)))))))),?_)
 have ee:∀k:Nat,k<=1000->k<=sizeLine:=λk h=>cH h ∅
 have cU:=hD ns 1 (m:=9) ∅;have dr:=hE ns 1 (m:=9) ∅;have akX:=hD ns 4 (m:=5) ∅;have ZT:=hE ns 4 (m:=5) ∅;have rH:=hD ns 80 (m:=5) ∅;have zr:=hE ns 80 (m:=5) ∅;have v1:=hD ns 81 (m:=4) ∅;have v2:=hE ns 81 (m:=4) ∅;let(u,bx):∃u:Nat,cL ns 80 5=(u:Nat):=((cL ns 80 5).toNat,());let(v,aM):∃v:Nat,cL ns 81 4=(v:Nat):=((cL ns 81 4).toNat,());exists (λaT I=>I=H/\aT=[~~~a,some (.int (4+cL ns 1 9)),none,none,none,none,none,none,none]),4
 ·(nofun; repeat (dsimp only[gD];nofun));exact(S,(),(),∅,bB _ _ (rfl,rfl))
 intro h8 bq (rfl,rfl);subst ba;generalize LR:4+cL ns 1 9=n;have aL:4<=n/\n<=12:=()
 exists (λaT I=>∃wl,bq wl=none/\I=upd bq wl (.lst [])/\aT=[~~~a,some (.int n),~~~wl,none,none,none,none,none,none]),4
 .nofun;exact(gx _,λwl jQ=>bB _ _ (wl,jQ,rfl,rfl))
 intro h8 cc (wl,jQ,rfl,rfl);have lO:=S.new (o:=.lst []) jQ;have s1:aC bq (upd bq wl (.lst [])):=bp jQ;have c_:(upd bq wl (.lst [])) wl\(.lst []):=aP;subst ba;generalize upd bq wl (.lst [])=cc at lO s1 c_⊢;(nofun; repeat (dsimp only[gD];nofun));refine(lO,(),(),∅,(),(),?_);generalize ar':(1+cL ns 4 5).toNat=m;refine dW.range (λi σ I=>Sc K a ns I/\aC bq I/\(∃ds,i3 I wl ds/\(∀d∈ds,la n d/\d.off<=8/\d.least<=3)/\(∀(j:Nat) (d:aQ),ds[j]?\d->d.name=iP u v j)/\↑ds=i)/\∃fN fZ dx gA ej dU,σ=[~~~a,some (.int n),~~~wl,fN,fZ,dx,gA,ej,dU]) ?_ ?_ ?_
 .exact (lO,s1,([],([],c_,rfl,λi q d h=>by simp at h),λd h=>by simp at h,λj d h=>by simp at h,rfl),none,none,none,none,none,none,rfl)
 .rintro i σ I ao a3;ac_rfl
  let(oB,s2,(ds,L,JL,IG,hU),fN,fZ,dx,gA,ej,dU,rfl):=a3;have aky:i<5:=()
  have g1:=hD ns (40+(i:Int)) (m:=n) ();have g2:=hE ns (40+(i:Int)) (m:=n) ();have g3:=hD ns (60+(i:Int)) (m:=n-1) ();have th:=hE ns (60+(i:Int)) (m:=n-1) ();have AN:=hD ns (20+(i:Int)) (m:=3) ∅;have Sy:=hE ns (20+(i:Int)) (m:=3) ∅;have Wk:=hD ns (100+(i:Int)) (m:=9) ();have ark:=hE ns (100+(i:Int)) (m:=9) ();have alY:=hD ns (120+(i:Int)) (m:=9) ∅;have asf:=hE ns (120+(i:Int)) (m:=9) ∅;have arG:=hD ns (140+(i:Int)) (m:=3) ∅;have as9:=hE ns (140+(i:Int)) (m:=3) ∅;subst ba;generalize gJ:cL ns (40+(i:Int)) n=st at g1 g2;generalize HV:(st+1+cL ns (60+(i:Int)) (n-1))%n=fC;have PT:(0<=fC/\fC<n)/\st≠fC:=by
   subst HV;exact((e8 _ (),e_ _ ()),amf g1 g2 g3 th)
  simp only[gu,d4,j',j8,xg];exists (λaT ay=>aC I ay/\Sc K a ns ay/\∃k:Nat,k<3/\aT=[~~~a,some (.int n),~~~wl,some (.int (i:Nat)),some (.str (d5 k)),dx,gA,ej,dU]),1
  ·(nofun; repeat (dsimp only[gD];nofun));refine(∅,λdD eB=>(oB.new eB,(),(),∅,?_));exact(_,aH.of aP,_,ae4 AN Sy,bB _ _ (bp eB,oB.new eB,_,(),rfl))
  intro c8 hN (s5,l7,jb,j3,rfl);subst ba;simp only[d4];exists (λaT ay=>ay=hN/\aT=[~~~a,some (.int n),~~~wl,some (.int (i:Nat)),some (.str (d5 jb)),some (.int st),gA,ej,dU]),1
  ·(nofun; repeat (dsimp only[gD];nofun));rw[gJ];exact(l7,(),(),(),bB _ _ (rfl,rfl))
  intro c8 h7 (rfl,rfl);subst ba;simp only[d4];exists (λaT ay=>ay=h7/\aT=[~~~a,some (.int n),~~~wl,some (.int (i:Nat)),some (.str (d5 jb)),some (.int st),some (.int fC),ej,dU]),1
  ·(nofun; repeat (dsimp only[gD];nofun));rw[HV];exact(l7,(),(),(),(),bB _ _ (rfl,rfl))
  intro c8 ju (rfl,rfl);subst ba;simp only[d4];exists (λaT ay=>ay=ju/\aT=[~~~a,some (.int n),~~~wl,some (.int (i:Nat)),some (.str (d5 jb)),some (.int st),some (.int fC),some (.str (iP u v i)),dU]),1
  ·(nofun; repeat (dsimp only[gD];nofun));rw[bx,aM];have tG:↑(iP u v i)<=8:=((r2 (OL (k:=i) () ())).1).2;unfold iP at tG;rw[gQ,gQ]at tG;refine(l7,(),(),∅,∅,∅,_,adF i aky,ee _ (),l7,(),(),∅,∅,ee _ (by rw[gQ];omega),bB _ _ (rfl,rfl))
  intro c8 Co (rfl,rfl);subst ba;simp only[d4];exists (λaT ay=>aC Co ay/\Sc K a ns ay/\∃np,ay np\(.tup [.int st,.int fC,.int (cL ns (100+(i:Int)) 9),.int (cL ns (120+(i:Int)) 9)])/\aT=[~~~a,some (.int n),~~~wl,some (.int (i:Nat)),some (.str (d5 jb)),some (.int st),some (.int fC),some (.str (iP u v i)),~~~np]),1
  ·(nofun; repeat (dsimp only[gD];nofun));exact(l7,(),(),∅,l7,(),(),∅,∅,λnp qY=>bB _ _ (bp qY,l7.new qY,np,aP,rfl))
  intro c8 tM (uG,ajn,np,qY,rfl);let(qs,cw,dH,al):=(L.same s5).same uG;have afI:la n (jb,iP u v i,st,fC,cL ns (100+(i:Int)) 9,cL ns (120+(i:Int)) 9,1+cL ns (140+(i:Int)) 3):=
   (j3,OL () (),(g1,g2),PT.1,PT.2,(Wk,by show cL ns (100+(i:Int)) 9<=30;omega),(alY,by show cL ns (120+(i:Int)) 9<=30;omega),(by show 1<=1+cL ns (140+(i:Int)) 3;omega,by show 1+cL ns (140+(i:Int)) 3<=60;omega))
  subst ba;(nofun; repeat (dsimp only[gD];nofun));refine(.inl (_,aH.of cw),∅,λdD eB=>?_);let(hx,cK):∃l1:ar,l1=upd tM dD (.tup [.str (d5 jb),.str (iP u v i)]):=(_,rfl);rw[<- cK];have hC:aC tM hx:=by rw[cK];exact bp eB
  have ac5:Sc K a ns hx:=by rw[cK];exact ajn.new eB
  have yO:hx dD\(.tup [.str (d5 jb),.str (iP u v i)]):=by rw[cK];exact aP
  clear cK;refine(_,b1.of yO,_,b1.of (hC _ _ qY),by simp,by show 2+4<=sizeLine;decide,(λz=>by cases z),λ_ dR dy=>?_);let(hF,dc):∃l1:ar,l1=upd hx dR (.tup ([V.str (d5 jb),.str (iP u v i)]++[.int st,.int fC,.int (cL ns (100+(i:Int)) 9),.int (cL ns (120+(i:Int)) 9)])):=(_,rfl);rw[<- dc];have hs:aC hx hF:=by rw[dc];exact bp dy
  have Vf:Sc K a ns hF:=by rw[dc];exact ac5.new dy
  have tA:hF dR\(.tup ([V.str (d5 jb),.str (iP u v i)]++[.int st,.int fC,.int (cL ns (100+(i:Int)) 9),.int (cL ns (120+(i:Int)) 9)])):=by rw[dc];exact aP
  clear dc;refine(Vf,(),(),∅,∅,λiD pV=>?_);let(r3,k7):∃l1:ar,l1=upd hF iD (.tup [.int (1+cL ns (140+(i:Int)) 3)]):=(_,rfl);rw[<- k7];have sc:aC hF r3:=by rw[k7];exact bp pV
  have aqY:Sc K a ns r3:=by rw[k7];exact Vf.new pV
  have ag5:r3 iD\(.tup [.int (1+cL ns (140+(i:Int)) 3)]):=by rw[k7];exact aP
  clear k7;refine(_,b1.of (sc _ _ tA),_,b1.of ag5,by simp,by show 6+1<=sizeLine;decide,(λz=>by cases z),λ_ ama AO=>?_);have GJ:=(hC.trans hs).trans sc;have Dh:=GJ _ _ cw;have aci:∀(i:Nat) (q:Addr) (d:aQ),qs[i]?\q->ds[i]?\d->r3 q\(.tup (f9 d)):=λi q d x y=>GJ _ _ (al i q d x y)
  have Dz:wl≠ama:=cM Dh AO;have Ma:=i3.snoc (d:=(jb,iP u v i,st,fC,cL ns (100+(i:Int)) 9,cL ns (120+(i:Int)) 9,1+cL ns (140+(i:Int)) 3)) Dh dH aci AO;refine(_,by rw[aO Dz];exact Dh,i5 (show ↑(qs.map V.ref)<=12 by rw[a9];omega) ∅,?_,?_,(_,Ma,λd hd=>?_,λj d hd=>?_,by rw[c',hU];rfl),by repeat (first|exact(_,rfl)|refine((_,rfl),?_)))
  .exact (aqY.new AO).set (by rw[aO Dz];exact Dh) (λb_ z e=>by cases e)
  .exact (((((s2.trans s5).trans uG).trans GJ).trans (bp AO)).gm jQ)
  .rcases il.mp hd with z|z
   .exact JL d z
   .rw [j5.mp z];exact(afI,by show cL ns (100+(i:Int)) 9<=8;omega,by show 1+cL ns (140+(i:Int)) 3<=3;omega)
  .rcases h4 hd with⟨_,z⟩|⟨dS,rfl⟩
   .exact IG j d z
   .rw [dS,hU]
 .rintro σ I a3;ac_rfl
  let(oB,s2,(ds,L,JL,IG,hU),fN,fZ,dx,gA,ej,dU,rfl):=a3;subst ba;nofun;refine(∅,λcI ks=>?_);exact q cI wl n ds _ (s2.trans (bp ks)) (oB.new ks) aP (L.same (bp ks)) ((),JL,u,v,(),(),IG) aL ()
def acj(K:a'):bH:=λvs H Q _=>∃n a b d e,vs=[.int n,⇑a,⇑b]/\b1 K H a (f9 d)/\b1 K H b (f9 e)/\la n d/\la n e/\aG H/\Q (.bE (mt n d e)) H
def ag7(K:a'):bH:=λvs H Q _=>∃n a b d e,vs=[.int n,⇑a,⇑b]/\b1 K H a (f9 d)/\b1 K H b (f9 e)/\la n d/\la n e/\∀I,aC H I->Q (.bE (mt n d e)) I
def WG:cj P base T 1 t.IL t.KW GN (acj K):=by
 refine bD.forget (sp:=ag7 K) ?_ λvs H Q E h=>?_
 .exists T.EF.ok yg,9
  let(n,a,b,d,e,rfl,yo,u5,hd,he,q):=h;refine(_,(aN (c0 (cS eZ (bP dT (U 1) aS) (bP dT (U 2) aS) (ct _)) (aY (bR hA)) c7)
   (aN (c0 (f5.pt (ph (cS rm (bP dT (U 1) aS) (kr (ag (bP dT (U 2) aS) (ag (bP dT (U 2) aS) aA))) (by with_unfolding_all rfl)) (pF (cS eZ (bP dT (U 1) aS) (bP dT (U 2) aS) (ct _))))) (aY (bR hA)) c7)
   (aN (bO (i:=3) yg.aD aS)
   (aN (bO (i:=4) yg.aD (bP dT (U 1) aS))
   (aN (Y7 fJ (cS js (U 4) (bP dT (U 1) aS) (ct _)) (aN (bO (i:=4) yg.aD (bk iu (bk dd (U 4) aS) (U 0)))
   (aY (c0 (cS rm (U 4) (kr (ag (bP dT (U 2) aS) (ag (bP dT (U 2) aS) aA))) (by with_unfolding_all rfl)) (aY (bO (i:=3) yg.aD (bk dd (U 3) aS))) c7))))
   (aY (bR (h9 eZ (U 3) aS (ct _))))))))),?_)
  have a2:eD (f9 d) 2\(.int d.start):=cO (j:=2) rfl;have uL:eD (f9 d) 3\(.int d.fin):=cO (j:=3) rfl;have iq:eD (f9 e) 2\(.int e.start):=cO (j:=2) rfl;have vR:eD (f9 e) 3\(.int e.fin):=cO (j:=3) rfl;have f1:=hd.st;have f2:=hd.fC;have eP:=he.st;have f4:=he.fC;refine cX (decide (d.fin=e.fin)) (λQ aV=>?_) (λc=>?_) (λc=>?_)
  .nofun;refine(_,yo,_,uL,_,u5,_,vR,rfl,?_);nofun;exact aV
  .nofun;have:=q H (aC.refl H);unfold mt KM at this;rw[c,ug]at this;exact this
  .have eT:=of_decide_eq_false c;nofun;refine jW (λb I=>aC H I/\b=decide ((d.start=e.start\/d.start=e.fin)\/d.fin=e.start)) (λQ aV=>?_) (λI ⟨a7,ae⟩=>?_) (λI ⟨a7,ae⟩=>?_)
   .nofun;refine(_,yo,_,a2,_,u5,_,iq,_,u5,_,vR,∅,λp aq=>(_,.inr (b1.of aP),rfl,rfl,?_));have s1:aC H (upd H p (.tup [.int e.start,.int e.fin])):=bp aq;rw[BU];by_cases cu:d.start=e.start\/d.start=e.fin
    .rw [if_pos (decide_eq_true cu)];exact aV _ _ (s1,(decide_eq_true (.inl cu)).symm)
    .rw [if_neg (by simpa using cu)];refine(_,yo.same s1,_,uL,_,u5.same s1,_,iq,rfl,?_);refine aV _ _ (s1,?_);nofun;rw[mQ,decide_eq_true_eq,decide_eq_true_eq];exact(.inr,λz=>z.resolve_left cu)
   .nofun;have fL:=of_decide_eq_true ae.symm;have:=q I a7;unfold mt KM at this;rw[c,ov,if_pos ()]at this;exact this
   .nofun;have fL:=of_decide_eq_false ae.symm;refine(_,yo.same a7,_,a2,?_);have Z6:0<=(d.fin-d.start)%n:=e8 _ ();have asC:(d.fin-d.start)%n<n:=e_ _ ();refine N4 (λσ ay=>aC H ay/\∃i:Nat,(i:Int)<=(d.fin-d.start)%n/\σ=[some (.int n),~~~a,~~~b,some (.int (ind n d.start e.start i+ind n d.start e.fin i)),some (.int ((d.start+i)%n))])
     (λσ _=>match σ with|[_,_,_,_,some (.int p)]=>((d.fin-d.start)%n-(p-d.start)%n).toNat|_=>0) ?_ ?_
    .refine⟨a7,0,Z6,?_⟩;have Ht:∀p,ind n d.start p ((0:Nat):Int)=0:=fun p=>by unfold ind;rw[if_neg ()]
     rw[Ht,Ht,show(d.start+((0:Nat):Int))%n=d.start by rw[show d.start+((0:Nat):Int)=d.start by omega];exact jP f1.1 f1.2];rfl
    .rintro σ ay a3;ac_rfl
     let(gC,i,ao,rfl):=a3;have rJ:((d.start+i)%n-d.start)%n=i:=(rI (n:=n) (s:=d.start) (p:=(d.start+i)%n) (j:=i) f1.1 f1.2 (e8 _ ()) (e_ _ ()) () ()).mp rfl;subst ba;refine(!decide ((d.start+i)%n=d.fin),λQ aV=>?_,λdP=>?_,λdP=>?_)
     .nofun;refine(_,yo.same gC,_,uL,rfl,?_);nofun;exact aV
     .have i':¬(d.start+i)%n=d.fin:=by simpa using dP
      have cD:(i:Int)<(d.fin-d.start)%n:=by
       have:(i:Int)≠(d.fin-d.start)%n:=λz=>i' ((rI f1.1 f1.2 f2.1 f2.2 () ()).mpr z.symm)
       omega
      have az:((d.start+i)%n+1)%n=(d.start+((i+1:Nat):Int))%n:=by
       rw[YF,ag' _ (ady n),<- YF];congr 1;omega
      have QZ:((d.start+((i+1:Nat):Int))%n-d.start)%n=((i+1:Nat):Int):=(rI (n:=n) (s:=d.start) (p:=(d.start+((i+1:Nat):Int))%n) (j:=((i+1:Nat):Int)) f1.1 f1.2 (e8 _ ()) (e_ _ ()) () ()).mp rfl;have bU:=Rx (n:=n) (s:=d.start) (p:=e.start) (i:=i) f1.1 f1.2 eP.1 eP.2 () ();have bo:=Rx (n:=n) (s:=d.start) (p:=e.fin) (i:=i) f1.1 f1.2 f4.1 f4.2 () ();have b8:e.start≠e.fin:=he.ne;have vJ:((i+1:Nat):Int)=(i:Int)+1:=()
      nofun;refine((),?_);rw[az];refine jW (λb bq=>aC H bq/\b=decide ((d.start+((i+1:Nat):Int))%n=e.start\/(d.start+((i+1:Nat):Int))%n=e.fin)) (λQ aV=>?_) (λbq ⟨hV,a_⟩=>?_) (λbq ⟨hV,a_⟩=>?_)
      .nofun;refine(_,u5.same gC,_,iq,_,u5.same gC,_,vR,∅,λp aq=>(_,.inr (b1.of aP),rfl,rfl,?_));rw[BU];exact aV _ _ (gC.trans (bp aq),rfl)
      .have vZ:=of_decide_eq_true a_.symm;rw[vJ]at vZ;nofun;refine(hV,(i+1,(),?_,rfl),?_)
       .rw[vJ,bU,bo];rcases vZ with z|z
        .rw [if_pos z,if_neg (λy=>b8 (by rw[<- z,<- y]))];omega
        .rw [if_pos z,if_neg (λy=>b8 (by rw[<- z,<- y]))];omega
       .rw [rJ,QZ];omega
      .have vZ:=of_decide_eq_false a_.symm;rw[vJ]at vZ;nofun;refine(hV,(i+1,(),?_,rfl),?_)
       .rw [vJ,bU,bo,if_neg (λz=>vZ (.inl z)),if_neg (λz=>vZ (.inr z))];omega
       .rw [rJ,QZ];omega
     .have i':(d.start+i)%n=d.fin:=by simpa using dP
      have j_:(d.fin-d.start)%n=i:=by rw[<- i'];exact rJ
      have:=ajv f1 f2 eP f4 eT fL;rw[j_]at this;nofun;rw[this];exact q ay gC
 .let(n,a,b,d,e,af,aj,a_,b',dn,a8,q):=h;exact(a8,n,a,b,d,e,af,aj,a_,b',dn,λI a7=>(a7,q))
structure je(fP H:ar)(gl:Addr)(qs:List Addr)(gs:List (List aQ)):Prop where
 af:H gl\(.lst (qs.map V.ref))
 aj:↑qs=↑gs
 a_:qs.Nodup
 b':gl∉qs
 dn:∀(i:Nat) (q:Addr) (g:List aQ),qs[i]?\q->gs[i]?\g->i3 H q g
 hv:∀q∈qs,fP q=none
theorem je.same(h:je fP H gl qs gs)(s:aC H I):je fP I gl qs gs:=
 (s _ _ h.af,h.aj,h.a_,h.b',λi q g a b=>(h.dn i q g a b).same s,h.hv)
def je.j0(h:je fP H gl qs gs)(s:cW aX H I)(h0:fP aX\(.lst xs))(a0:fP gl=none)(aB:H aX\(.lst ys)):je fP I gl qs gs:=by
 refine(s _ _ (λz=>by rw[z,h0]at a0;cases a0) h.af,h.aj,h.a_,h.b',λi q g a b=>?_,h.hv);let(ws,az,aE,b7):=h.dn i q g a b;have aF:q≠aX:=λz=>by
  have:=h.hv q (cC a);rw[z,h0]at this;cases this
 refine(ws,s _ _ aF az,aE,λk r d x y=>?_);have e:=b7 k r d x y;exact s _ _ (d_ e aB (by intro z;cases z)) e
def i3.put{p q:Addr}(h:i3 H q ds)(aq:H p\(.lst xs))(b8:q≠p):i3 (upd H p (.lst ys)) q ds:=by
 let(qs,af,aj,a_):=h;refine(qs,by rw[aO b8];exact af,aj,λi r d a b=>?_);have e:=a_ i r d a b;rw[aO (d_ e aq (by intro z;cases z))];exact e
theorem je.put{fP H:ar}{gl q w:Addr}{gs:List (List aQ)}{j:Nat}{g:List aQ}{d:aQ}{qs ws:List Addr}(h:je fP H gl qs gs)
  (aF:qs[j]?\q) (a0:gs[j]?\g) (aw:H q\(.lst (ws.map V.ref))) (jQ:↑ws=↑g) (ZH:∀(i:Nat) (r:Addr) (d:aQ),ws[i]?\r->g[i]?\d->H r\(.tup (f9 d))) (hw:H w\(.tup (f9 d))) :
  je fP (upd H q (.lst (ws.map V.ref++[⇑w]))) gl qs (gs.set j (g++[d])):=by
 let(af,aj,a_,b',dn,hv):=h;have FX:gl≠q:=λz=>b' (by rw[z];exact cC aF)
 refine(by rw[aO FX];exact af,by rw[DF];exact aj,a_,b',λi r g' a b=>?_,hv);by_cases c:i=j
 .subst c;rw[aF]at a;cases a;rw[rg (cv.mp a0).1]at b;cases b;refine(ws++[w],by rw[aP,ew];rfl,by rw[c',c',jQ];rfl,λi r e a b=>?_);have key:H r\(.tup (f9 e)):=by
   rcases h4 a with⟨_,dF⟩|⟨dS,rfl⟩
   .rcases h4 b with⟨_,o_⟩|⟨mq,_⟩
    .exact ZH i r e dF o_
    .omega
   .rcases h4 b with⟨mq,_⟩|⟨_,rfl⟩
    .omega
    .exact hw
  rw[aO (d_ key aw (by intro z;cases z))];exact key
 .rw[tT (λe=>c e.symm)]at b;have b8:r≠q:=λe=>by
   subst e;let(a1,jY):=cv.mp a;let(a2,iq):=cv.mp aF;exact c ((Bn a_).mp (jY.trans iq.symm))
  exact(dn i r g' a b).put aw b8
theorem GM{n:Int}{d:aQ}:∀{gs:List (List aQ)} {j:Nat} {g:List aQ},gs[j]?\g->(∀g'∈gs.take j,g'.any (λe=>mt n e d)=true)->g.any (λe=>mt n e d)=false->hB n d gs=gs.set j (g++[d])
 |[],j,g,h,_,_=>by simp at h
 |ru::gs,0,g,h,_,hf=>by
  cases(show ru=g by simpa using h);unfold hB;rw[hf];rfl
 |ru::gs,j+1,g,h,cV,hf=>by
  rw[wF]at h;unfold hB;rw[cV ru (by simp)];show ru::hB n d gs=_;rw[GM h (λg' mC=>cV g' (by rw[List.take_succ_cons];exact fS _ mC)) hf];rfl
theorem T1{n:Int}{d:aQ}:∀{gs:List (List aQ)},(∀g'∈gs,g'.any (λe=>mt n e d)=true)->hB n d gs=gs++[[d]]
 |[],_=>rfl
 |ru::gs,h=>by
  unfold hB;rw[h ru (by simp)];show ru::hB n d gs=_;rw[T1 λg' mC=>h g' (fS _ mC)];rfl
def abY(K:a'):bH:=λvs H Q _=>∃(n:Int) (wl:Addr) (ds:List aQ),vs=[.int n,⇑wl]/\i3 H wl ds/\(∀d∈ds,la n d)/\↑ds<=9/\aG H/\∀gl qs I,aC H I->aG I->H gl=none->je H I gl qs (en n ds)->Q ⇑gl I
def je.new {gl p w:Addr} {d:aQ} (h:je fP H gl qs gs) (h0:aC fP H) (aq:H p=none) (hw:H w\(.tup (f9 d))) :
  je fP (upd (upd H p (.lst [⇑w])) gl (.lst (qs.map V.ref++[⇑p]))) gl (qs++[p]) (gs++[[d]]):=by
 have Ll:gl≠p:=cM h.af aq;have qY:p∉qs:=λz=>by
  let(i,ao):=pJ z;have Ih:i<↑gs:=by rw[<- h.aj];exact(cv.mp ao).1
  let(ws,e,_):=h.dn i p _ ao (bJ Ih);rw[aq]at e;cases e
 refine(by rw[aP,ew];rfl,by rw[c',c',h.aj];rfl,?_,?_,λi q g a b=>?_,λq aF=>?_)
 .refine Xj.mpr (h.a_,by simp,λx ai y bg e=>?_);rw[j5.mp bg]at e;rw[e]at ai;exact qY ai
 .intro z;rcases il.mp z with z|z
  .exact h.b' z
  .exact Ll (j5.mp z)
 .rcases h4 a with⟨dS,dF⟩|⟨dS,rfl⟩
  .rcases h4 b with⟨_,o_⟩|⟨mq,_⟩
   .have L:=h.dn i q g dF o_;have FX:q≠gl:=λz=>h.b' (by rw[<- z];exact cC dF)
    exact(L.same (bp aq)).put (by rw[aO Ll];exact h.af) FX
   .have:=h.aj;omega
  .rcases h4 b with⟨mq,_⟩|⟨_,rfl⟩
   .have:=h.aj;omega
   .refine⟨[w],by rw[aO Ll.symm,aP];rfl,rfl,fun k r e x y=>?_⟩;have aI:k=0:=by have:=(cv.mp x).1;simp at this;exact this
    subst aI;cases x;cases y;rw[aO (d_ hw h.af (by intro z;cases z)),aO (cM hw aq)];exact hw
 .rcases il.mp aF with z|z
  .exact h.hv q z
  .rw [j5.mp z];exact h0.free aq
theorem amL:cj P base T 2 t.Lu t.HU G1 (abY K):=by
 refine cn (WG T) λFA=>?_;exists T.JA.ok vD,9
 let(n,wl,ds,rfl,L,hw,hU,a8,q):=h;let(abS,cw,dH,ah2):=id L;refine(_,(aN (bO (i:=2) vD.aD (fE aA))
   (aN (eF fJ rfl (e5 (U 1)) (SB (i:=3) vD.aD rfl (p5 rfl)) (aN (bO (i:=4) vD.aD hA)
   (aN (eF fJ rfl (e5 (U 2)) (b6 (i:=5) vD.aD) (aY (c0 (f5.pt (wB (Fk (jS (U 4))) (u4 (Fk (Fv (iz rfl (e5 (U 5)) (hi (sc:=br (top 161)) rfl ∅) (N:=["_law_one","_law_places","_law_way"]) (sel:=[none,some 0,some 3]) (ha (M:=["_law_places","_law_ways_here","_law_groups_here","_law_way","_law_put","_law_group"]) ∅) (fR.of (λ_ _ _ _=>(b6 (i:=0) (fk (N:=["_law_one","_law_places","_law_way"]) ∅ rfl))) (λ_ _ _ _=>(_,(x' (jS (bT FA au T.Ox T.EF.bt T.PU (ag (U 1) (ag (U 0) (ag (U 2) aA)))))),by walk_at "B")) (λ_ _ _ _=>(_,(U 0),by walk_at "B")))) (λ_=>rfl)))))) (aN (eu (gL mw qK rl qJ (U 5) (ag (U 3) aA)))
   (aY (bO (i:=4) vD.aD hA))) c7)))
   (aY (c0 (Fk (jS (U 4))) (aY (eu (gL mw qK rl qJ (U 2) (ag (fE (ag (U 3) aA)) aA)))) c7)))))
   (aY (bR (U 2))))),?_)
 exists (λaT I=>aC H I/\aG I/\∃gl,H gl=none/\I gl\(.lst [])/\aT=[some (.int n),~~~wl,~~~gl,none,none,none]),4
 .nofun;exact(gx _,λgl ud=>bB _ _ (bp ud,a8.upd,gl,ud,aP,rfl))
 intro h8 H1 (s1,bY,gl,ud,c_,rfl);subst ba;nofun;refine((_,aH.of (s1 _ _ cw)),?_);refine dW.list (xs:=abS.map V.ref) (λi σ I=>aC H I/\aG I/\(∃qs,je H I gl qs (en n (ds.take i)))/\∃fN fZ dx,σ=[some (.int n),~~~wl,~~~gl,fN,fZ,dx]) ?_ ?_ ?_ ?_
 .exact (s1,bY,([],c_,rfl,Cw,by simp,λi q g h=>by simp at h,λq h=>by simp at h),_,_,_,rfl)
 .intro i σ I ao (a7,_);exact aH.of (a7 _ _ cw)
 .rintro i v σ I aM a3;ac_rfl
  let(s2,cg,(qs,G),fN,fZ,dx,rfl):=a3;let(d3,mW,rfl):=cF aM;have hp:i<↑ds:=by rw[<- dH];exact(cv.mp mW).1
  have hd:ds[i]?\ds[i]:=bJ hp;have Vw:=ah2 i d3 _ mW hd;have adQ:=hw _ (cC hd);have EE:en n (ds.take (i+1))=hB n ds[i] (en n (ds.take i)):=by rw[jn hd,KF]
  have rL:∀g∈en n (ds.take i),∀e∈g,la n e:=λg a0 e he=>by
   have:=(vA n (ds.take i)).mem_iff.mp (acp.mpr (g,a0,he));exact hw e (C6 this)
  have Kd:∀g∈en n (ds.take i),↑g<=9:=λg a0=>by
   have af:=(vA n (ds.take i)).length_eq;have aj:=(akb a0).length_le;rw[fw]at af;omega
  have XE:↑(en n (ds.take i))<=9:=by
   have af:=(vA n (ds.take i)).length_eq;have aj:=F5 (XG n (ds.take i));rw[fw]at af;omega
  subst ba;generalize en n (ds.take i)=gs at G EE rL Kd XE;simp only[gu,d4,j',j8];exists (λaT ay=>ay=I/\aT=[some (.int n),~~~wl,~~~gl,~~~d3,some (.bE false),dx]),1
  .nofun;exact bB _ _ (rfl,rfl)
  intro iO bq (rfl,rfl);subst ba;simp only[d4];exists (λaT cc=>aC H cc/\aG cc/\∃(p:Bool) (dx:Option V),(p=false->je H cc gl qs gs/\∀g'∈gs,g'.any (λe=>mt n e ds[i])=true)/\(p=true->je H cc gl qs (hB n ds[i] gs))/\aT=[some (.int n),~~~wl,~~~gl,~~~d3,some (.bE p),dx]),1
  .nofun;refine((_,aH.of G.af),?_);refine dW.list (xs:=qs.map V.ref) (λj σ cc=>aC H cc/\aG cc/\∃(p:Bool) (dx:Option V),(p=false->je H cc gl qs gs/\∀g'∈gs.take j,g'.any (λe=>mt n e ds[i])=true)/\(p=true->je H cc gl qs (hB n ds[i] gs))/\σ=[some (.int n),~~~wl,~~~gl,~~~d3,some (.bE p),dx]) ?_ ?_ ?_ ?_
   .exact (s2,cg,false,_,λ_=>(G,λg' h=>by simp at h),(λz=>nomatch z),rfl)
   .rintro j σ cc aZ a3;ac_rfl
    let(s4,ez,p,dx,j4,eB,rfl):=a3;subst ba;cases p with
    |false=>exact aH.of (j4 rfl).1.af
    |true=>exact aH.of (eB rfl).af
   .rintro j v σ cc aM a3;ac_rfl
    let(s4,ez,p,dx,j4,eB,rfl):=a3;let(LK,l5,rfl):=cF aM;have JG:j<↑gs:=by rw[<- G.aj];exact(cv.mp l5).1
    have tV:gs[j]?\gs[j]:=bJ JG;have A_:=s4 _ _ Vw;subst ba;simp only[gu,d4,j',j8];refine jW (λb cQ=>aC cc cQ/\aG cQ/\(b=true->p=false/\gs[j].any (λe=>mt n e ds[i])=false)/\(b=false->p=true\/gs[j].any (λe=>mt n e ds[i])=true)) (λQ aV=>?_) (λcQ r=>?_) (λcQ r=>?_)
    .nofun;cases p with
     |true=>
      rw[if_neg ∅];exact aV _ _ (aC.refl _,ez,(λz=>nomatch z),λ_=>.inl rfl)
     | false=>
      rw[if_pos (show(!false)=true from rfl)];let(k',l6):=j4 rfl;let(ws,d0,g6,wC):=k'.dn j LK _ l5 tV;have yB:=cC tV;refine((_,aH.of d0),?_);refine dv.list (xs:=ws.map V.ref) (λk ys cQ=>cQ=cc/\↑ys<=k/\(ys.isEmpty = !((gs[j].take k).any (λe=>mt n e ds[i])))) (cH (show ↑(ws.map V.ref)<=9 by rw[a9,g6];exact Kd _ yB) ∅) (rfl,b0 _,by rw[Bv];rfl) (λk ys cQ aI h=>by let(rfl,aw,_):=h;exact(aH.of d0,aw)) ?_ ?_
      .rintro k x ys cQ ai ⟨rfl,aw,zL⟩ N bc;obtain⟨TX,XH,rfl⟩:=cF ai;have alG:k<↑gs[j]:=by rw[<- g6];exact(cv.mp XH).1
       have Jf:gs[j][k]?\gs[j][k]:=bJ alG;have qI:(gs[j].take (k+1)).any (λe=>mt n e ds[i])=((gs[j].take k).any (λe=>mt n e ds[i])||mt n gs[j][k] ds[i]):=by
        rw[jn Jf,List.any_append];simp
       nofun;refine(Sub.name,n,TX,d3,gs[j][k],ds[i],rfl,b1.of (wC k TX _ XH Jf),b1.of A_,rL _ yB _ (cC Jf),adQ,ez,_,rfl,?_);cases ae:mt n gs[j][k] ds[i]with
       |true=>
        rw[if_pos rfl];exact bc _ _ (rfl,by rw[c',CQ];omega,by rw[qI,ae,EI];simp)
       |false=>
        rw[if_neg ∅];exact bc _ _ (rfl,(),by rw[qI,ae,J0];exact zL)
      .rintro ys cQ ⟨rfl,aw,zL⟩ dR dy;rw[a9,g6,kR]at zL;refine⟨!ys.isEmpty,.inl ⟨ys,aH.of aP,rfl⟩,aV _ _ ⟨bp dy,ez.upd,fun z=>⟨rfl,?_⟩,fun z=>.inr ?_⟩⟩
       .rw [zL]at z;simpa using z
       .rw [zL]at z;simpa using z
    .let(s5,jk,r,_):=r;let(rfl,alB):=r rfl;let(k',l6):=j4 rfl;have Su:=k'.same s5;let(ws,d0,g6,wC):=Su.dn j LK _ l5 tV;have ao2:=GM (n:=n) (d:=ds[i]) tV l6 alB;nofun;refine(.inl (_,aH.of d0),_,d0,i5 (show ↑(ws.map V.ref)<=9 by rw[a9,g6];exact Kd _ (cC tV)) ∅,(s4.trans s5).gm (k'.hv LK (cC l5)),jk.upd,true,(λz=>nomatch z),λ_=>?_,rfl,_,rfl);rw[ao2];exact Su.put l5 tV d0 g6 wC (s5 _ _ A_)
    .obtain⟨s5,jk,_,r⟩:=r;have r:=r rfl;nofun;refine⟨s4.trans s5,jk,p,fun z=>?_,fun z=>(eB z).same s5,rfl,_,rfl⟩;obtain⟨k',l6⟩:=j4 z;refine⟨k'.same s5,fun g' mC=>?_⟩;rw[jn tV]at mC;rcases il.mp mC with mC|mC
     .exact l6 g' mC
     .rw[j5.mp mC];rcases r with r|r
      .rw [z]at r;cases r
      .exact r
   .rintro σ cc a3;ac_rfl
    let(s4,ez,p,dx,j4,eB,rfl):=a3;subst ba;refine bB _ _ (s4,ez,p,dx,λz=>?_,eB,rfl);let(a1,a2):=j4 z;rw[a9,G.aj,kR]at a2;exact(a1,a2)
  intro qZ cc (s4,ez,p,dx,j4,eB,rfl);subst ba;dsimp only;refine cX (!p) (λQ aV=>?_) (λqA=>?_) (λqA=>?_)
  .nofun;exact aV
  .have aq:p=false:=by simpa using qA
   subst aq;let(k',l6):=j4 rfl;have A_:=s4 _ _ Vw;rw[T1 l6]at EE;nofun;refine(.inl (_,aH.of k'.af),∅,λdR dy=>?_);have Dz:gl≠dR:=cM k'.af dy;refine(_,by rw[aO Dz];exact k'.af,i5 (show ↑(qs.map V.ref)<=9 by rw[a9,k'.aj];exact XE) ∅,(s4.trans (bp dy)).gm ud,(ez.upd).upd,(qs++[dR],?_),_,rfl);rw[EE];exact k'.new s4 dy A_
  .have aq:p=true:=by simpa using qA
   subst aq;have k':=eB rfl;nofun;exact(s4,ez,(qs,by rw[EE];exact k'),_,rfl)
 .rintro σ I a3;ac_rfl
  let(s2,cg,(qs,G),fN,fZ,dx,rfl):=a3;subst ba;nofun;rw[a9,dH,kR]at G;exact q gl qs I s2 cg ud G
noncomputable abbrev qV(s:bj):List V:=[.str s.name,.int s.b,.int s.n]
structure SL(H:ar)(aX:Addr)(qs:List Addr)(sp:List bj):Prop where
 af:H aX\(.lst (qs.map V.ref))
 aj:↑qs=↑sp
 aD:qs.Nodup
 yM:aX∉qs
 al:∀(i:Nat) (q:Addr) (s:bj),qs[i]?\q->sp[i]?\s->H q\(.lst (qV s))
def SL.same{sp:List bj}(h:SL H aX qs sp)(s:aC H I):SL I aX qs sp:=(s _ _ h.af,h.aj,h.aD,h.yM,λi q e a b=>s _ _ (h.al i q e a b))
def SL.get{sp:List bj}(h:SL H aX qs sp)(aF:q∈qs):∃xs,H q\(.lst xs):=by
 let(i,ao):=pJ aF;have Ih:i<↑sp:=by rw[<- h.aj];exact(cv.mp ao).1
 exact(_,h.al i q _ ao (bJ Ih))
def SL.snoc{aX p:Addr}{sp:List bj}(h:SL H aX qs sp)(aq:H p=none):SL (upd (upd H p (.lst (qV s))) aX (.lst (qs.map V.ref++[⇑p]))) aX (qs++[p]) (sp++[s]):=by
 have WK:p≠aX:=(cM h.af aq).symm;have qY:p∉qs:=λz=>by
  let(xs,e):=h.get z;rw[aq]at e;cases e
 refine(by rw[aP,ew];rfl,by rw[c',c',h.aj];rfl,?_,?_,λi q e a b=>?_)
 .refine Xj.mpr (h.aD,by simp,λx ai y bg e=>?_);rw[j5.mp bg]at e;rw[e]at ai;exact qY ai
 .intro z;rcases il.mp z with z|z
  .exact h.yM z
  .exact WK (j5.mp z).symm
 .rcases h4 a with⟨dS,dF⟩|⟨dS,rfl⟩
  .rcases h4 b with⟨_,o_⟩|⟨mq,_⟩
   .have k:=h.al i q e dF o_;rw[aO (λz=>h.yM (by rw[<- z];exact cC dF)),aO (cM k aq)];exact k
   .have:=h.aj;omega
  .rcases h4 b with⟨mq,_⟩|⟨_,rfl⟩
   .have:=h.aj;omega
   .rw [aO WK,aP]
theorem SL.set{sp:List bj}{k:Nat}(h:SL H aX qs sp)(aF:qs[k]?\q):SL (upd H q (.lst (qV s))) aX qs (sp.set k s):=by
 have Fg:aX≠q:=λz=>h.yM (by rw[z];exact cC aF)
 refine(by rw[aO Fg];exact h.af,by rw[DF];exact h.aj,h.aD,h.yM,λi r e a b=>?_);by_cases c:i=k
 .subst c;rw[aF]at a;cases a;rw[rg (by rw[<- h.aj];exact(cv.mp aF).1)]at b;cases b;rw[aP]
 .rw[tT (λe=>c e.symm)]at b;have b8:r≠q:=λe=>by
   subst e;let(a1,jY):=cv.mp a;let(a2,iq):=cv.mp aF;exact c ((Bn h.aD).mp (jY.trans iq.symm))
  rw[aO b8];exact h.al i r e a b
def Mj(x:Str)(l r:List bj):cA x (l++r)=cA x l++cA x r:=by
 unfold cA;rw[YZ,ew]
def Zn{x:Str}(h:∀s∈l,s.name≠x):cA x l=[]:=by
 unfold cA;rw[List.filter_eq_nil_iff.mpr λs aB=>by simpa using h s aB];rfl
def Mi(x:Str)(sp:List bj):↑(cA x sp)=(sp.map (·.name)).count x:=by
 unfold cA;rw[a9,List.count,List.countP_map,List.countP_eq_length_filter];congr 1
structure qH(z:Int)(ds:List aQ)(sp:List bj):Prop where
 al:∀s∈sp,s.name∈ds.map (·.name)/\0<=s.b/\s.b<z/\1<=s.n/\s.n<=z
 k2:∀x,↑(cA x sp)<=3
 ln:↑sp<=10
structure A3(z:Int)(ds:List aQ)(i:Nat)(sp:List bj):Prop where
 al:∀s∈sp,s.name∈ds.map (·.name)/\0<=s.b/\s.b<z/\1<=s.n/\s.n<=z
 k2:∀x,↑(cA x sp)<=3
 no:∀(j:Nat) (d:aQ),i<=j->ds[j]?\d->cA d.name sp=[]
 ln:↑sp<=2*i
def A3.step{i:Nat}{sp ff:List bj}{d:aQ}(aD:(ds.map (·.name)).Nodup)(h:A3 z ds i sp)(hd:ds[i]?\d)(aw:↑ff<=2)
  (al:∀s∈ff,s.name=d.name/\0<=s.b/\s.b<z/\1<=s.n/\s.n<=z):A3 z ds (i+1) (sp++ff):=by
 refine(λs aB=>?_,λx=>?_,λj e aZ he=>?_,by rw[c'];have:=h.ln;omega)
 .rcases il.mp aB with aB|aB
  .exact h.al s aB
  .exact (dg.mpr (d,cC hd,(al s aB).1.symm),(al s aB).2)
 .rw[Mj,c'];by_cases c:x=d.name
  .rw [c,h.no i d (b0 _) hd];have:=GU d.name ff;show 0+_<=3;omega
  .rw [Zn (l:=ff) λs aB z=>c (by rw[<- z,(al s aB).1])];exact h.k2 x
 .rw[Mj,h.no j e () he,Zn λs aB z=>?_]
  .rfl
  .rw [(al s aB).1]at z;have:=xB aD hd he z;omega
structure AV(gs:List (List aQ))(z:Int)(sp:List bj):Prop where
 nm:sp.map (·.name)=gs.flatten.map (·.name)
 al:∀s∈sp,0<=s.b/\s.b<z/\1<=s.n/\s.n<=5
def AV.ank{n:Int}{sp:List bj}(h:AV (en n ds) z sp)(aD:(ds.map (·.name)).Nodup)(aw:↑ds<=5)(ax:z<=z')(asT:14<=z'):qH z' ds sp/\↑sp=↑ds:=by
 have pm:(sp.map (·.name)).Perm (ds.map (·.name)):=by rw[h.nm];exact(vA n ds).map _
 have hlen:↑sp=↑ds:=by have:=pm.length_eq;rw[a9,a9]at this;exact this
 refine((λs aB=>(pm.mem_iff.mp (dg.mpr (s,aB,rfl)),?_),λx=>?_,()),hlen)
 .have:=h.al s aB;omega
 .rw [Mi,pm.count_eq];have:=List.nodup_iff_count.mp aD x;omega
theorem qH.set{sp:List bj}{k:Nat}(h:qH z ds sp)(aI:sp[k]?\s)(aL:s'.name=s.name)(ae:0<=s'.b/\s'.b<z/\1<=s'.n/\s'.n<=z):qH z ds (sp.set k s'):=by
 let(ao,e):=cv.mp aI;have Pa:(sp.set k s').map (·.name)=sp.map (·.name):=by
  rw[ajF,aL,<- e];apply List.ext_getElem?;intro j;rw[List.getElem?_set];by_cases c:k=j
  .subst c;rw[if_pos rfl,if_pos (by rw[a9];exact ao),d7,bJ ao];rfl
  .rw [if_neg c]
 refine(λx ai=>?_,λx=>?_,by rw[DF];exact h.ln)
 .rcases UA ai with c|c
  .exact h.al x c
  .rw [c];exact(by rw[aL];exact(h.al s (cC aI)).1,ae)
 .rw [Mi,Pa,<- Mi];exact h.k2 x
def mh(d:aQ):eD (f9 d) 1\(.str d.name):=cO (j:=1) rfl
def FD(d:aQ):eD (f9 d) 6\(.int d.least):=cO (j:=6) rfl
def YW(K:a')(a:Addr)(ns:List Int):bH:=λvs H Q _=>∃(n:Int) (wl:Addr) (ds:List aQ),vs=[⇑a,.int n,⇑wl]/\Sc K a ns H/\i3 H wl ds/\qd n ds/\(1<=↑ds/\↑ds<=5) /\
 ∀(cI aX:Addr) (qs:List Addr) (z:Nat) (sp:List bj) (I:ar),aC H I->Sc K a ns I->I cI\(.tup [.int z,⇑aX])->SL I aX qs sp->qH z ds sp->(10<=z/\z<=85)->Q ⇑cI I
def an6 (a:Addr) (ns:List Int) (n4:↑ns<=63):cj P base T 3 t.Es t.A0 BP (YW K a ns):=by
 refine cn (Bk T a ns n4) λf6=>cn (amL T) λahE=>?_;exists T.M4.ok kT,9
 let(n,wl,ds,rfl,S,L,D,hU,q):=h;refine(_,(aN (bO (i:=3) kT.aD (fE aA))
   (aN (bO (i:=4) kT.aD aS)
   (aN (eF fJ rfl (e5 (bT ahE au T.abF T.JA.bt T.aeA (ag (U 1) (ag (U 2) aA)))) (b6 (i:=5) kT.aD) (aN (bO (i:=6) kT.aD (bk dd aS (bT f6 au T.gE T.gi.bt T.gK (ag (U 0) (ag (bk dd aS (U 4)) (ag aS aA))))))
   (aN (eF fJ rfl (e5 (U 5)) (b6 (i:=7) kT.aD) (aY (eu (gL mw qK rl qJ (U 3) (ag (fE (ag (bP dT (U 7) aS) (ag (U 4) (ag (bk dd (bP dT (U 7) aS) (bT f6 au T.gE T.gi.bt T.gK (ag (U 0) (ag (bk dd aS (f7 iM rfl T.hY hT (ag (U 3) aA))) (ag (bk dd (bk ih (U 6) (bP dT (U 7) aS)) aS) aA))))) aA)))) aA)))))
   (aY (bO (i:=4) kT.aD (bk dd (bk dd (bk dd (U 4) (U 6)) aS) (bT f6 au T.gE T.gi.bt T.gK (ag (U 0) (ag (bk dd aS (U 4)) (ag aS aA))))))))))
   (aN (bO (i:=4) kT.aD (f7 (JP rfl) rfl T.B_ Do (ag (U 4) (ag aS aA))))
   (aN (c0 (cS eZ (bT f6 au T.gE T.gi.bt T.gK (ag (U 0) (ag aS (ag aS aA)))) aS (ct _)) (aN (bO (i:=8) kT.aD (bT f6 au T.gE T.gi.bt T.gK (ag (U 0) (ag aS (ag (f7 iM rfl T.hY hT (ag (U 3) aA)) aA)))))
   (aN (mr (bk iu (bk dd (bP dA (bP dA (U 3) (U 8)) aS) (bT f6 au T.gE T.gi.bt T.gK (ag (U 0) (ag aS (ag aS aA))))) (U 4)) (vr (bP dA (U 3) (U 8)) aS u9))
   (aY (mr (f7 (ak3 rfl) rfl T.N' aop (ag (U 4) (ag (bk dd (bP dA (bP dA (U 3) (U 8)) aS) (bT f6 au T.gE T.gi.bt T.gK (ag (U 0) (ag aS (ag aS aA))))) aA))) (vr (bP dA (U 3) (U 8)) aS u9))))) c7)
   (aN (c0 (cS eZ (bT f6 au T.gE T.gi.bt T.gK (ag (U 0) (ag aS (ag aS aA)))) aS (ct _)) (aN (bO (i:=4) kT.aD (bk dd aS (bT f6 au T.gE T.gi.bt T.gK (ag (U 0) (ag aS (ag aS aA))))))
   (aN (bO (i:=3) kT.aD (fE aA))
   (aY (eF fJ rfl (lb rfl T.i9 (ag (f7 iM rfl T.hY hT (ag (U 2) aA)) aA)) (b6 (i:=8) kT.aD) (aY (eF fJ rfl (lb rfl T.i9 (ag (bk dd aS (bT f6 au T.gE T.gi.bt T.gK (ag (U 0) (ag (bk dd aS (U 8)) (ag aS aA))))) aA)) (b6 (i:=9) kT.aD) (aN (bO (i:=10) kT.aD (bk dd aS (bT f6 au T.gE T.gi.bt T.gK (ag (U 0) (ag (bk dd (bk dd aS (bk s8 aS (U 8))) (U 9)) (ag aS aA))))))
   (aY (eu (gL mw qK rl qJ (U 3) (ag (fE (ag (bP dT (bP dA (U 2) (U 8)) aS) (ag (bT f6 au T.gE T.gi.bt T.gK (ag (U 0) (ag (bk dd (bk dd aS (bk s8 aS (U 8))) (U 9)) (ag (U 4) aA)))) (ag (U 10) aA)))) aA))))))))))) c7)
   (aY (bR (kr (ag (U 4) (ag (U 3) aA))))))))))),?_)
 have ee:∀k:Nat,k<=1000->k<sizeLine:=λk h=>i5 h ∅
 exists (λaT I=>aC H I/\Sc K a ns I/\∃aX,H aX=none/\I aX\(.lst [])/\aT=[~~~a,some (.int n),~~~wl,~~~aX,none,none,none,none,none,none,none]),4
 .nofun;exact(gx _,λaX hH=>bB _ _ (bp hH,S.new hH,aX,hH,aP,rfl))
 intro h8 H1 (s1,lO,aX,hH,c_,rfl);subst ba;exists (λaT I=>I=H1/\aT=[~~~a,some (.int n),~~~wl,~~~aX,some (.int 0),none,none,none,none,none,none]),4
 .nofun;exact bB _ _ (rfl,rfl)
 intro c8 ay (rfl,rfl);have aoU:=XG n ds;have an_:↑(en n ds).flatten=↑ds:=(vA n ds).length_eq;have asb:↑(en n ds)<=5:=by have:=F5 aoU;omega
 subst ba;exists (λaT I=>aC H I/\Sc K a ns I/\(∃(z:Nat) (qs:List Addr) (sp:List bj),SL I aX qs sp/\(∀q∈qs,H q=none)/\AV (en n ds) z sp/\z<=85/\∃ej dU dw,aT=[~~~a,some (.int n),~~~wl,~~~aX,some (.int z),ej,dU,dw,none,none,none])),3
 .nofun;refine(n,wl,ds,rfl,L.same s1,λd hd=>(D.al d hd).1,(),lO.a8,λgl adb bq s3 dh ud G=>?_);have o8:=lO.same s3 dh;refine(gl,rfl,(_,aH.of G.af),?_);refine dW.list (xs:=adb.map V.ref) (λi σ I=>cW aX bq I/\aC H I/\Sc K a ns I/\(∃(z:Nat) (qs:List Addr) (sp:List bj),SL I aX qs sp/\(∀q∈qs,H q=none)/\AV ((en n ds).take i) z sp/\z<=17*i/\∃ej dU dw,σ=[~~~a,some (.int n),~~~wl,~~~aX,some (.int z),ej,dU,dw,none,none,none])) ?_ ?_ ?_ ?_
  .exact (λb u _ e=>e,s1.trans s3,o8,0,[],[],(s3 _ _ c_,rfl,Cw,fq,λi q s h=>by simp at h),λq h=>(by cases h),(rfl,λs h=>(by cases h)),gx _,_,_,_,rfl)
  .intro i σ I ao (ei,_);exact aH.of (G.j0 ei c_ ud (s3 _ _ c_)).af
  .rintro i v σ I aM a3;ac_rfl
   let(ei,a7,vX,z,qs,sp,sa,F_,uX,ax,ej,dU,dw,rfl):=a3;let(hG,fg,rfl):=cF aM;have QG:i<↑(en n ds):=by rw[<- G.aj];exact(cv.mp fg).1
   have IM:(en n ds)[i]?\(en n ds)[i]:=bJ QG;let(ws,v10,v2,v30):=G.dn i hG _ fg IM;have yB:(en n ds)[i]∈en n ds:=nH QG;have ap0:∀d∈(en n ds)[i],d∈ds:=λd hd=>(vA n ds).mem_iff.mp (acp.mpr (_,yB,hd))
   have ar7:↑(en n ds)[i]<=5:=by
    have af:=(akb yB).length_le;omega
   have arV:↑sp+↑(en n ds)[i]<=5:=by
    have af:=congrArg nA uX.nm;rw[a9,a9]at af;have aj:(en n ds).take (i+1)=(en n ds).take i++[(en n ds)[i]]:=jn IM;have a_:↑((en n ds).take (i+1)++(en n ds).drop (i+1)).flatten=↑ds:=by rw[aiC,an_]
    rw[aj,RB,c',RB,c']at a_;simp only[tm,ajw,ow]at a_;omega
   have Fg:hG≠aX:=λz'=>by
    have:=G.hv hG (cC fg);rw[z',c_]at this;cases this
   have v1:=ei _ _ Fg v10;have keep:∀{eQ:ar},cW aX bq eQ->∀(k:Nat) (r:Addr) (d:aQ),ws[k]?\r->(en n ds)[i][k]?\d->eQ r\(.tup (f9 d)):=λpI k r d x y=>pI _ _ (d_ (v30 k r d x y) (s3 _ _ c_) (by intro z;cases z)) (v30 k r d x y)
   have cU:=hD ns (160+(z:Int)) (m:=3) ∅;have dr:=hE ns (160+(z:Int)) (m:=3) ∅;have akX:=hD ns (190+(z:Int)) (m:=9) ∅;have ZT:=hE ns (190+(z:Int)) (m:=9) ∅;subst ba;simp only[gu,d4,j',j8];exists (λaT cQ=>cQ=I/\∃len:Int,(3<=len/\len<=5)/\aT=[~~~a,some (.int n),~~~wl,~~~aX,some (.int z),~~~hG,some (.int len),dw,none,none,none]),0
   ·(nofun; repeat (dsimp only[gD];nofun));exact(vX,(),(),∅,bB _ _ (rfl,_,(),rfl))
   intro J6 cQ (rfl,len,hlen,rfl);subst ba;simp only[d4];exists (λaT eQ=>cW aX bq eQ/\aC H eQ/\Sc K a ns eQ/\∃(qs:List Addr) (ff:List bj),SL eQ aX qs (sp++ff)/\(∀q∈qs,H q=none)/\ff.map (·.name)=(en n ds)[i].map (·.name)/\(∀s∈ff,s.b=z/\1<=s.n/\s.n<=5)/\∃dw,aT=[~~~a,some (.int n),~~~wl,~~~aX,some (.int z),~~~hG,some (.int len),dw,none,none,none]),0
   .nofun;refine((_,aH.of v1),?_);refine dW.list (xs:=ws.map V.ref) (λj σ eQ=>cW aX bq eQ/\aC H eQ/\Sc K a ns eQ/\∃(qs:List Addr) (ff:List bj),SL eQ aX qs (sp++ff)/\(∀q∈qs,H q=none)/\ff.map (·.name)=((en n ds)[i].take j).map (·.name)/\(∀s∈ff,s.b=z/\1<=s.n/\s.n<=5)/\∃dw,σ=[~~~a,some (.int n),~~~wl,~~~aX,some (.int z),~~~hG,some (.int len),dw,none,none,none]) ?_ ?_ ?_ ?_
    .exact (ei,a7,vX,qs,[],by rw[ow];exact sa,F_,rfl,λs h=>(by cases h),_,rfl)
    .intro j σ eQ aZ (pI,_);exact aH.of (pI _ _ Fg v10)
    .rintro j v σ eQ aM a3;ac_rfl
     let(pI,uW,mj,mn,ff,iV,yh,tj,yD,dw,rfl):=a3;let(jV,p3,rfl):=cF aM;have JG:j<↑(en n ds)[i]:=by rw[<- v2];exact(cv.mp p3).1
     have mG:(en n ds)[i][j]?\(en n ds)[i][j]:=bJ JG;have S9:=D.al _ (ap0 _ (cC mG));have ajU:=S9.1.le.1;have Eh:eQ jV\(.tup (f9 (en n ds)[i][j])):=keep pI j jV _ p3 mG;have nV:↑mn=↑sp+j:=by
      rw[iV.aj,c'];have:=congrArg nA tj;rw[a9,a9,fw]at this;omega
     subst ba;generalize (en n ds)[i][j]=d at S9 ajU Eh mG;have az:=hD ns (170+(↑mn:Int)) (m:=len-d.least+1) ();have aE:=hE ns (170+(↑mn:Int)) (m:=len-d.least+1) ();simp only[gu,j',j8];(nofun; repeat (dsimp only[gD];nofun));refine(.inl (_,aH.of iV.af),_,b1.of Eh,_,mh _,_,b1.of Eh,_,FD _,_,.inl (aH.of iV.af),?_);rw[a9];refine(_,b1.of Eh,_,FD _,_,rfl,mj,(),(),(),_,rfl,∅,λp aq=>?_);have zR:aX≠p:=cM iV.af aq;have N6:=iV.snoc (s:=(d.name,z,d.least+cL ns (170+(↑mn:Int)) (len-d.least+1))) aq;rw[jE]at N6;refine(_,by rw[aO zR];exact iV.af,ee _ (by rw[a9];omega),λb u ae e=>?_,(uW.trans (bp aq)).gm hH,(mj.new aq).set (by rw[aO zR];exact iV.af) (λb_ z e=>by cases e),_,_,N6,λr au=>?_,?_,λs aB=>?_,_,rfl)
     .rw [aO ae];exact(bp aq) _ _ (pI b u ae e)
     .rcases il.mp au with h|h
      .exact yh r h
      .rw [j5.mp h];exact uW.free aq
     .rw [jn mG,ew,ew,tj];rfl
     .rcases il.mp aB with h|h
      .exact yD s h
      .rw [j5.mp h];refine(rfl,?_);show 1<=d.least+cL ns (170+(↑mn:Int)) (len-d.least+1)/\d.least+cL ns (170+(↑mn:Int)) (len-d.least+1)<=5;omega
    .rintro σ eQ a3;ac_rfl
     let(pI,uW,mj,mn,ff,iV,yh,tj,yD,dw,rfl):=a3;subst ba;rw[a9,v2,kR]at tj;exact bB _ _ (pI,uW,mj,mn,ff,iV,yh,tj,yD,_,rfl)
   intro nd eQ (pI,uW,mj,mn,ff,iV,yh,tj,yD,dw,rfl);let(z',e2):∃z':Nat,(z:Int)+len+4+cL ns (190+(z:Int)) 9=(z':Nat):=(((z:Int)+len+4+cL ns (190+(z:Int)) 9).toNat,());subst ba;(nofun; repeat (dsimp only[gD];nofun));rw[e2];refine(mj,(),(),∅,pI,uW,mj,z',mn,sp++ff,iV,yh,(?_,λs aB=>?_),(),rfl,_,rfl)
   .rw [jn IM,ew,uX.nm,tj,RB,ew];simp only[tm,ajw,ow]
   .rcases il.mp aB with h|h
    .have:=uX.al s h;omega
    .have:=yD s h;omega
  .rintro σ I a3;ac_rfl
   let(_,a7,vX,z,qs,sp,sa,F_,uX,ax,ej,dU,dw,rfl):=a3;subst ba;rw[a9,G.aj,kR]at uX;rw[a9,G.aj]at ax;exact bB _ _ (a7,vX,z,qs,sp,sa,F_,uX,(),ej,dU,dw,rfl)
 intro iO bq (s3,o8,hq,qs,sp,lQ,XJ,anb,asz,ej,dU,dw,rfl);subst ba;exists (λaT I=>I=bq/\∃z:Nat,(14<=z/\z<=85)/\hq<=z/\aT=[~~~a,some (.int n),~~~wl,~~~aX,some (.int z),ej,dU,dw,none,none,none]),4
 .nofun;by_cases c:hq<14
  .rw [if_pos ()];exact bB _ _ (rfl,14,(),(),rfl)
  .rw [if_neg ()];exact bB _ _ (rfl,hq,(),b0 _,rfl)
 intro qZ cc (rfl,z,ax,rW,rfl);let(iR,hlen):=anb.ank (z':=(z:Int)) D.aD hU.2 () ();subst ba;exists (λaT I=>aC H I/\Sc K a ns I/\(∃sp:List bj,SL I aX qs sp/\qH z ds sp)/\∃fV,aT=[~~~a,some (.int n),~~~wl,~~~aX,some (.int z),ej,dU,dw,fV,none,none]),3
 .refine cX (decide (cL ns 5 3=1)) (λQ aV=>?_) (λah=>?_) (λah=>?_)
  ·(nofun; repeat (dsimp only[gD];nofun));exact(o8,(),(),∅,aV)
  .have nV:↑qs=↑ds:=by rw[lQ.aj,hlen]
   have az:=hD ns 6 (m:=(↑qs:Int)) ();have aE:=hE ns 6 (m:=(↑qs:Int)) ();let(k,aI):∃k:Nat,cL ns 6 (↑qs:Int)=(k:Nat):=((cL ns 6 (↑qs:Int)).toNat,());have HP:k<↑qs:=()
   have oC:qs[k]?\qs[k]:=bJ HP;have CK:sp[k]?\sp[k]:=bJ (by rw[<- lQ.aj];exact HP);simp only[d4];exists (λaT I=>I=cc/\aT=[~~~a,some (.int n),~~~wl,~~~aX,some (.int z),ej,dU,dw,some (.int (k:Nat)),none,none]),1
   ·(nofun; repeat (dsimp only[gD];nofun));refine(_,.inl (aH.of lQ.af),?_);rw[a9,aI];exact(o8,∅,∅,(),bB _ _ (rfl,rfl))
   intro J6 cQ (rfl,rfl);have jB:eD (qs.map V.ref) (k:Int)\(⇑qs[k]):=cO (by rw[d7,oC];rfl);have wo:=lQ.al k _ _ oC CK;subst ba;generalize sp[k]=s at CK wo;have ae:=iR.al s (cC CK);simp only[d4];exists (λaT I=>aC H I/\Sc K a ns I/\(∃s':bj,s'.name=s.name/\s'.n=s.n/\(0<=s'.b/\s'.b<z)/\SL I aX qs (sp.set k s'))/\aT=[~~~a,some (.int n),~~~wl,~~~aX,some (.int z),ej,dU,dw,some (.int (k:Nat)),none,none]),1
   ·(nofun; repeat (dsimp only[gD];nofun));have jY:eD (qV s) 1\(.int s.b):=cO (j:=1) rfl;refine(_,aH.of lQ.af,_,jB,_,rfl,_,aH.of wo,_,jY,o8,∅,∅,∅,_,rfl,(),_,aH.of lQ.af,_,jB,_,rfl,_,wo,1,rfl,bB _ _ (s3.gm (XJ _ (cC oC)),o8.set wo (λb_ z e=>by cases e),((s.name,(s.b+cL ns 7 4)%(z:Int),s.n),rfl,rfl,(e8 _ (),e_ _ ()),lQ.set (s:=(s.name,(s.b+cL ns 7 4)%(z:Int),s.n)) oC),rfl))
   intro nd eQ (jr,mj,(s',bY,cg,dh,iV),rfl);have SE:(sp.set k s')[k]?\s':=rg (by rw[<- lQ.aj];exact HP);have IC:=iV.al k _ _ oC SE;have qQ:=hD ns 8 (m:=3) ∅;have Xl:=hE ns 8 (m:=3) ∅;subst ba;(nofun; repeat (dsimp only[gD];nofun));have iq:eD (qV s') 2\(.int s'.n):=cO (j:=2) rfl;refine(_,aH.of iV.af,_,jB,_,rfl,_,aH.of IC,_,iq,mj,∅,∅,∅,_,rfl,_,aH.of iV.af,_,jB,_,rfl,_,IC,2,rfl,bB _ _ (jr.gm (XJ _ (cC oC)),mj.set IC (λb_ z e=>by cases e),((sp.set k s').set k (s'.name,s'.b,if s'.n+cL ns 8 3<(z:Int)then s'.n+cL ns 8 3 else(z:Int)),iV.set (s:=(s'.name,s'.b,if s'.n+cL ns 8 3<(z:Int)then s'.n+cL ns 8 3 else(z:Int))) oC,?_),_,rfl));have adL:=iR.set CK bY (s':=s') ();refine adL.set SE rfl (dh.1,dh.2,?_);show 1<=(if s'.n+cL ns 8 3<(z:Int)then s'.n+cL ns 8 3 else(z:Int))/\(if s'.n+cL ns 8 3<(z:Int)then s'.n+cL ns 8 3 else(z:Int))<=z;split <;> omega
  .nofun;exact bB _ _ (s3,o8,(sp,lQ,iR),_,rfl)
 intro J6 cQ (s5,l7,(anA,Gf,Z8),fV,rfl);subst ba;exists (λaT I=>aC H I/\Sc K a ns I/\(∃(aX:Addr) (qs:List Addr) (z:Nat) (sp:List bj),SL I aX qs sp/\qH z ds sp/\(10<=z/\z<=85)/\∃fV k6 ko,aT=[~~~a,some (.int n),~~~wl,~~~aX,some (.int z),ej,dU,dw,fV,k6,ko])),3
 .refine cX (decide (cL ns 9 3=1)) (λQ aV=>?_) (λah=>?_) (λah=>?_)
  ·(nofun; repeat (dsimp only[gD];nofun));exact(l7,(),(),∅,aV)
  .have az:=hD ns 10 (m:=31) ∅;have aE:=hE ns 10 (m:=31) ∅;let(y,bg):∃y:Nat,10+cL ns 10 31=(y:Nat):=((10+cL ns 10 31).toNat,());simp only[d4];exists (λaT I=>I=cQ/\aT=[~~~a,some (.int n),~~~wl,~~~aX,some (.int y),ej,dU,dw,fV,none,none]),1
   ·(nofun; repeat (dsimp only[gD];nofun));rw[bg];exact(l7,∅,∅,∅,bB _ _ (rfl,rfl))
   intro nd eQ (rfl,rfl);subst ba;simp only[d4];exists (λaT I=>aC H I/\Sc K a ns I/\∃aX,H aX=none/\I aX\(.lst [])/\aT=[~~~a,some (.int n),~~~wl,~~~aX,some (.int y),ej,dU,dw,fV,none,none]),1
   .nofun;exact(gx _,λaX hH=>bB _ _ (s5.trans (bp hH),l7.new hH,aX,s5.free hH,aP,rfl))
   intro k0 hN (ma,aa',aX,hH,KG,rfl);let(ws,cw,dH,nM):=id L;subst ba;nofun;refine(_,.inl (aH.of (ma _ _ cw)),?_);rw[a9,dH];refine((),(),?_);rw[pN];refine dW.range (λi σ I=>aC H I/\Sc K a ns I/\(∃(qs:List Addr) (sp:List bj),SL I aX qs sp/\A3 y ds i sp)/\∃fV k6 ko,σ=[~~~a,some (.int n),~~~wl,~~~aX,some (.int y),ej,dU,dw,fV,k6,ko]) ?_ ?_ ?_
   .exact (ma,aa',([],[],(KG,rfl,Cw,fq,λi q s h=>by simp at h),(λs h=>(by cases h),λx=>(by show 0<=3;decide),λj d _ _=>rfl,by show 0<=2*0;decide)),_,_,_,rfl)
   .rintro i σ I ao a3;ac_rfl
    let(a7,BF,(LV,L0,K5,wi),fV,k6,ko,rfl):=a3;have g0:ds[i]?\ds[i]:=bJ ao;have fg:ws[i]?\ws[i]:=bJ ();have vJ:=nM i _ _ fg g0;have wj:eD (ws.map V.ref) (i:Int)\(⇑ws[i]):=cO (by rw[d7,fg];rfl);have f1:=hD ns (210+(i:Int)) (m:=2) ∅;have f2:=hE ns (210+(i:Int)) (m:=2) ∅;subst ba;simp only[gu,j',j8,xg];(nofun; repeat (dsimp only[gD];nofun));refine(BF,(),(),∅,(),(),?_);generalize hm:(1+cL ns (210+(i:Int)) 2).toNat=m;refine dW.range (λj σ ju=>aC H ju/\Sc K a ns ju/\(∃(qs:List Addr) (ff:List bj),SL ju aX qs (L0++ff)/\↑ff=j/\∀s∈ff,s.name=ds[i].name/\0<=s.b/\s.b<y/\1<=s.n/\s.n<=y)/\∃k6 ko,σ=[~~~a,some (.int n),~~~wl,~~~aX,some (.int y),ej,dU,dw,some (.int (i:Nat)),k6,ko]) ?_ ?_ ?_
    .exact (a7,BF,(LV,[],by rw[ow];exact K5,rfl,λs h=>(by cases h)),_,_,rfl)
    .rintro j σ ju aZ a3;ac_rfl
     let(wU,y4,(U1,ff,rD,Vn,Nj),k6,ko,rfl):=a3;have g1:=hD ns (240+2*(i:Int)+(j:Int)) (m:=5) ∅;have g2:=hE ns (240+2*(i:Int)+(j:Int)) (m:=5) ∅;have g3:=hD ns (220+2*(i:Int)+(j:Int)) (m:=(y:Int)) ();have th:=hE ns (220+2*(i:Int)+(j:Int)) (m:=(y:Int)) ();subst ba;simp only[gu,d4,j',j8,xg];exists (λaT h7=>h7=ju/\aT=[~~~a,some (.int n),~~~wl,~~~aX,some (.int y),ej,dU,dw,some (.int (i:Nat)),some (.int (j:Nat)),some (.int (1+cL ns (240+2*(i:Int)+(j:Int)) 5))]),1
     ·(nofun; repeat (dsimp only[gD];nofun));exact(by unfold oP;omega,y4,(),(),∅,bB _ _ (rfl,rfl))
     intro arb Co (rfl,rfl);subst ba;(nofun; repeat (dsimp only[gD];nofun));refine(.inl (_,aH.of rD.af),_,aH.of (wU _ _ cw),_,wj,_,rfl,_,b1.of (wU _ _ vJ),_,mh _,by unfold oP;omega,y4,(),(),(),∅,λp aq=>?_);have zR:aX≠p:=cM rD.af aq;have FW:↑U1<=12:=by rw[rD.aj,c'];have:=wi.ln;omega
     have Vh:=rD.snoc (s:=(ds[i].name,cL ns (220+2*(i:Int)+(j:Int)) y,1+cL ns (240+2*(i:Int)+(j:Int)) 5)) aq;rw[jE]at Vh;refine(_,by rw[aO zR];exact rD.af,ee _ (by rw[a9];omega),(wU.trans (bp aq)).gm hH,(y4.new aq).set (by rw[aO zR];exact rD.af) (λb_ z e=>by cases e),(_,_,Vh,by rw[c',Vn];rfl,λs aB=>?_),_,rfl);rcases il.mp aB with h|h
     .exact Nj s h
     .rw [j5.mp h];refine(rfl,g3,th,?_);show 1<=1+cL ns (240+2*(i:Int)+(j:Int)) 5/\1+cL ns (240+2*(i:Int)+(j:Int)) 5<=(y:Int);omega
    .rintro σ ju a3;ac_rfl
     let(wU,y4,(U1,ff,rD,Vn,Nj),k6,ko,rfl):=a3;subst ba;exact(wU,y4,(_,_,rD,wi.step D.aD g0 () Nj),_,_,_,rfl)
   .rintro σ I a3;ac_rfl
    let(a7,BF,(LV,L0,K5,wi),fV,k6,ko,rfl):=a3;subst ba;exact bB _ _ (a7,BF,aX,LV,y,L0,K5,(wi.al,wi.k2,by have:=wi.ln;omega),(),_,_,_,rfl)
  .nofun;exact bB _ _ (s5,l7,aX,qs,z,anA,Gf,Z8,(),_,_,_,rfl)
 intro nd eQ (jr,mj,aaj,mn,Wf,amE,iV,amQ,HN,fV,k6,ko,rfl);subst ba;nofun;refine(∅,λcI ks=>?_);exact q cI aaj mn Wf amE _ (jr.trans (bp ks)) (mj.new ks) aP (iV.same (bp ks)) amQ HN
section
variable{w:World}{K:a'}{av:Str->Option Value}{t:bA}{H:ar}{a c ak p lm un:Addr}{z:Int}
def Cl(T:Txt w K av t)(e:H a\(.ins t.g_ ak (nf c z p lm un))):ix K H a (aa "crossing") ⇑c:=(_,ak,_,e,T.qg,T.Uv,kI z7 0 (Bo ..) ∅ rfl)
def VS(T:Txt w K av t)(e:H a\(.ins t.g_ ak (nf c z p lm un))):ix K H a (aa "size") (.int z):=(_,ak,_,e,T.qg,T.WH,kI z7 1 (Bo ..) ∅ rfl)
end
def pB.get{p:Addr}(h:pB H p ds f ↑ds)(aD:(ds.map (·.name)).Nodup){i:Nat}{d:aQ}(hd:ds[i]?\d):∃r,gq H p (.str d.name) (some ⇑r)/\H r\(f d):=by
 let(rs,aw,aq,al):=h;have ao:i<↑rs:=by rw[aw];exact(cv.mp hd).1
 have au:rs[i]?\rs[i]:=bJ ao;refine(rs[i],?_,al i _ d au hd);have:=gq.k (k:=b5 d.name) aq;rw[Nx aD hd au]at this;exact this
noncomputable def h5(z:Nat)(sp:List bj)(d:aQ)(turn:Int):Str:=((oh z sp d)[(turn%(z:Int)).toNat]?).getD (aa "")
def ahR(t:bA):bH:=λvs H Q _=>∃(pl c:Addr) (n:Int) (ds:List aQ) (z:Nat) (sp:List bj) (i:Nat) (d:aQ) (turn:Int),vs=[⇑pl,.str d.name,.int turn]/\h_ t H pl c n ds z sp/\0<z/\ds[i]?\d/\Q (.str (h5 z sp d turn)) H
def ai0(t:bA):bH:=λvs H Q _=>∃(pl c:Addr) (n:Int) (ds:List aQ) (z:Nat) (sp:List bj) (i:Nat) (d:aQ) (m:Int),vs=[⇑pl,.str d.name]/\h_ t H pl c n ds z sp/\z<=1000/\ds[i]?\d/\(m∈ft z sp d.name/\∀k∈ft z sp d.name,k<=m)/\∀p,H p=none->Q ⇑p (upd H p (.tup [.int m,.int ((ft z sp d.name).idxOf m:Nat)]))
def zM{sp:List bj}{x:Str}:↑(ft z sp x)=z:=by
 unfold ft;rw[Dm,oi]
def an':cj P base T 3 t.GQ t.Mz lj (ahR t):=by
 refine cn (ro T) λjx=>?_;exists T.F1.ok apR,9
 let(pl,c,n,ds,z,sp,i,d,turn,rfl,da,ax,hd,q):=h;let(ak,p,lm,un,dI,C,_,acA,_):=da.at_;let((hQ,_),uj,wl,aD,az,_,_):=id C;have bx:=iU au;refine(_,(aN (eu (e0 (dJ (U 0) rfl) T.g5 T.oA jx au T.oq .nil cJ (ag (U 1) aA)))
   (aY (bR (bP dA (j7 bx (dJ (U 0) rfl) (U 1) (λ_ _=>rfl)) (bk iu (U 2) (dJ (U 0) rfl)))))),?_)
 nofun;refine(_,Cl T dI,_,rfl,_,_,az,jl _ _ _ ∅,c,n,ds,i,d,rfl,C,hd,λa W=>?_);let(r,a0,ua):=acA.get hQ hd;have h0:=e8 turn (show(z:Int)≠0 by omega);have af:=e_ turn (show(0:Int)<z by omega);have hlen:↑(oh z sp d)=z:=wH _ _ _ _;have aZ:(turn%(z:Int)).toNat<↑(oh z sp d):=by rw[hlen];omega
 nofun;refine(_,W4 T dI,_,rfl,_,a0,_,VS T dI,_,rfl,(),_,rfl,_,aH.of ua,.str (h5 z sp d turn),?_,q);have e:=cO (xs:=bz (oh z sp d)) (j:=(turn%(z:Int)).toNat) (v:=.str (h5 z sp d turn)) (by unfold bz h5;rw[d7,bJ aZ];rfl);rwa[iF h0]at e
def aid:cj P base T 3 t.F4 t.J3 tN (ai0 t):=by
 refine cn (ro T) λjx=>?_;exists T.Kz.ok V1,9
 let(pl,c,n,ds,z,sp,i,d,m,rfl,da,ax,hd,hm,q):=h;let(ak,p,lm,un,dI,C,_,_,I0):=da.at_;let((hQ,_),uj,wl,aD,az,_,_):=id C;have bx:=iU au;refine(_,(aN (eu (e0 (dJ (U 0) rfl) T.g5 T.oA jx au T.oq .nil cJ (ag (U 1) aA)))
   (aN (bO (i:=2) V1.aD (f7 (ZM rfl) rfl T.B_ Do (ag (j7 bx (dJ (U 0) rfl) (U 1) (λ_ _=>rfl)) aA)))
   (aY (bR (kr (ag (U 2) (ag (gL mw B2 Y8 acT (j7 bx (dJ (U 0) rfl) (U 1) (λ_ _=>rfl)) (ag (U 2) aA)) aA))))))),?_)
 nofun;refine(_,Cl T dI,_,rfl,_,_,az,jl _ _ _ ∅,c,n,ds,i,d,rfl,C,hd,λa W=>?_);let(r,a0,ua):=I0.get hQ hd;nofun;exact(_,DJ T dI,_,rfl,_,a0,_,rfl,_,aH.of ua,m,hm.1,hm.2,_,DJ T dI,_,rfl,_,a0,.inl (_,aH.of ua),_,rfl,_,aH.of ua,hm.1,by rw[zM];exact ax,∅,q)
def pB.same{p:Addr}{n:Nat}(h:pB H p ds f n)(s:aC H I):pB I p ds f n:=by
 let(rs,aw,aq,al):=h;exact(rs,aw,s _ _ aq,λi r d af aj=>s _ _ (al i r d af aj))
theorem h_.same{t:bA}{n:Int}{sp:List bj}(h:h_ t H a c n ds z sp)(s:aC H I):h_ t I a c n ds z sp:=by
 let(ak,p,lm,un,e,C,L,sm,Ei):=h.at_;exact(ak,p,lm,un,s _ _ e,C.same s,L.same s,sm.same s,Ei.same s)
def aqu(t:bA):bH:=λvs H Q _=>∃(pl c:Addr) (n:Int) (ds:List aQ) (z:Nat) (sp:List bj) (d:aQ) (turn v:Int),vs=[⇑pl,.str d.name,.int turn]/\h_ t H pl c n ds z sp/\0<z/\d∈ds/\(ft z sp d.name)[(turn%(z:Int)).toNat]?\v/\Q (.int (turn+v)) H
def adR:cj P base T 3 t.IX t.G7 lj (aqu t):=by
 refine cn (ro T) λjx=>?_;exists T.IU.ok alQ,9
 let(pl,c,n,ds,z,sp,d,turn,v,rfl,da,ax,hd,aM,q):=h;let(ak,p,lm,un,dI,C,_,_,I0):=da.at_;let((hQ,_),uj,wl,aD,az,_,_):=id C;let(i,ao):=pJ hd;have bx:=iU au;refine(_,(aN (eu (e0 (dJ (U 0) rfl) T.g5 T.oA jx au T.oq .nil cJ (ag (U 1) aA)))
   (aY (bR (bk dd (U 2) (bP dA (j7 bx (dJ (U 0) rfl) (U 1) (λ_ _=>rfl)) (bk iu (U 2) (dJ (U 0) rfl))))))),?_)
 nofun;refine(_,Cl T dI,_,rfl,_,_,az,jl _ _ _ ∅,c,n,ds,i,d,rfl,C,ao,λa W=>?_);let(r,a0,ua):=I0.get hQ ao;have h0:=e8 turn (show(z:Int)≠0 by omega);nofun;refine(_,DJ T dI,_,rfl,_,a0,_,VS T dI,_,rfl,(),_,rfl,_,aH.of ua,.int v,?_,_,rfl,q);have e:=cO (xs:=(ft z sp d.name).map V.int) (j:=(turn%(z:Int)).toNat) (v:=.int v) (by rw[d7,aM];rfl);rwa[iF h0]at e
unseal L2.da L2.bw L2.gv L2.g9 L2.h6 L2.f5
section
open PySem.Spec PyProof.Rows
theorem YA{prog:Program}{w:World}:∀{aK:List DictEntry} {bF:List Str},bW (bF.map V.str) (aK.map (·.key))->Pairs (strKind prog w) aK (bF.zip (aK.map (·.val)))
 |[],[],_=>.nil
 |e::aK,k::bF,.cons r t=>by
  let(cB,az):=(show ∃t,e.key=qF k t from r);exact .cons (by show(strKind prog w).is k e.key=true;rw[az];exact strKind_is prog w k cB) rfl (YA t)
def aoC{bF:List Str}{aK:List DictEntry}(h:bW (bF.map V.str) (aK.map (·.key))):↑bF=↑aK:=by
 have:=↑h;rwa[a9,a9]at this
section
variable{X:a6}
def ajm{bF:List Str}(ah:X.calm=true)(D:Ka X.w X.K a bF)(aD:bF.Nodup)(ax:↑bF<=100):lh X (.type "list") (λxs H Q=>xs=[⇑a]/\∀l,H l=none->Q ⇑l (upd H l (.lst (bz bF)))):=by
 intro ab s σ H xs us Q J r h;let(rfl,q):=h;let(u,rfl,ed):=k1 r;cases ed;let(aK,n,aB,aw,aI,aM):=D;have hlen:=aoC aM;have JM:↑(bF.zip (aK.toList.map (·.val)))=↑bF:=by rw[Mg,a9];omega
 have v':(bF.zip (aK.toList.map (·.val))).map (·.1)=bF:=by rw[List.map_fst_zip (by rw[a9];omega)]
 have bl:s.heap.DictAt (strKind X.prog X.w) a (bF.zip (aK.toList.map (·.val))) n:=by
  refine(_,aK,J.es _ _ aw,(rfl,rfl,rfl),rfl,λe he=>?_,YA aM,by rw[v'];exact aD);let(x,t,az,aE):=aI.all e (ajB.mpr he);exact(x,by rw[az];exact strKind_is X.prog X.w x t,aE)
 refine alr (PySem.W.kdl_dict (knd:=strKind X.prog X.w) aB) (J.ok.hd ah) bl (by rw[JM];exact cH ax ∅) λh' cB acc c j3 e6 nL=>?_
 refine(⇑_,_,J.laid (o:=.lst (bz bF)) (t':=cB) j3 (b0 _) (by unfold bz;rw[a9];exact cH ax ∅,acc.toList,c,?_,e6),rfl,q _ (J.bf.fresh (b0 _)));have og:=He (f:=λi=>V.str (bF.getD i (aa ""))) (λi v aM=>by
  let(k,x,az,aE):=aM;have b7:bF[i]?\k:=by
   have:=congrArg (Option.map (·.1)) az;rw[<- d7,v']at this;exact this
  show bN (V.str (bF.getD i (aa ""))) v;rw[gG,b7];exact ap5 aE) nL
 have kD:(el ↑(bF.zip (aK.toList.map (·.val)))).map (λi=>V.str (bF.getD i (aa "")))=bz bF:=by
  rw[JM];unfold bz;refine q7 (by simp) λi af aj=>?_
  rw[nZ,Sk,nZ,gG,bJ (by simpa using aj)];rfl
 rw[kD]at og;exact og
noncomputable def zZ(z y:Str):List V:=match m' z y 0 ↑z 1 with|i::_=>[.str (uc z 0 i),.str y,.str (uc z (i+↑y) ↑z)]|[]=>[.str z,.str nN,.str nN]
def adB:V->List V->ar->cz->Prop:=λx vs H Q=>∃z y,x=.str z/\vs=[.str y]/\(↑y==0)=false/\↑z<=sizeLine/\∀p,H p=none->Q ⇑p (upd H p (.tup (zZ z y)))
theorem apS:nv X "str.partition" adB:=by
 intro ab s σ H x xs v us Q J bh cf h;let(z,y,rfl,rfl,bg,ax,q):=h;let(t,rfl):=bh;let(u,rfl,ed):=k1 cf;let(qC,rfl):=ed;refine call_meets ain (typeIs_str _ _ _) PySem.F.entry_str_partition (PySem.F.args_str_partition_2 _ _) (meets_str_partition z y t qC bg ax) ?_;unfold zZ at q
 revert q
 cases m' z y 0 ↑z 1 with
 |nil=>
  intro q;exact(.ref ↥s,_,J.laid (t':=s.toks+1) (o:=.tup [.str z,.str nN,.str nN]) (λb b_ q=>dX _ q) (b0 _) ((by show 3<=sizeLine;decide,_,e7 _ rfl,rfl),[.str z t,.str nN s.toks,.str nN s.toks],.cons (_,rfl) (.cons (_,rfl) (.cons (_,rfl) .nil)),(_,e7 _ rfl,rfl,_,rfl)),rfl,q _ (J.bf.fresh (b0 _)))
 |cons i r=>
  intro q;exact(.ref ↥s,_,J.laid (t':=s.toks+1+1) (o:=.tup [.str (uc z 0 i),.str y,.str (uc z (i+↑y) ↑z)]) (λb b_ q=>dX _ q) (b0 _) ((by show 3<=sizeLine;decide,_,e7 _ rfl,rfl),[.str (uc z 0 i) s.toks,.str y qC,.str (uc z (i+↑y) ↑z) (s.toks+1)],.cons (_,rfl) (.cons (_,rfl) (.cons (_,rfl) .nil)),(_,e7 _ rfl,rfl,_,rfl)),rfl,q _ (J.bf.fresh (b0 _)))
end
end
theorem ano(ai:X.df=λ_ _=>False)(ae:g9 X body cy):gv X (.Try body (h0::aB) [] [] pos) cy:=by
 intro ab s σ H D J h;refine wpAny_Try_except (wpAny_mono (ae ab s σ H D J h) (λf s1 q=>?_) λe s1 q=>?_)
 .cases f with
  |next=>exact wpAny_execs_nil q
  |brk=>exact q
  |cont=>exact q
  |ret u=>exact q
 .rw [ai]at q;exact q.elim
section
open PySem.Spec PyProof.Rows
noncomputable def Itm(d:Addr)(o:Obj)(kvs:List (Key×V)):iE:=
 (λi H=>H d\(.eO o (.bL kvs))/\i<↑kvs,λi H v I=>∃p k x,H p=none/\v=⇑p/\kvs[i]?\(p'p k x)/\I=upd H p (.tup [dC k,x]),λi H=>H d\(.eO o (.bL kvs))/\↑kvs<=i)
theorem ap9{kvs:List (Key×V)}{vs:List (Key×Value)}(r:e1 kvs vs){i:Nat}{k:Key}{x:V}(h:kvs[i]?\(p'p k x)):∃u,vs[i]?\(p'p k u)/\bN x u:=by
 induction r generalizing i with
 |nil=>simp at h
 | cons aq _ b9=>
  cases i with
  |zero=>
   cases h;exact(_,congrArg some (Prod.ext aq.1.symm rfl),aq.2)
  |succ i=>exact b9 h
def EQ{P:Program}{w:World}{K:a'}{aK:List Expr}{kb}{pos:Pos}{d it:Addr}{o:Obj}{ep:Nat}{kvs:List (Key×V)}{vs:List (Key×Value)}(b8:d≠it)(rel:e1 kvs vs)
  (bl:∀h:Heap,h.get? d\o->h.DictAt (hh P w) d vs ep):pv P w K (.Tuple aK kb pos) (Itm d o kvs) [it] it (λi h=>∃ok di,IsItemIter h it d i ↑vs ep ok di)where
 mem:=by simp
 obj:=λi h ⟨ok,di,he⟩ b ae=>by
  have e:b=it:=by simpa using ae
  subst e;exact(_,he,λv z=>by
   have z':Gd _=IY v:=z;cases z')
 keep:=λi h h' ⟨ok,di,he⟩ k=>(ok,di,k it (by simp) _ he)
 item:=by
  intro X d9 hw eS ah i ab s σ H E J hf ⟨ok,di,he⟩ a0;subst d9 hw eS;let(aF,ai):=a0;have nO:s.heap.get? d\o:=(J.bf d _ aF).1;let((k,x),VC):∃q,kvs[i]?\q:=(_,bJ ai);let(u,bx,ed):=ap9 rel VC;refine wpAny_pyNext_items_item he (bl _ nO) bx λkey af Hg tR LI oG FU=>(_,rfl,?_)
  refine wpAny_letOwnedTupleGo_items tR λaj H5 fH=>?_
  replace fH:wu it af aj:=fH;have wN:it<↥s:=dO he;have aI:∀b o,b∉[it]->s.heap.get? b\o->aj.get? b\o:=λb o ae q=>by
   have fL:b≠it:=λz=>ae (by simp[z])
   exact fH.extBut _ _ fL (FU b o fL q)
  have aU:Inv X ab σ H {s with heap:=aj,toks:=s.toks}:=J.Fu aI hf;have gF:h2 X ab H ↥s:=J.mv (b0 _) (J.bf.fresh (b0 _));have zq:aj.get? ↥s=some {cls:=.type "tuple",data:=.seq #[key,u]}:=(fH.2 _ (C8 wN)).trans LI;have bK:=aU.adopt (o:=.tup [dC k,x]) gF ((by show 2<=sizeLine;decide,_,zq,rfl),[key,u],.cons (We Hg) (.cons ed .nil),(_,zq,rfl,_,rfl));refine(.ref ↥s,_,bK,rfl,(_,k,x,gF.1,rfl,VC,rfl),(_,_,H5),λb ae=>?_);have e:b=it:=by simpa using ae
  subst e;rw[aO (fM wN)];exact(hf b ae).1
 done:=by
  intro X d9 hw eS ah i ab s σ H E J hf ⟨ok,di,he⟩ a0;subst d9 hw eS;let(aF,ai):=a0;have nO:s.heap.get? d\o:=(J.bf d _ aF).1;exact wpAny_pyNext_items_end (J.ok.hd ah) he (bl _ nO) (by rw[aaV];rw[<- ↑rel];exact ai) λh' dc=>(rfl,J.Fu (t':=s.toks) (λb o ae q=>dc b o (λz=>ae (by simp[z])) q) hf)
 self:=λ_ _ _ _ _ ⟨_,_,he⟩ h=>PySem.W.kcp_self he h
def X9(dp:TE):TI:=λσ H R=>dp σ H λx H1=>∃p d kvs,x=⇑p/\H1 p\(.ext (mY p d))/\H1 d\(.bL kvs)/\∀o,R (Itm d o kvs) (upd H1 d (.eO o (.bL kvs)))
def aiT{kb}{dp:TE}(aw:bw X l dp):l9 X (.Tuple aK kb Ai) l (X9 dp):=by
 intro ab s σ H R J h;refine bG (aw ab s σ H _ J h) λv s1 ⟨x,H1,aU,bX,bM⟩=>?_
 let(p,d,kvs,e,ep,ia,q):=bM;subst e;cases bX;let(_,hd,vs,rel,c9):=t7 aU.bf ia;let(Wr,dat):=c9.dictAt;let(o,yt,g,rest):=id dat;have bK:=UL aU ia g;have aM:s1.heap.IsItemsView p d:=(aU.bf p _ ep).1;refine wpAny_pyIter_items aM dat ?_;refine(↥s1,[↥s1],_,_,_,rfl,bK.kept (t':=s1.toks) λb o e=>dX _ e,EQ (fM (dO g)) rel (λh e=>(o,yt,e,rest)),(_,_,e7 _ rfl),λb ae=>?_,q o);have e:b=↥s1:=by simpa using ae
 subst e;exact bK.mv (b0 _) (bK.bf.fresh (b0 _))
end
seal L2.da L2.bw L2.gv L2.g9 L2.h6 L2.f5
def WN:∀d,d<10->dl (I5 d).toNat=true/\((I5 d).toNat=48->d=0):=∅
theorem afC(n:Nat):((m_ 10 n).map o9).all dl=true/\1<=↑((m_ 10 n).map o9)/\(n=0\/((m_ 10 n).map o9).headD 0≠48):=by
 induction n using Nat.strongRecOn with
 | _ n b9=>
  by_cases h:n<10
  .rw[Nat.toDigits_of_lt_base h];have z:=WN n h;refine(?_,b0 _,?_)
   .show ((dl (I5 n).toNat)&&true)=true;rw[z.1];rfl
   .by_cases h0:n=0
    .exact .inl h0
    .exact .inr λe=>h0 (z.2 e)
  .rw[Nat.toDigits_of_base_le ∅ (),ew];let(a,b,c):=b9 (n / 10) ();have z:=WN (n%10) ();refine(?_,?_,?_)
   .rw [List.all_append,a];show(true&&((dl (I5 (n%10)).toNat)&&true))=true;rw[z.1];rfl
   .rw [c'];omega
   .refine .inr λe=>?_
    have eT:=c.resolve_left ();cases aw:(m_ 10 (n / 10)).map o9 with
    |nil=>rw[aw]at b;exact absurd b ∅
    |cons x r=>
     rw[aw]at eT e;exact eT e
def v_(m:Nat)(x:Str):Prop:=(1<=↑(cs x)/\↑(cs x)<=m)/\(cs x).all dl=true/\(↑(cs x)<=1\/(cs x).headD 0≠48)
def Kg{v:Int}(hm:1<=m)(h0:0<=v)(af:v<10 ^ m):v_ m (num v)/\val (num v)=v:=by
 let(n,rfl):∃n:Nat,v=n:=(v.toNat,());have e:cs (num (n:Int))=(m_ 10 n).map o9:=Ud n;have aL:n<10 ^ m:=by exact_mod_cast af
 let(a,b,c):=afC n;have d:=arl hm aL;constructor
 .unfold v_;rw[e];refine((b,by rw[a9];exact d),a,?_);rcases c with rfl|c
  .exact .inl ∅
  .exact .inr c
 .show ((GR (cs (num (n:Int))):Nat):Int)=n;rw[e,PySem.W.KIN.val_back]
def an5{v:Int}(h0:0<=v)(af:v<10 ^ 59):∀c∈(num v).cps.toList,48<=c/\c<=57:=λc ah=>by
 have:=oe.mp (Kg ∅ h0 af).1.2.1 c ah;simpa[dl]using this
def Tt:bH:=λvs H Q _=>∃x,vs=[.str x,.int 59]/\v_ 59 x/\aG H/\Q (.bE true) H
def aoO:bH:=λvs H Q _=>∃x,vs=[.str x]/\v_ 59 x/\aG H/\Q (.int (val x)) H
theorem an2:cj P base T 2 t.C3 t.AP Am Tt:=by
 refine cn (HO T) λyN=>?_;exists T.zJ.ok O_,9
 let(x,rfl,hw,a8,q):=h;have aw:=sA x;let((af,aj),a_,b'):=hw;have e2:↑x<=sizeLine:=cH (show ↑x<=59 by omega) ∅;have z0:made x qi 59=true:=by
  unfold made;rw[if_neg (λz=>by have:=w_.mp z;omega),if_neg (),show(tf qi)=dl from funext TS];exact a_
 refine(_,(aN (c0 (Fk (jS (bT yN au T.Fy T.wV.bt T.NL (ag (U 0) (ag (gN rfl T.Tc T.Tn) (ag (U 1) aA)))))) (aY (bR hA)) c7)
   (aY (bR (JC (h9 eZ (U 0) Db (ct _)) (wA (h9 js (bP Fs (U 0) aS) Db (ct _))))))),?_)
 refine cX false (λQ aV=>?_) (λah=>nomatch ah) (λ_=>?_)
 ·(nofun; repeat (dsimp only[DR];nofun));refine((),a8,?_);rw[z0];exact aV
 .rw [g7];dsimp only;refine Ym (.bE true) (λQ aV=>?_) ?_
  case refine_2=>exact q
  nofun;let(c,r,rB):∃c r,cs x=c::r:=by
   cases h:cs x with
   |nil=>rw[h]at af;exact absurd af ∅
   |cons c r=>exact(c,r,rfl)
  by_cases et:x=aa "0"
  .rw [if_pos (decide_eq_true et)];exact aV
  .rw [if_neg (by simpa using et)];refine(e2,c,cO (xs:=cs x) (j:=0) (v:=c) (by rw[rB];rfl),?_);have aqr:¬c=48:=by
    rcases b' with b'|b'
    .intro kJ;have au:r=[]:=by
      rw[rB]at b';cases r with
      |nil=>rfl
      |cons d r=>simp at b'
     exact et (by rw[zU];exact Dq.mpr (by rw[rB,au,kJ]))
    .rw [rB]at b';exact b'
   rw[apL,decide_eq_false aqr];exact aV
def ap7:cj P base T 3 t.Mx t.IK ["word"] aoO:=by
 refine cn (an2 T) λNu=>?_;exists T.It.ok acQ,9
 let(x,rfl,hw,a8,q):=h;have aw:=sA x;have nq:intText? x\(val x):=intText_digits (Jk hw.2.1) (λz=>by have z':cs x=[]:=z;have:=hw.1.1;rw[z']at this;exact absurd this ∅) (by have:=hw.1.2;omega);refine(_,(aN (c0 (Fk (jS (bT Nu au T.Qc T.zJ.bt T.YB (ag (U 0) (ag (gN rfl T.afw T.ZZ) aA))))) (aY (bR wZ)) c7)
   (aY (bR (jo FR rfl T.HX Le (ag (U 0) aA))))),?_)
 refine cX false (λQ aV=>?_) (λah=>nomatch ah) (λ_=>?_)
 ·(nofun; repeat (dsimp only[Tt];nofun));exact(hw,a8,aV)
 .nofun;refine(val x,nq,by have:=hw.1.2;omega,q)
def t_(part x:Str)(v:V):Prop:=
 (part=aa "name"/\made x gB 8=true/\v=.str x)\/(part=aa "turn"/\v_ 59 x/\v=.int (val x))\/(part=aa "many"/\∃n,nI x 1 200=.int n/\v=.int n)
def ahD(t:bA):bH:=λvs H Q _=>∃p row ws pl x,vs=[⇑p]/\cx t H p row ws pl/\ws[pl]?\x/\made x gB 8=true/\aG H/\vK t H p row ws (pl+1) (Q (.str x))
def ak4(t:bA):bH:=λvs H Q _=>∃p row ws pl x,vs=[⇑p]/\cx t H p row ws pl/\ws[pl]?\x/\v_ 59 x/\aG H/\vK t H p row ws (pl+1) (Q (.int (val x)))
def RP(t:bA):bH:=λvs H Q _=>∃p part row ws pl x v,vs=[⇑p,.str part]/\cx t H p row ws pl/\ws[pl]?\x/\t_ part x v/\aG H/\vK t H p row ws (pl+1) (Q v)
def wP:cj P base T 3 t.Tl t.MM ["reader"] (ahD t):=by
 refine cn (vE T) λnS=>cn (zT T) λp1=>cn (Zg T) λNf=>?_;exists T.I1.ok OZ,9
 let(p,row,ws,pl,x,rfl,R,ai,hm,a8,q):=h;refine(_,(aN (bO (i:=1) OZ.aD (iL (U 0) T.ey T.vc nS au T.vL .nil cJ))
   (aN (eu (e0 (U 0) T.ey T.y_ p1 au T.yc .nil cJ (ag (bT Nf au T.Vb T.A9.bt T.Po (ag (U 1) aA)) aA)))
   (aY (bR (U 1))))),?_)
 have cD:pl<↑ws:=(cv.mp ai).1;have a0:ws.getD pl (aa "")=x:=by rw[gG,ai];rfl
 let(ax,ak,a4,az,aE):=id R;nofun;refine(_,_,az,cx.no _ _ _ ∅,(p,row,ws,pl,rfl,R,(),?_));rw[a0];nofun;refine(_,_,az,cx.no _ _ _ ∅,x,rfl,ax.2 x (cC ai),a8,?_);rw[hm];refine(p,row,ws,pl,rfl,R,λI s1 s2 s3=>?_);nofun;exact q I s1 s2 s3
def PP:cj P base T 4 t.KN t.FK ["reader"] (ak4 t):=by
 refine cn (vE T) λnS=>cn (zT T) λp1=>cn (ap7 T) λacG=>?_;exists T.Fz.ok VL,9
 let(p,row,ws,pl,x,rfl,R,ai,hm,a8,q):=h;refine(_,(aN (bO (i:=1) VL.aD (bT acG au T.acd T.It.bt T.agM (ag (iL (U 0) T.ey T.vc nS au T.vL .nil cJ) aA)))
   (aN (eu (e0 (U 0) T.ey T.y_ p1 au T.yc .nil cJ (ag (h9 X2 (U 1) wZ (ct _)) aA)))
   (aY (bR (U 1))))),?_)
 have cD:pl<↑ws:=(cv.mp ai).1;have a0:ws.getD pl (aa "")=x:=by rw[gG,ai];rfl
 let(ax,ak,a4,az,aE):=id R;nofun;refine(_,_,az,cx.no _ _ _ ∅,(p,row,ws,pl,rfl,R,(),?_));rw[a0];nofun;refine(x,rfl,hm,a8,?_);nofun;refine(_,_,az,cx.no _ _ _ ∅,?_);refine(p,row,ws,pl,rfl,R,λI s1 s2 s3=>?_);nofun;exact q I s1 s2 s3
def aes:cj P base T 5 t.D2 t.Ft wW (RP t):=by
 refine cn (wP T) λak1=>cn (PP T) λaqK=>cn (uJ T) λkm=>?_;exists T.I4.ok abG,9
 let(p,part,row,ws,pl,x,v,rfl,R,ai,hm,a8,q):=h;refine(_,(aN (c0 (cS eZ (U 1) Db (ct _)) (aY (bR (bT ak1 au T.aoJ T.I1.bt T.WF (ag (U 0) aA)))) c7)
   (aN (c0 (cS eZ (U 1) Db (ct _)) (aY lH) c7)
   (aN (c0 (cS eZ (U 1) Db (ct _)) (aY (bR (bT aqK au T.ams T.Fz.bt T.akl (ag (U 0) aA)))) c7)
   (aN (c0 (cS eZ (U 1) Db (ct _)) (aY (bR (e0 (U 0) T.ey T.pE km au T.oM .nil cJ (ag aS (ag (gN rfl T.aj7 T.aiI) aA))))) c7)
   (aY lH))))),?_)
 rcases hm with⟨rfl,hm,rfl⟩|⟨rfl,hm,rfl⟩|⟨rfl,n,hm,rfl⟩
 .refine cX true (λQ aV=>?_) (λ_=>?_) (λah=>nomatch ah)
  .nofun;exact aV
  .nofun;exact(p,row,ws,pl,x,rfl,R,ai,hm,a8,q)
 .refine cX false (λQ aV=>?_) (λah=>nomatch ah) (λ_=>?_)
  .nofun;exact aV
  rw[g7];dsimp only;refine cX false (λQ aV=>?_) (λah=>nomatch ah) (λ_=>?_)
  .nofun;exact aV
  rw[g7];dsimp only;refine cX true (λQ aV=>?_) (λ_=>?_) (λah=>nomatch ah)
  .nofun;exact aV
  .nofun;exact(p,row,ws,pl,x,rfl,R,ai,hm,a8,q)
 .refine cX false (λQ aV=>?_) (λah=>nomatch ah) (λ_=>?_)
  .nofun;exact aV
  rw[g7];dsimp only;refine cX false (λQ aV=>?_) (λah=>nomatch ah) (λ_=>?_)
  .nofun;exact aV
  rw[g7];dsimp only;refine cX false (λQ aV=>?_) (λah=>nomatch ah) (λ_=>?_)
  .nofun;exact aV
  rw[g7];dsimp only;refine cX true (λQ aV=>?_) (λ_=>?_) (λah=>nomatch ah)
  .nofun;exact aV
  .let(ax,ak,a4,az,aE):=id R;nofun;exact(_,_,az,cx.no _ _ _ ∅,p,row,ws,pl,x,_,_,n,rfl,R,ai,hm,a8,q)
unseal L2.da L2.bw L2.gv L2.g9 L2.h6 L2.f5
def oj(ps ws:List Str)(zs:List V):Prop:=↑ws=↑ps/\↑zs=↑ps/\∀(i:Nat) (a y:Str) (v:V),ps[i]?\a->ws[i]?\y->zs[i]?\v->t_ a y v
noncomputable def i1:List (Str×List Str):=[(p'p (aa "crossing") [aa "name"]),(p'p (aa "plan") [aa "name",aa "name"]),(p'p (aa "colours") [aa "name",aa "turn"]),(p'p (aa "wait") [aa "name",aa "name",aa "turn"]),(p'p (aa "longest") [aa "name",aa "name"]),(p'p (aa "draw") [aa "name",aa "turn",aa "many"])]
def aqv(t:bA):bH:=λvs H Q _=>∃x first ps ws zs,vs=[.str x]/\↑x<=900/\iI x=[first::ws]/\(p'p first ps)∈i1/\oj ps ws zs/\aG H/\∀p l I,aC H I->aG I->I p\(.tup [.str first,⇑l])->I l\(.lst zs)->H l=none->Q ⇑p I
def ahT(T:Txt w K av t)(h:(p'p first ps)∈i1):∃a,(Oj t).lookup first\⇑a/\lX K a (bz ps)/\↑ps<=3:=by
 unfold i1 at h;simp only[cT,Ct,fq,or_false]at h;rcases h with⟨rfl,rfl⟩|⟨rfl,rfl⟩|⟨rfl,rfl⟩|⟨rfl,rfl⟩|⟨rfl,rfl⟩|⟨rfl,rfl⟩
 .exact (_,rfl,T.alg,∅)
 .exact (_,rfl,T.ae0,∅)
 .exact (_,rfl,T.alN,∅)
 .exact (_,rfl,T.ad4,∅)
 .exact (_,rfl,T.aiv,∅)
 .exact (_,rfl,T.akV,∅)
def afb(h:(p'p first ps)∈i1):first∈[aa "crossing",aa "plan",aa "stages",aa "colours",aa "wait",aa "longest",aa "draw",aa "turn",aa "worst",aa "shortest"]:=by
 unfold i1 at h;simp only[cT,Ct,fq,or_false]at h;simp only[cT,fq,or_false];rcases h with⟨rfl,rfl⟩|⟨rfl,rfl⟩|⟨rfl,rfl⟩|⟨rfl,rfl⟩|⟨rfl,rfl⟩|⟨rfl,rfl⟩ <;> simp
theorem akn:cj P base T 6 t.MP t.M3 ["told"] (aqv t):=by
 have HH:bD P w K av base cN 5 t.xc t.zD ["text"] K6:=(Tq T).mono ∅;have LS:bD P w K av base cN 4 t.va t.y7 uU (G6 t):=(Vy T).mono ∅;have oH:bD P w K av base cN 5 t.wI t.Er BM (X_ K t):=(ms T).mono ∅;have p0:bD P w K av base cN 5 t.xC t.EZ ["self"] (Om t):=(yb T).mono ∅;have aoQ:bD P w K av base cN 5 t.D2 t.Ft wW (RP t):=aes T;exists T.Lm.ok Fb,9
 let(x,first,ps,ws,zs,rfl,ai,lV,hf,(Zi,arB,nJ),a8,q):=h;let(jf,ak',Qb,ab_):=ahT T hf;refine(_,(aN (K_ (i:=1) Fb.aD rfl (p5 rfl) (sX T.SI LS au rfl T.OA T.Ts .nil cJ (ag aS (ag (bP dA (bT HH au T.Og T.E7.bt T.Xa (ag (U 0) aA)) aS) aA))))
   (aN (bO (i:=2) Fb.aD (e0 (U 1) T.ey T.vG oH au T.vB .nil cJ (ag (jo (ajm rfl T.al8 ∅ ∅) rfl T.xI K7 (ag (gN (v:=⇑t.Cg) rfl T.VA rfl) aA)) aA)))
   (aN (zv (i:=3) Fb.aD rfl (m2 rfl) rfl (Xb (F2 rfl T.VA T.adk (U 2) (λ_ _=>rfl))) (hi (sc:=br (top 134)) rfl ∅) (N:=["part","reader"]) (sel:=[none,some 1]) (ha (M:=["told","reader","first","parts"]) ∅) (fR.of (λ_ _ _ _=>(b6 (i:=0) (fk (N:=["part","reader"]) ∅ rfl))) (λ_ _ _ _=>(_,iB,by walk_at "B")) (λ_ _ _ _=>(_,(bT aoQ au T.abn T.I4.bt T.alL (ag (U 1) (ag (U 0) aA))),by walk_at "B"))) rfl)
   (aN (eu (iL (U 1) T.ey T.xk p0 au T.yk .nil cJ))
   (aY (bR (kr (ag (U 2) (ag (U 3) aA))))))))),?_)
 nofun;refine(x,rfl,(),a8,λp H1 s1 bY ⟨qs,aq,j4,hc,dI,uu⟩=>?_);rw[lV]at dI uu;let(a4,rfl):∃a4,qs=[a4]:=by
  match qs,dI with
  |[a4],_=>exact(a4,rfl)
 let(ZS,as6):=uu 0 a4 _ rfl rfl;refine(p,rfl,_,aH.of aq,_,rfl,λrd ak A7 nh b8=>?_);refine(rd,ak,a4,0,rfl,aP,?_);rw[pY];generalize rO:upd (upd H1 ak (.own rd)) rd (.ins t.gz ak (kU 0 a4 0))=ay;have s2:aC H1 ay:=by rw[<- rO];exact(bp nh).gm A7
 have cg:aG ay:=by rw[<- rO];exact(bY.upd).upd
 have rL:∀y∈first::ws,↑y<=↑x+2:=by
  intro y bg;have hm:(first::ws)∈iI x:=by rw[lV];exact List.mem_singleton_self _
  let(r,ll,lK):=dg.mp hm;rw[<- lK]at bg;have a:=G_ (by rw[lC];exact b0 _) ll;have b:=G_ (by rw[jw];exact b0 _) bg;omega
 have e9:cx t ay rd 0 (first::ws) 0:=((by rw[gw];omega,λy bg=>cH (rL y bg) ()),ak,a4,by rw[<- rO];exact aP,s2 _ _ ZS);nofun;have kD:ay rd\(.ins t.gz ak (kU 0 a4 0)):=by rw[<- rO];exact aP
 refine(_,_,kD,cx.no _ _ _ ∅,λl aw=>?_);refine(rd,0,first::ws,0,first,l,_,rfl,e9.same (bp aw),rfl,aH.of aP,?_,?_)
 .exact afb hf
 intro bq s3 dh ti;nofun;refine(_,ak',_,rfl,(_,Qb _),?_);refine Ry (xs:=bz ps) (λi ys I=>cW rd bq I/\aG I/\cx t I rd 0 (first::ws) (1+i)/\ys=zs.take i) ?_ (λb u _ e=>e,dh (cg.upd),ti,rfl) ?_ ?_ ?_
 .rw [mi];exact cH ab_ ∅
 .rintro i ys I ao a3;ac_rfl
  let(_,_,_,rfl):=a3;subst ba;exact(Qb _,by rw[fw];omega)
 .intro i v ys I aM (s4,ez,jN,rfl) N bc;let(a,aJ,rfl):=cF aM;have ao:i<↑ps:=(cv.mp aJ).1;let(y,bg):∃y,ws[i]?\y:=(ws[i]'(),bJ _);let(z,ax):∃z,zs[i]?\z:=(zs[i]'(),bJ _);nofun;refine(Sub.name,rd,a,0,first::ws,1+i,y,z,rfl,jN,by rw[aqh];exact bg,nJ i a y z aJ bg ax,ez,?_);intro cQ s5 jk p8;exact bc _ _ (s4.trans s5,jk ez,p8,by rw[tn,ax];rfl)
 .rintro ys I ⟨s4,ez,jN,rfl⟩ dH q3;rw[mi]at jN⊢;rw[l4 ()];obtain⟨ax,RC,Rc,j9,hX⟩:=id jN;have p8:=jN.same (bp (o:=.lst zs) q3);refine⟨_,_,bp q3 _ _ j9,cx.no _ _ _ ∅,rd,0,_,_,rfl,p8,by rw[gw];omega,∅,fun dR dy=>?_⟩;have ae_:H rd=none:=s1.free A7;have FT:aC H I:=fun b u e=>by
   have ae:b≠rd:=λz=>by rw[z,ae_]at e;cases e
   exact s4 _ _ ae (s3 _ _ ae (bp aw _ _ (s2 _ _ (s1 _ _ e))))
  have sB:aC H (upd I dH (.lst zs)):=FT.gm (FT.free q3);have anx:dH≠dR:=λz=>by rw[<- z,aP]at dy;cases dy
  refine q dR dH _ (sB.gm (sB.free dy)) ((ez.upd).upd) aP ?_ (FT.free q3);rw[aO anx];exact aP
def ahi{x:Str}(h:(10:Nat)∉x.cps.toList):m' x nl 0 ↑x 1=[]:=by
 have e:=alf x 10;rw[decide_eq_false h]at e;rw[kK];simpa using e
def DY(a b:Str):(a++nl++b).cps.toList=a.cps.toList++10::b.cps.toList:=by
 rw[gH,gS,gH,gS,kK];simp
def afH{a b:Str}(h:(10:Nat)∉a.cps.toList):∃r,m' (a++nl++b) nl 0 ↑(a++nl++b) 1=↑a::r:=by
 have aw:↑a.cps.toList=↑a:=by simp[n5]
 have nK:(a++nl++b).cps.toList[↑a]?\10:=by rw[DY,sS (),aw];simp
 rcases StrLaws.occ_head (a++nl++b) nl 1 ∅ with⟨_,no⟩|⟨i,r,e,wj,lo⟩
 .rw [kK]at no;exact absurd ((Q6 _ 10 ↑a).mpr (by rw[<- kK];exact nK)) (no ↑a)
 .refine⟨r,?_⟩;rw[e];have af:(a++nl++b).cps.toList[i]?\10:=by
   rw[kK]at wj;have:=(Q6 _ 10 i).mp wj;rwa[<- kK]at this
  have aj:¬i<↑a:=λao=>by
   rw[DY,sv ()]at af;exact h (cC af)
  have a_:¬ ↑a<i:=λao=>by
   have:=lo ↑a ao;rw[kK]at this;exact this ((Q6 _ 10 ↑a).mpr (by rw[<- kK];exact nK))
  rw[show i=↑a by omega]
def alq(a b:Str):uc (a++nl++b) 0 ↑a=a:=by
 have aw:↑a.cps.toList=↑a:=by simp[n5]
 refine hg ?_;show((a++nl++b).cps.extract 0 ↑a).toList=_;rw[Rd,DY];simp[ahe,<- aw]
def aot(a b:Str):uc (a++nl++b) (↑a+↑nl) ↑(a++nl++b)=b:=by
 have aw:↑a.cps.toList=↑a:=by simp[n5]
 have ax:↑(a++nl++b)=↑(a++nl++b).cps.toList:=by simp[n5]
 refine hg ?_;show((a++nl++b).cps.extract (↑a+↑nl) ↑(a++nl++b)).toList=_;rw[Rd,ax,DY,lC];simp only[ahe,c',gw,aw,List.drop_append];rw[List.drop_eq_nil_of_le (),show ↑a+1-↑a=1 by omega,nU,show(10::b.cps.toList).drop 1=b.cps.toList from rfl,l4 ()]
def JI(row told text:Str):Bool->Prop
 |false=>row=told/\text=aa ""
 |true=>row=told++nl++text
noncomputable def k4:List Str:=[aa "crossing",aa "plan",aa "stages"]
def U8(t:bA):bH:=λvs H Q _=>∃row told text first ps ws zs,vs=[.str row]/\JI row told text (decide (first∈k4))/\↑row<=20000/\↑told<=900/\(10:Nat)∉told.cps.toList/\iI told=[first::ws]/\(p'p first ps)∈i1/\oj ps ws zs/\aG H/\∀p l I,aC H I->aG I->I p\(.tup [.str first,⇑l,.str text])->I l\(.lst zs)->H l=none->Q ⇑p I
theorem ait{b:Bool}(h:JI row told text b)(pP:(10:Nat)∉told.cps.toList):∃le,zZ row nl=[V.str told,V.str le,V.str text]/\decide (le=nl)=b:=by
 cases b with
 |false=>
  let(rfl,rfl):=h;exact(aa "",by unfold zZ;rw[ahi pP];rfl,∅)
 |true=>
  have e:row=told++nl++text:=h;subst e;let(r,au):=afH (b:=text) pP;exact(nl,by unfold zZ;rw[au];dsimp only;rw[alq,aot],∅)
def FS:cj P base T 7 t.Cv t.DC ["row"] (U8 t):=by
 refine cn (akn T) λagm=>?_;exists T.Md.ok u6,9
 let(row,told,text,first,ps,ws,zs,rfl,cV,ax,CR,pP,lV,hf,pL,a8,q):=h;refine(_,(aN (mr (gL lT ain PySem.F.type_str_partition apS (U 0) (ag Db aA)) (jm (K:=K) (n:=3) rfl rfl (eb (b6 (i:=1) u6.aD) (eb (b6 (i:=2) u6.aD) (eb (b6 (i:=3) u6.aD) jd)))))
   (aN (ano rfl (aY (mr (bT agm au T.am_ T.Lm.bt T.adC (ag (U 1) aA)) (jm (K:=K) (n:=2) rfl rfl (eb (b6 (i:=4) u6.aD) (eb (b6 (i:=5) u6.aD) jd))))))
   (aN (c0 (cS js (h9 eZ (U 2) Db (ct _)) (h9 rm (U 4) (gN (v:=⇑t.K3) rfl T.alj rfl) (by with_unfolding_all rfl)) (ct _)) (aY lH) c7)
   (aY (bR (kr (ag (U 4) (ag (U 5) (ag (U 3) aA))))))))),?_)
 let(le,hle,apd):=ait cV pP;nofun;refine(row,nl,rfl,rfl,by rw[lC];rfl,cH ax ∅,λp aq=>?_);rw[hle];refine(p,rfl,_,b1.of aP,rfl,_,_,rfl,_,_,rfl,_,_,rfl,rfl,?_);refine(told,first,ps,ws,zs,rfl,CR,lV,hf,pL,a8.upd,λdR l ay s2 cg aE zz ln=>?_);refine(dR,rfl,_,b1.of aE,rfl,_,_,rfl,_,_,rfl,rfl,?_);refine cX false (λQ aV=>?_) (λah=>nomatch ah) (λ_=>?_)
 .nofun;refine(_,.inr (T.al4 _),rfl,rfl,?_);rw[show mm (V.str first) [V.str (aa "crossing"),V.str (aa "plan"),V.str (aa "stages")]=decide (first∈k4)from uT first k4,apd,decide_eq_true rfl];exact aV
 .nofun;have s3:aC H ay:=(bp aq).trans s2;refine(∅,λiD pV=>q iD l _ (s3.gm (s3.free pV)) cg.upd aP ?_ ?_)
  .rw [aO (cM zz pV)];exact zz
  .exact (bp aq).free ln
noncomputable def gW(D:List Addr)(H:ar):ar:=λb=>if b∈D then none else H b
noncomputable def iN(D:List Addr)(H I:ar):ar:=λb=>if b∈D then H b else I b
def ux{D:List Addr}{b:Addr}(h:b∈D):gW D H b=none:=by unfold gW;rw[if_pos h]
def k9{D:List Addr}{b:Addr}(h:b∉D):gW D H b=H b:=by unfold gW;rw[if_neg h]
def tO{D:List Addr}{b:Addr}(h:b∈D):iN D H I b=H b:=by unfold iN;rw[if_pos h]
def jh{D:List Addr}{b:Addr}(h:b∉D):iN D H I b=I b:=by unfold iN;rw[if_neg h]
def pw{D:List Addr}{b:Addr}(h:H b=none):gW D H b=none:=by unfold gW;split;rfl;exact h
def yz{D:List Addr}:aC (gW D H) H:=λb u e=>by
 unfold gW at e;split at e
 .cases e
 .exact e
theorem bD.frame{w:World}{K:a'}{av:Str->Option Value}{base:Heap}{k:Nat}{fd:FuncData}{sp ff:bH}(F:bD P w K av base cN k f fd ps sp)
  (h:∀vs H Q E,ff vs H Q E->∃D:List Addr,(∀a∈D,∃kvs,H a\(.bL kvs))/\sp vs (gW D H) (λv I=>(∀a∈D,I a=none)->Q v (iN D H I)) E):bD P w K av base cN k f fd ps ff:=by
 refine(λvs H Q E q=>?_,λA outer s H args us vs Q E au he ae aM aB=>?_)
 .let(D,_,du):=h vs H Q E q;exact F.len vs _ _ E du
 let(D,bB,q):=h vs H Q E aB;have out:∀b o,H b\o->(∀kvs,o≠.bL kvs)->b∉D:=λb o e n hm=>by
  let(kvs,aE):=bB b hm;rw[e]at aE;exact n kvs (d6 aE)
 have IZ:eG P w (gW D H) s.heap:=λa o e=>by
  refine(he.bf a o (yz _ _ e)).kX (λ_ _ _ z=>z) (λb z=>?_) λb xs z=>?_
  .rw [k9 (out b _ z (λ_ y=>nomatch y))];exact z
  .rw [k9 (out b _ z (λ_ y=>nomatch y))];exact z
 have tR:nC P w K av base A outer s (gW D H):=(he.frames,he.mod,λb o e=>((he.bs b o e).1,pw (he.bs b o e).2),he.j6,he.iZ,λb ae=>pw (he.kA b ae),IZ,he.bare);refine codeAny_mono (F.run A outer s (gW D H) args us vs _ E au tR ae aM q) λr s' aF=>?_
 cases r with
 |error e=>exact aF
 | ok ec=>
  cases ec with
  |next=>exact aF
  |brk=>exact aF
  |cont=>exact aF
  | ret u=>
   let(v,H1,os,bare,un,bf,cf,du):=aF;have lF:∀a∈D,H1 a=none:=λa aJ=>by
    let(kvs,e):=bB a aJ;let(z,y,vs,r,b_,aK,ep,aE,c):=he.bf a _ e;exact un.free a b_ aE (ux aJ) (by simp)
   refine(v,iN D H H1,os,bare,(λb o e n=>un.keep b o e (pw n),λb o e n=>un.slot b o e (pw n),λb o e n x=>?_,un.there,λb xs e=>?_,λb o u e=>?_,λb ps e=>?_),λa o e=>?_,cf,du lF)
   .by_cases ae:b∈D
    .rw [tO ae];exact n
    .rw [jh ae];exact un.free b o e (pw n) x
   .have ae:=out b _ e (λ_ y=>nomatch y);rw[jh ae];exact un.mD b xs (by rw[k9 ae];exact e)
   .have ae:=out b _ e (λ_ y=>nomatch y);rw[jh ae];exact un.kS b o u (by rw[k9 ae];exact e)
   .have ae:=out b _ e (λ_ y=>nomatch y);rw[jh ae];exact un.mK b ps (by rw[k9 ae];exact e)
   .by_cases ae:a∈D
    .rw [tO ae]at e;let(kvs,cR):=bB a ae;rw[cR]at e;cases d6 e;let(z,y,vs,r,b_,aK,ep,aE,c):=he.bf a _ cR;exact(z,y,vs,r,b_,aK,ep,un.keep a b_ aE (ux ae) (λhf=>by rw[he.kA a hf]at cR;cases cR) (by simp),c)
    .rw[jh ae]at e;have up:∀b u,H1 b\u->iN D H H1 b\u:=λb u z=>by
      rw[jh (λae=>by rw[lF b ae]at z;cases z)];exact z
     exact(bf a o e).kX (λ_ _ _ z=>z) (λb z=>up _ _ z) λb xs z=>up _ _ z
theorem bD.aqG{w:World}{K:a'}{av:Str->Option Value}{base:Heap}{k:Nat}{fd:FuncData}{sp ff:bH}(F:bD P w K av base (fm P w) k f fd ps sp)
  (h:∀vs H Q E,ff vs H Q E->∃D:List Addr,(∀a∈D,∃kvs,H a\(.bL kvs))/\sp vs (gW D H) (λv I=>(∀a∈D,I a=none)->Q v (iN D H I)) (λC od I=>(∀a∈D,I a=none)->E C od (iN D H I))):bD P w K av base (fm P w) k f fd ps ff:=by
 refine(λvs H Q E q=>?_,λA outer s H args us vs Q E au he ae aM aB=>?_)
 .let(D,_,du):=h vs H Q E q;exact F.len vs _ _ _ du
 let(D,bB,q):=h vs H Q E aB;have out:∀b o,H b\o->(∀kvs,o≠.bL kvs)->b∉D:=λb o e n hm=>by
  let(kvs,aE):=bB b hm;rw[e]at aE;exact n kvs (d6 aE)
 have IZ:eG P w (gW D H) s.heap:=λa o e=>by
  refine(he.bf a o (yz _ _ e)).kX (λ_ _ _ z=>z) (λb z=>?_) λb xs z=>?_
  .rw [k9 (out b _ z (λ_ y=>nomatch y))];exact z
  .rw [k9 (out b _ z (λ_ y=>nomatch y))];exact z
 have tR:nC P w K av base A outer s (gW D H):=(he.frames,he.mod,λb o e=>((he.bs b o e).1,pw (he.bs b o e).2),he.j6,he.iZ,λb ae=>pw (he.kA b ae),IZ,he.bare);have key:∀{h':Heap} {H1:ar},gn (hn outer) [] (gW D H) H1 s.heap h'->eG P w H1 h'->(∀a∈D,H1 a=none)/\gn (hn outer) [] H (iN D H H1) s.heap h'/\eG P w (iN D H H1) h':=λ{h' H1} un bf=>by
  have lF:∀a∈D,H1 a=none:=λa aJ=>by
   let(kvs,e):=bB a aJ;let(z,y,vs,r,b_,aK,ep,aE,c):=he.bf a _ e;exact un.free a b_ aE (ux aJ) (by simp)
  refine(lF,(λb o e n=>un.keep b o e (pw n),λb o e n=>un.slot b o e (pw n),λb o e n x=>?_,un.there,λb xs e=>?_,λb o u e=>?_,λb ps e=>?_),λa o e=>?_)
  .by_cases ae:b∈D
   .rw [tO ae];exact n
   .rw [jh ae];exact un.free b o e (pw n) x
  .have ae:=out b _ e (λ_ y=>nomatch y);rw[jh ae];exact un.mD b xs (by rw[k9 ae];exact e)
  .have ae:=out b _ e (λ_ y=>nomatch y);rw[jh ae];exact un.kS b o u (by rw[k9 ae];exact e)
  .have ae:=out b _ e (λ_ y=>nomatch y);rw[jh ae];exact un.mK b ps (by rw[k9 ae];exact e)
  .by_cases ae:a∈D
   .rw [tO ae]at e;let(kvs,cR):=bB a ae;rw[cR]at e;cases d6 e;let(z,y,vs,r,b_,aK,ep,aE,c):=he.bf a _ cR;exact(z,y,vs,r,b_,aK,ep,un.keep a b_ aE (ux ae) (λhf=>by rw[he.kA a hf]at cR;cases cR) (by simp),c)
   .rw[jh ae]at e;have up:∀b u,H1 b\u->iN D H H1 b\u:=λb u z=>by
     rw[jh (λae=>by rw[lF b ae]at z;cases z)];exact z
    exact(bf a o e).kX (λ_ _ _ z=>z) (λb z=>up _ _ z) λb xs z=>up _ _ z
 refine codeAny_mono (F.run A outer s (gW D H) args us vs _ _ au tR ae aM q) λr s' aF=>?_
 cases r with
 | error e=>
  let(x,C,od,H1,T,ex,os,bare,un,bf,ai,dN,ajb,ec,du):=aF;let(lF,G4,xh):=key un bf;refine(x,C,od,iN D H H1,T,ex,os,bare,G4,xh,?_,dN,?_,ec,du lF)
  .rw [jh (λae=>by rw[lF x ae]at ai;cases ai)];exact ai
  .rw[jh (λae=>?_)]
   .exact ajb
   .let(kvs,e):=bB T ae;let(z,y,vs,r,b_,aK,ep,aE,c):=he.bf T _ e;exact absurd (dO aE) (Nat.not_lt.mpr dN)
 | ok ec=>
  cases ec with
  |next=>exact aF
  |brk=>exact aF
  |cont=>exact aF
  |ret u=>
   let(v,H1,os,bare,un,bf,cf,du):=aF;let(lF,G4,xh):=key un bf;exact(v,iN D H H1,os,bare,G4,xh,cf,du lF)
seal L2.da L2.bw L2.gv L2.g9 L2.h6 L2.f5
structure Off(D:List Addr)(H off:ar):Prop where
 a7:aC off H
 no:∀a∈D,off a=none
 bb:∀a∈D,∃kvs,H a\(.bL kvs)
def Off.same{D:List Addr}{H I off:ar}(h:Off D H off)(s:aC H I):Off D I off:=(h.a7.trans s,h.no,λa aJ=>let⟨k,e⟩:=h.bb a aJ;(k,s _ _ e))
def Off.put{D:List Addr}{H off:ar}(h:Off D H off)(aJ:a∈D):Off D (upd H a (.bL kvs)) off:=by
 refine(λb u e=>?_,h.no,λb ae=>?_)
 .rw [aO (cM e (h.no a aJ))];exact h.a7 b u e
 .by_cases e:b=a
  .rw [e,aP];exact(_,rfl)
  .rw [aO e];exact h.bb b ae
def Off.hp{D:List Addr}{H off:ar}(h:Off D H off):aC off (gW D H):=λb u e=>by
 rw[k9 (λae=>by rw[h.no b ae]at e;cases e)];exact h.a7 b u e
def KI{D:List Addr}(n:aG H):aG (gW D H):=λb o e=>n b o (yz b o e)
def Off.un{D:List Addr}{H H1 off:ar}(h:Off D H off)(s:aC (gW D H) H1)(no:∀a∈D,H1 a=none):aC H (iN D H H1)/\Off D (iN D H H1) H1/\aC off H1:=by
 have s1:aC H (iN D H H1):=λb u e=>by
  by_cases ae:b∈D
  .rw [tO ae];exact e
  .rw [jh ae];exact s b u (by rw[k9 ae];exact e)
 refine(s1,(λb u e=>?_,no,λa aJ=>?_),h.hp.trans s)
 .rw [jh (λae=>by rw[no b ae]at e;cases e)];exact e
 .rw [tO aJ];exact h.bb a aJ
def HA{D:List Addr}(n:aG H)(bY:aG H1):aG (iN D H H1):=λb o e=>by
 by_cases ae:b∈D
 .rw [tO ae]at e;exact n b o e
 .rw [jh ae]at e;exact bY b o e
def Wv(t:bA):bH:=λvs H Q _=>∃n ds D off,vs=[.str (gk n ds)]/\pS n ds/\aG H/\Off D H off/\∀c I gb,aC H I->aG I->Off D I gb->aC off gb->fO t gb c n ds->Q ⇑c I
noncomputable def kz(t:bA):List Addr:=[t.ad,t.eW,t.eI]
def m3(HK:List Addr)(H:ar)(E:dG):Prop:=∀C∈HK,∀ak aR I,aC H I->aG I->I ak\(.ext (fY ak aR))->E ⇑C (some ak) I
def m3.step(h:m3 HK H E)(s:aC H H1):m3 HK H1 E:=λC cq ak aR I s' n e=>h C cq ak aR I (s.trans s') n e
def Ow(t:bA):bH:=λvs H Q E=>∃(c:Addr) (n:Int) (ds:List aQ) (z:Nat) (sp:List bj) (D:List Addr) (off:ar),vs=[⇑c,.str (hy z sp)]/\Off D H off/\fO t off c n ds/\0<n/\qr ds/\(1<=z/\z<=240)/\qa z ds sp/\aG H/\m3 (kz t) H E /\
 (k3 ds sp=none->mM ds z sp=none->nF n z sp ds=none->∀a I gb,aC H I->aG I->Off D I gb->aC off gb->h_ t gb a c n ds z sp->Q ⇑a I)
def agg:cj P base T 7 t.zW t.ym ["text"] (Wv t):=by
 refine bD.frame (ahG T) λvs H Q E h=>?_
 let(n,ds,D,off,rfl,ah,a8,aW,q):=h;refine(D,aW.bb,n,ds,rfl,ah,(KI a8),λc H1 s1 bY C no=>?_);let(a,b,d):=aW.un s1 no;exact q c _ H1 a (HA a8 bY) b d C
def anF(T:Txt w K av t):bD P w K av base (fm P w) 8 t.z9 t.yQ zt (Ow t):=by
 refine bD.aqG (acX T) λvs H Q E h=>?_
 let(c,n,ds,z,sp,D,off,rfl,aW,C,aL,hd,ax,a0,a8,mb,q):=h;have ex:∀hO∈kz t,∀aR,nP hO aR (gW D H) (λC od I=>(∀a∈D,I a=none)->E C od (iN D H I)):=λhO cq aR ak H1 s1 bY nh lF=>by
  let(x,y,d):=aW.un s1 lF;refine mb hO cq ak aR _ x (HA a8 (bY (KI a8))) ?_;rw[jh (λae=>by rw[lF ak ae]at nh;cases nh)];exact nh
 refine(D,aW.bb,c,n,ds,z,sp,rfl,C.same aW.hp,aL,hd,ax,a0,(KI a8),λaf aj a_ a H1 s1 bY da no=>?_,λx _=>ex _ (by simp[kz]) _,λe _ _=>ex _ (by simp[kz]) _,λe _ _ _=>ex _ (by simp[kz]) _);let(x,y,d):=aW.un s1 no;exact q af aj a_ a _ H1 x (HA a8 bY) y d da
noncomputable abbrev vI:List Str:=[aa "crossings",aa "plans",aa "keepers"]
noncomputable def uV(bl db e4:Addr):List (Str×V):=[(p'p (aa "crossings") (⇑bl)),(p'p (aa "plans") (⇑db)),(p'p (aa "keepers") (⇑e4))]
def yZ(bl db e4:Addr):(uV bl db e4).map (·.1)=vI:=rfl
def OV(t:bA):bH:=λvs H Q _=>∃(p ak:Addr),vs=[⇑p]/\H p\(.ins t.h3 ak [])/\H ak\(.own p)/\∀bl db e4 I,(∀b u,b≠p->H b\u->I b\u)->(aG H->aG I)->I p\(.ins t.h3 ak (uV bl db e4))->I bl\(.bL [])->I db\(.bL [])->bl≠db->H bl=none->H db=none->Q .b4 I
def Xk(t:bA):bH:=λvs H Q _=>∃x n,vs=[⇑x,.str n]/\nQ n/\H x\(.ext (ek x t.eL none)) /\
 ∀ak,H ak=none->ak≠x->Q .b4 (upd (upd H x (.ext (ek x t.eL (some ak)))) ak (.ext (fY ak [(aa "name",.str n)])))
def Na(t:bA):bH:=λvs H Q E=>∃d x,vs=[⇑d,.str x]/\((∃v,gq H d (.str x) (some v)/\Q v H)\/(gq H d (.str x) none/\nQ x/\aG H/\m3 [t.eL] H E))
def akB:cj P base T 1 t.y3 t.AH ["self"] (OV t):=by
 exists T.SG.ok aif,9
 let(p,ak,rfl,az,aE,q):=h;refine(_,(aN (h1 (U 0) ql rfl)
   (aN (h1 (U 0) ql rfl)
   (aY (h1 (U 0) ql rfl)))),?_)
 nofun;intro bl w5;have bY:p≠bl:=cM az w5;refine(_,_,_,by rw[aO bY];exact az,T.rS,T.Ou,∅,λdb fj=>?_);have cg:p≠db:=λz=>by rw[<- z,aP]at fj;cases fj
 have dh:bl≠db:=λz=>by rw[<- z,aO bY.symm,aP]at fj;cases fj
 refine(_,_,_,by rw[aO cg];exact aP,T.rS,T.OH,fD (n:=999) ∅,λe4 rx=>?_);have ez:p≠e4:=λz=>by rw[<- z,aP]at rx;cases rx
 refine(_,_,_,by rw[aO ez];exact aP,T.rS,T.ZG,fD (n:=999) (fD (n:=998) ∅),?_);have jk:bl≠e4:=λz=>by rw[<- z,aO bY.symm,aO dh,aO bY.symm,aP]at rx;cases rx
 have rM:db≠e4:=λz=>by rw[<- z,aO cg.symm,aP]at rx;cases rx
 rw[show dz (aa "crossings") (V.ref bl) ([]:List (Str×V))=[(p'p (aa "crossings") (V.ref bl))]from hl [] rfl ∅,
  show dz (aa "plans") (V.ref db) ([(p'p (aa "crossings") (V.ref bl))]:List (Str×V))=[(p'p (aa "crossings") (V.ref bl)),(p'p (aa "plans") (V.ref db))]from hl [aa "crossings"] rfl ∅,
  show dz (aa "keepers") (V.ref e4) ([(p'p (aa "crossings") (V.ref bl)),(p'p (aa "plans") (V.ref db))]:List (Str×V))=[(p'p (aa "crossings") (V.ref bl)),(p'p (aa "plans") (V.ref db)),(p'p (aa "keepers") (V.ref e4))]from hl [aa "crossings",aa "plans"] rfl ∅]
 have aj:H db=none:=by rw[aO cg.symm,aO dh.symm]at fj;exact fj
 have a_:H e4=none:=by rw[aO ez.symm,aO rM.symm,aO ez.symm,aO jk.symm]at rx;exact rx
 refine q bl db e4 _ (λb u n e=>?_) (λn=>(((((n.upd).upd).upd).upd).upd).upd) aP ?_ ?_ dh w5 aj
 .rw [aO n,aO (cM e a_),aO n,aO (cM e aj),aO n,aO (cM e w5)];exact e
 .rw [aO bY.symm,aO jk,aO bY.symm,aO dh,aO bY.symm];exact aP
 .rw [aO cg.symm,aO rM,aO cg.symm];exact aP
def af9:cj P base T 1 t.x7 t.EK kl (Xk t):=by
 exists T.Is.ok an9,9
 let(x,n,rfl,aL,ai,q):=h;refine(_,(aN (eu (CV rfl T.zA T.AX (ag (U 0) (ag (Cy (ra (Ao (U 1) ES)) (by rw[sizeLine_eq];decide)) aA))))
   (aY (Ck (U 0) (U 1) rfl))),?_)
 nofun;refine(aL.1,aL.2,λy=>(_,_,ai,T.C1,?_));exact(_,ai,T.C1,T.an7,q)
def Zd(T:Txt w K av t):bD P w K av base (fm P w) 3 t.wQ t.w7 u0 (Na t):=by
 have aeB:bD P w K av base cN 1 t.x7 t.EK kl (Xk t):=af9 T;exists T.As.o7 ZD,9
 let(d,x,rfl,h):=h;have bx:=iU au;refine(_,(aN (c0 (Qj (OT bx (U 1) (U 0))) (aY (BQ (CC T.Qe aeB au rfl T.Vk T.anJ (ag (U 1) aA)) AW)) c7)
   (aY (bR (j7 bx (U 0) (U 1) (λ_ _=>rfl))))),?_)
 rcases h with⟨v,a0,q⟩|⟨a0,ai,a8,mb⟩
 .nofun;refine cX false (λQ aV=>?_) (λah=>nomatch ah) (λ_=>?_)
  .nofun;exact(_,a0,aV)
  .nofun;exact(_,a0,q)
 .nofun;refine cX true (λQ aV=>?_) (λ_=>?_) (λah=>nomatch ah)
  .nofun;exact(_,a0,aV)
  .nofun;refine(∅,λa aJ=>(a,x,rfl,ai,aP,λc9 hd b8=>?_));have nO:H c9=none:=by rw[aO b8]at hd;exact hd
   refine(rfl,t.eL,some c9,by rw[aO (dB b8),aP],T.C1,mb _ (by simp) c9 _ _ (λb u e=>?_) (((a8.upd).upd).upd).upd (by rw[aO b8,aP]));rw[aO (cM e aJ),aO (cM e nO),aO (cM e aJ),aO (cM e aJ)];exact e
structure ic(t:bA)(H:ar)(bb bl db:Addr)(bU bo:List (Key×V)):Prop where
 b_:∃ak e4,H bb\(.ins t.h3 ak (uV bl db e4))
 aJ:H bl\(.bL bU)
 ae:H db\(.bL bo)
 ne:bl≠db
def ic.same{t:bA}{bb bl db:Addr}{bU bo:List (Key×V)}(h:ic t H bb bl db bU bo)(s:aC H I):ic t I bb bl db bU bo:=by
 let((ak,e4,e),a,b,n):=h;exact((ak,e4,s _ _ e),s _ _ a,s _ _ b,n)
def ic.akq{t:bA}{bb bl db:Addr}{bU bo k:List (Key×V)}(h:ic t H bb bl db bU bo):ic t (upd H bl (.bL k)) bb bl db k bo:=by
 let((ak,e4,e),a,b,n):=h;exact((ak,e4,by rw[aO (d_ e a (λz=>nomatch z))];exact e),aP,by rw[aO n.symm];exact b,n)
def ic.put2{t:bA}{bb bl db:Addr}{bU bo k:List (Key×V)}(h:ic t H bb bl db bU bo):ic t (upd H db (.bL k)) bb bl db bU k:=by
 let((ak,e4,e),a,b,n):=h;exact((ak,e4,by rw[aO (d_ e b (λz=>nomatch z))];exact e),by rw[aO n];exact a,aP,n)
structure OM(n:Int)(ds:List aQ)(z:Nat)(sp:List bj):Prop where
 Nk:0<n
 d:qr ds
 dS:1<=z/\z<=240
 g:qa z ds sp
structure J1(n:Int)(ds:List aQ)(z:Nat)(sp:List bj):Prop where
 N2:k3 ds sp=none
 amK:mM ds z sp=none
 cl:nF n z sp ds=none
def UT(t:bA)(bb bl db l:Addr)(bU bo:List (Key×V))(off:ar)(vs:List V)(Q:ar->Prop):Prop:=∃name n ds,vs=[⇑bb,.str (aa "crossing"),⇑l,.str (gk n ds)]/\off l\(.lst [.str name])/\pS n ds/\↑bU<=1000 /\
 ∀c I gb,Off [bl,db] I gb->aC off gb->aG I->ic t I bb bl db (eN bU (.inr name) ⇑c) bo->fO t gb c n ds->Q I
def YD(t:bA)(bb bl db l:Addr)(bU bo:List (Key×V))(off:ar)(vs:List V)(Q:ar->Prop):Prop:=∃(name vl:Str) (c:Addr) (n:Int) (ds:List aQ) (z:Nat) (sp:List bj),vs=[⇑bb,.str (aa "plan"),⇑l,.str (hy z sp)]/\off l\(.lst [.str name,.str vl])/\c6 bU (.inr vl)\⇑c/\fO t off c n ds/\OM n ds z sp/\↑bo<=1000 /\
 ∀a I gb,J1 n ds z sp->Off [bl,db] I gb->aC off gb->aG I->ic t I bb bl db bU (eN bo (.inr name) ⇑a)->h_ t gb a c n ds z sp->Q I
def N9(t:bA):bH:=λvs H Q E=>∃bb bl db l bU bo off,ic t H bb bl db bU bo/\Off [bl,db] H off/\aG H/\(UT t bb bl db l bU bo off vs (Q .b4)\/(YD t bb bl db l bU bo off vs (Q .b4)/\m3 (kz t) H E))
section
variable{P:Program}{w:World}{K:a'}{av:Str->Option Value}{base:Heap}{t:bA}{H:ar}{bb bl db e4 ak:Addr}
def Rq(T:Txt w K av t)(e:H bb\(.ins t.h3 ak (uV bl db e4))):ix K H bb (aa "crossings") ⇑bl:=(_,ak,_,e,T.rS,T.Ou,kI vI 0 (yZ ..) ∅ rfl)
def uQ(T:Txt w K av t)(e:H bb\(.ins t.h3 ak (uV bl db e4))):ix K H bb (aa "plans") ⇑db:=(_,ak,_,e,T.rS,T.OH,kI vI 1 (yZ ..) ∅ rfl)
end
def ab'(T:Txt w K av t):bD P w K av base (fm P w) 9 t.Af t.Ca Br (N9 t):=by
 have ahM:bD P w K av base cN 8 t.zW t.ym ["text"] (Wv t):=(agg T).mono ∅;have ajL:bD P w K av base (fm P w) 8 t.z9 t.yQ zt (Ow t):=anF T;have GW:bD P w K av base (fm P w) 8 t.wQ t.w7 u0 (Na t):=(Zd T).mono ∅;refine T.Sl.o7 Zh (λvs H Q E h=>?_) (λ_ _ _ s H vs Q E au h=>?_)
 .obtain ⟨bb,bl,db,l,bU,bo,off,_,_,_,⟨_,_,_,rfl,_⟩|⟨⟨_,_,_,_,_,_,_,rfl,_⟩,_⟩⟩:=h <;> rfl
 have bx:=iU au;let(bb,bl,db,l,bU,bo,off,n',aW,a8,h):=h;refine(_,(aN (c0 (cS eZ (U 1) Db (ct _)) (aN (rA bx (dJ (U 0) rfl) (bP dA (U 2) aS) (bT ahM au T.agD T.Pi.bt T.apX (ag (U 3) aA)) rfl)
   (aY al_)) c7)
   (aN (bO (i:=4) Zh.aD (pM GW au rfl T.XD T.As.bt T.SH .nil pD (ag (dJ (U 0) rfl) (ag (bP dA (U 2) aS) aA))))
   (aY (c0 (cS eZ (U 1) Db (ct _)) (aY (rA bx (dJ (U 0) rfl) (bP dA (U 2) aS) (pM ajL au rfl T.afV T.Ku.bt T.afq .nil pD (ag (U 4) (ag (U 3) aA))) rfl)) (aN lH
   (aY lH)))))),?_)
 let((ak,e4,jL),cK,dc,ne):=id n';rcases h with⟨name,n,ds,rfl,aw,ah,aI,q⟩|⟨⟨name,vl,c,n,ds,z,sp,rfl,aw,aM,C,ok,aI,q⟩,mb⟩
 .refine cX true (λQ aV=>?_) (λ_=>?_) (λah=>nomatch ah)
  .nofun;exact aV
  .nofun;refine(n,ds,[bl,db],off,rfl,ah,a8,aW,λc H1 gf s1 bY xA s2 C=>?_);have zm:=n'.same s1;exact(_,Rq T (s1 _ _ jL),_,aH.of (xA.a7 _ _ (s2 _ _ aw)),_,rfl,_,rfl,_,mO.k (k:=.inr name) zm.aJ (i5 aI ∅),q c _ gf (xA.put (by simp)) s2 bY.upd zm.akq C)
 .refine cX false (λQ aV=>?_) (λah=>nomatch ah) (λ_=>?_)
  .nofun;exact aV
  .nofun;have a0:gq H bl (.str vl) (some ⇑c):=by rw[<- aM];exact gq.k (k:=.inr vl) cK
   refine(_,Rq T jL,_,aH.of (aW.a7 _ _ aw),_,rfl,bl,vl,rfl,.inl (_,a0,?_));refine cX true (λQ aV=>?_) (λ_=>?_) (λah=>nomatch ah)
   .nofun;exact aV
   .nofun;refine(c,n,ds,z,sp,[bl,db],off,rfl,aW,C,ok.Nk,ok.d,ok.dS,ok.g,a8,mb,λaf aj a_ a H1 gf s1 bY xA s2 da=>?_);have zm:=n'.same s1;exact(_,uQ T (s1 _ _ jL),_,aH.of (xA.a7 _ _ (s2 _ _ aw)),_,rfl,_,rfl,_,mO.k (k:=.inr name) zm.ae (i5 aI ∅),q a _ gf (af,aj,a_) (xA.put (by simp)) s2 bY.upd zm.put2 da)
def NE(a b:List Str):bz a++bz b=bz (a++b):=by unfold bz;rw[ew]
noncomputable def m5(c:Nat):Str:=[aa "stop",aa "ready",aa "free",aa "fade"].getD c (aa "stop")
noncomputable def sK(c:Nat):Nat:=[46,58,124,126].getD c 46
noncomputable def fU(l:List Nat):Str:=⟨l.toArray⟩
def Ab(l:List Nat):(fU l).cps.toList=l:=rfl
def ur(l:List Nat):↑(fU l)=↑l:=d2 ..
def W_{x:Str}(h:x.cps.toList=l):x=fU l:=hg h
noncomputable def Tm(xs:List Str)(cs:List Nat):List (Key×V):=List.zipWith (λx c=>(p'p (b5 x) (V.str (m5 c)))) xs cs
structure kQ(xs:List Str):Prop where
 ln:1<=↑xs/\↑xs<=6
 aD:xs.Nodup
 al:∀x∈xs,(1<=↑x/\↑x<=8)/\∀c∈x.cps.toList,97<=c/\c<=122
structure qT(xs:List Str)(bC:List (List Nat)):Prop where
 ln:↑bC<=300
 al:∀cs∈bC,↑cs=↑xs/\∀c∈cs,c<4
def AC{cs:List Nat}(h:↑cs=↑xs):(Tm xs cs).map (·.1)=xs.map b5:=by
 unfold Tm;rw[List.map_zipWith];refine q7 (by simp[h]) λi af aj=>?_
 rw[List.getElem_zipWith,nZ]
def XY{xs:List Str}(h:xs.Nodup):(xs.map (b5:Str->Key)).Nodup:=by
 refine List.pairwise_map.mpr (h.imp λz e=>z (xm e))
def Bz{cs:List Nat}(h:↑cs=↑xs):↑(Tm xs cs)=↑xs:=by unfold Tm;rw[List.length_zipWith,h,Nat.min_self]
def MI{xs:List Str}{cs:List Nat}{j c:Nat}{x:Str}(ai:xs[j]?\x)(ah:cs[j]?\c):(Tm xs cs)[j]?\(p'p (b5 x) (V.str (m5 c))):=by
 unfold Tm;rw[List.getElem?_zipWith,ai,ah]
def age{xs:List Str}{cs:List Nat}(N:kQ xs)(aw:↑cs=↑xs){j c:Nat}{x:Str}(ai:xs[j]?\x)(ah:cs[j]?\c):c6 (Tm xs cs) (b5 x)\(V.str (m5 c)):=
 ajk (by rw[AC aw];exact XY N.aD) (cC (MI ai ah))
noncomputable def tr(bC:List (List Nat))(j:Nat):List Nat:=bC.map λcs=>sK (cs.getD j 0)
noncomputable def fW(x:Str)(j:Nat)(bC:List (List Nat)):List Nat:=x.cps.toList++ke (9-↑x) 32++tr bC j
noncomputable def uF(b:Int)(n:Nat):List Nat:=(el n).map λk:Nat=>48+((b+(k:Int))%10).toNat
noncomputable def mS(b:Int)(n:Nat):List Nat:=ke 9 32++uF b n
noncomputable def fX(b:Int)(xs:List Str)(bC:List (List Nat)):List Str:=fU (mS b ↑bC)::(if bC=[]then []else xs.mapIdx λj x=>fU (fW x j bC))
theorem UO:∀ys:List Str,(dk ⟨#[]⟩ ys).cps.toList=(ys.map (·.cps.toList)).flatten
 |[]=>rfl
 |[a]=>by
  show a.cps.toList=_;simp
 |a::b::r=>by
  show(a++⟨#[]⟩++dk ⟨#[]⟩ (b::r)).cps.toList=_;rw[gH,gS,gH,gS,UO (b::r)];simp
theorem Ye(f:α->Nat)(l:List α):(iT (aa "") (l.map λa=>i4 (f a))).cps.toList=l.map f:=by
 rw[show iT (aa "") (l.map λa=>i4 (f a))=dk ⟨#[]⟩ (l.map λa=>i4 (f a))from ve _ _,UO,pK]
 induction l with
 |nil=>rfl
 |cons a l b9=>rw[dZ,tm,b9];rfl
theorem Tw(f:α->Nat)(l:List α):(gR (λx:Str=>↑x) (l.map λa=>i4 (f a))).sum=↑l:=by
 rw[pK]
 induction l with
 |nil=>rfl
 |cons a l b9=>rw[dZ,M5,b9,gw,aqh];rfl
def acv(x:Str){n:Nat}:(qx x (n:Int)).cps.toList=x.cps.toList++ke (n-↑x) 32:=by
 have:=arQ x (n:Int) 32;rw[pN]at this;exact this
def afF(x:V)(xs:List V):k_ (x::xs) (some 1) none=xs:=by
 unfold k_;rw[show(1:Int)=((1:Nat):Int)from rfl,fx.abe,fx.agT];simp
def aaO(x:Str){b:Nat}(ae:b<=↑x.cps.toList):(qD x none (some (b:Int))).cps.toList=x.cps.toList.take b:=by
 have ai:↑x=↑x.cps.toList:=by simp[n5]
 have e:=StrLaws.sliceText_nat x (gx b) (by rw[ai];exact ae);have:qD x none (some (b:Int))=KH x (some ((0:Nat):Int)) (some (b:Int)):=by
  show KH x none (some (b:Int))=KH x (some ((0:Nat):Int)) (some (b:Int));unfold KH;rw[StrLaws.sliceIdx_none_lo];rfl
 rw[this,e];rfl
def amw{x:Str}(h:↑x<=8)(j:Nat)(bC:List (List Nat)):↑(fW x j bC)=9+↑bC:=by
 have ai:↑x.cps.toList=↑x:=l2;unfold fW tr;rw[c',c',kE,a9,ai];omega
def aoe{x:Str}(h:↑x<=8)(j:Nat)(bC:List (List Nat)):(fW x j bC).take 8=x.cps.toList++ke (8-↑x) 32:=by
 have ai:↑x.cps.toList=↑x:=l2;unfold fW;rw[jE,Z2,ai,l4 (),Z2,List.take_replicate,kE,show 8-↑x-(9-↑x)=0 by omega,Bv,ow,show min (8-↑x) (9-↑x)=8-↑x by omega]
def ah4{x:Str}(h:↑x<=8){j i c:Nat}{cs:List Nat}(kG:bC[i]?\cs)(ah:cs[j]?\c):(fW x j bC)[9+i]?\(sK c):=by
 have ai:↑x.cps.toList=↑x:=l2;unfold fW tr;have HC:↑(x.cps.toList++ke (9-↑x) 32)=9:=by rw[c',kE,ai];omega
 rw[sS (by rw[HC];omega),HC,Nat.add_sub_cancel_left,d7,kG];show some (sK (cs.getD j 0))=_;rw[gG,ah];rfl
def akO{xs:List Str}{cs:List Nat}(N:kQ xs)(aw:↑cs=↑xs){k c:Nat}{x:Str}(ai:xs[k]?\x)(ah:cs[k]?\c):eN ((Tm xs cs).take k) (b5 x) (V.str (m5 c))=(Tm xs cs).take (k+1):=by
 have aD:((Tm xs cs).map (·.1)).Nodup:=by rw[AC aw];exact XY N.aD
 have nK:=MI ai ah;unfold eN;rw[if_neg,tn,nK]
 .rfl
 .intro z;let(c2,rb,e):=qO.mp z;have e:c2.1=b5 x:=of_decide_eq_true e;let(i,ao,aE):=sG rb;rw[fw]at ao;rw[aoc]at aE;let(aI,b7):=cv.mp nK;have:=(Bn (xs:=(Tm xs cs).map (·.1)) (i:=i) (j:=k) (h₀:=by rw[a9];omega) (h₁:=by rw[a9];omega) aD).mp (by rw[nZ,nZ,aE,b7];exact e);omega
theorem adn:∀{c:Nat},c<4->mA (m5 c) Ot\(V.str (i4 (sK c)))
 |0,_=>∅
 |1,_=>∅
 |2,_=>∅
 |3,_=>∅
theorem agH:∀{c:Nat},c<4->mA (i4 (sK c)) ww\(V.str (m5 c))
 |0,_=>∅
 |1,_=>∅
 |2,_=>∅
 |3,_=>∅
structure Hb(H:ar)(p:Addr)(ps:List Addr)(bF:List (List (Key×V))):Prop where
 at_:H p\(.lst (ps.map V.ref))
 len:↑ps=↑bF
 al:∀(j:Nat) (a:Addr) (kvs:List (Key×V)),ps[j]?\a->bF[j]?\kvs->lS H a (.bL kvs)
def alS{p:Addr}{bF:List (List (Key×V))}(h:rQ H p ps bF)(s:aC H I):rQ I p ps bF:=(s _ _ h.at_,h.len,λj a kvs af aj=>s _ _ (h.al j a kvs af aj))
def ahZ:bH:=λvs H Q _=>∃xs bC j x p ps,vs=[.str x,⇑p]/\kQ xs/\qT xs bC/\xs[j]?\x/\Hb H p ps (bC.map (Tm xs))/\aG H/\Q (.str (fU (fW x j bC))) H
def ahm:bH:=λvs H Q _=>∃xs bC j x p ps,vs=[.str x,⇑p]/\kQ xs/\qT xs bC/\xs[j]?\x/\Hb H p ps (bC.map (Tm xs))/\aG H/\∀I,aC H I->Q (.str (fU (fW x j bC))) I
def alR:cj P base T 1 t.Kp t.G0 y1 ahZ:=by
 refine bD.forget (sp:=ahm) ?_ λvs H Q E h=>?_
 .exists T.H4.ok Rj,9
  let(xs,bC,j,x,p,ps,rfl,N,C,ai,D,a8,q):=h;have bx:=iU au;have xo:=Dj au;have hc:↑(ps.map V.ref)=↑bC:=by rw[a9,D.len,a9]
  have wd:=C.ln;have aZ:j<↑xs:=(cv.mp ai).1;have bc:=N.al x (cC ai);have mJ:∀k:Nat,k<=10000->k<=sizeLine:=λk h=>cH h ∅
  refine(_,(aN (bO (i:=2) Rj.aD (gL lT yH z3 vT Db (ag (iz rfl (e5 (U 1)) (hi (sc:=br (top 49)) rfl ∅) (N:=["row","name"]) (sel:=[none,some 0]) (ha (M:=["name","rows","signs"]) ∅) (fR.of (λ_ _ _ _=>(b6 (i:=0) (fk (N:=["row","name"]) ∅ rfl))) (λ_ _ _ _=>(_,iB,by walk_at "B")) (λ_ _ _ _=>(_,(F2 rfl T.aow T.aol (j7 bx (U 0) (U 1) (λ_ _=>rfl)) (λ_ _=>rfl)),by walk_at "B")))) aA)))
   (aY (bR (bk fv (bk fv (gL lT ahx aiw VF (U 0) (ag (gN rfl T.V9 T.Qz) aA)) Db) (U 2))))),?_)
  exists (λaT I=>aC H I/\∃fp:Str,fp.cps.toList=tr bC j/\aT=[some (.str x),~~~p,some (.str fp)]),3
  .nofun;refine((_,aH.of D.at_),?_);refine dv.tu (xs:=ps.map V.ref) (zs:=bz (bC.map λcs=>i4 (sK (cs.getD j 0)))) (aH.of D.at_) (by rw[hc];exact mJ _ ()) (by unfold bz;rw[a9,a9,hc]) (λi v z RV aM ax tk=>?_) (λd8 iA=>?_)
   .let(a,aJ,rfl):=cF aM;let(y,bg,rfl):=cF ax;let(cs,kG,rfl):=cF bg;let(bU,bo):=C.al cs (cC kG);have ah:cs[j]?\(cs[j]'()):=bJ _;have xe:=bo _ (cC ah);rw[gG,ah]at tk;generalize cs[j]'()=c at ah xe tk;have rd:=D.al i a (Tm xs cs) aJ (by rw[d7,kG];rfl);have a0:gq H a (.str x) (some (V.str (m5 c))):=.inl (_,b5 x,rd,rfl,(age N bU ai ah).symm);nofun;exact(Sub.name,_,a0,_,rfl,_,adn xe,tk)
   .refine (d8,rfl,bC.map λcs=>i4 (sK (cs.getD j 0)),aH.of aP,?_,bB _ _ (bp iA,_,Ye (λcs:List Nat=>sK (cs.getD j 0)) bC,rfl));rw[Tw (λcs:List Nat=>sK (cs.getD j 0)),(∅:↑(aa "")=0)];omega
  intro h8 H1 (s1,fp,EP,rfl);have Yp:=acv x (n:=8);have Yf:↑(qx x 8)=8:=by
   show(qx x ((8:Nat):Int)).cps.size=8;rw[<- l2,Yp,c',kE,l2];have:=bc.1;show ↑x+(8-↑x)=8;omega
  have asV:↑fp=↑bC:=by
   show fp.cps.size=↑bC;rw[<- l2,EP];unfold tr;rw[a9]
  have aq7:↑(aa " ")=1:=∅
  subst ba;nofun;refine(∅,mJ _ (),mJ _ (by rw[gQ];omega),?_);rw[W_ (x:=qx x 8++aa " "++fp) (l:=fW x j bC) ?_]
  .exact q _ s1
  .rw [gH,gS,gH,gS,EP,show qx x 8=qx x ((8:Nat):Int)from rfl,Yp,show(aa " ").cps.toList=ke 1 32 by ac_nf];unfold fW;rw[jE x.cps.toList,List.replicate_append_replicate];have:=bc.1;rw[show 8-↑x+1=9-↑x by omega]
 .let(xs,bC,j,x,p,ps,rfl,N,C,ai,D,a8,q):=h;exact(a8,xs,bC,j,x,p,ps,rfl,N,C,ai,D,a8,λI a7=>(a7,q))
def aki{n:Nat}(h:n<10):n.log2<1920:=((∅:∀n,n<10->Nat.log2 n<1920)) n h
def agJ:∀k:Nat,k<10->aa (toString ((k:Nat):Int))=i4 (48+k):=∅
def afo:bH:=λvs H Q _=>∃b xs bC p ps,vs=[.int b,⇑p]/\kQ xs/\qT xs bC/\rQ H p ps (bC.map (Tm xs))/\aG H/\∀q I,aC H I->aG I->H q=none->I q\(.lst (bz (fX b xs bC)))->Q ⇑q I
def als:cj P base T 2 t.Hk t.Ke LO afo:=by
 refine cn (alR T) λacU=>?_;exists T.Hs.ok JR,9
 let(b,xs,bC,p,ps,rfl,N,C,D,a8,q):=h;have bx:=iU au;have xo:=Dj au;have hc:↑(ps.map V.ref)=↑bC:=by rw[a9,D.len,a9]
 have wd:=C.ln;have mJ:∀k:Nat,k<=10000->k<=sizeLine:=λk h=>cH h ∅
 refine(_,(aN (bO (i:=2) JR.aD (gL lT yH z3 vT Db (ag (iz rfl (lb rfl T.i9 (ag (f7 iM rfl T.hY hT (ag (U 1) aA)) aA)) (hi (sc:=br (top 50)) rfl ∅) (N:=["step","begin"]) (sel:=[none,some 0]) (ha (M:=Lg) ∅) (fR.of (λ_ _ _ _=>(b6 (i:=0) (fk (N:=["step","begin"]) ∅ rfl))) (λ_ _ _ _=>(_,iB,by walk_at "B")) (λ_ _ _ _=>(_,(jo lR rfl T.lY lp (ag (bk iu (bk dd (U 1) (U 0)) aS) aA)),by walk_at "B")))) aA)))
   (aN (bO (i:=3) JR.aD (fE (ag (bk fv (gL lT ahx aiw VF Db (ag (gN rfl T.N3 T.Q7) aA)) (U 2)) aA)))
   (aN (c0 (Fv (U 1) (λ_=>rfl)) (aY (eu (gL mw al' PySem.F.type_list_extend ahp (U 3) (ag (aoH (iz rfl (anC (bP dA (U 1) aS)) (hi (sc:=br (top 50)) rfl ∅) (N:=y1) (sel:=[none,some 1]) (ha (M:=Lg) ∅) (fR.of (λ_ _ _ _=>(b6 (i:=0) (fk (N:=y1) ∅ rfl))) (λ_ _ _ _=>(_,iB,by walk_at "B")) (λ_ _ _ _=>(_,(bT acU au T.aoE T.H4.bt T.afT (ag (U 0) (ag (U 1) aA))),by walk_at "B"))))) aA)))) c7)
   (aY (bR (U 3)))))),?_)
 exists (λaT I=>aC H I/\aG I/\∃rE:Str,rE.cps.toList=uF b ↑bC/\aT=[some (.int b),~~~p,some (.str rE),none]),3
 .nofun;refine(_,.inl (aH.of D.at_),(),by rw[hc];omega,?_);rw[hc,pN];refine dv.Ik (n:=↑bC) (λi=>V.str (i4 (48+((b+(i:Int))%10).toNat))) (mJ _ ()) (λi RV ao tk=>?_) (λd8 iA=>?_)
  .have fa:0<=(b+(i:Int))%10:=e8 _ ∅;have e':(b+(i:Int))%10<10:=e_ _ ∅;have e:=agJ ((b+(i:Int))%10).toNat ();rw[iF fa]at e;nofun;refine(Sub.name,∅,aki (),?_);rw[e];exact tk
  .have e:(el ↑bC).map (λi:Nat=>V.str (i4 (48+((b+(i:Int))%10).toNat)))=bz ((el ↑bC).map λi:Nat=>i4 (48+((b+(i:Int))%10).toNat)):=by unfold bz;rw[pK];rfl
   refine(d8,rfl,(el ↑bC).map λi:Nat=>i4 (48+((b+(i:Int))%10).toNat),by rw[<- e];exact aH.of aP,?_,bB _ _ (bp iA,a8.upd,_,Ye (λi:Nat=>48+((b+(i:Int))%10).toNat) (el ↑bC),rfl));rw[Tw (λi:Nat=>48+((b+(i:Int))%10).toNat),kf,(∅:↑(aa "")=0)];omega
 intro h8 H1 (s1,bY,rE,T5,rfl);have arO:↑rE=↑bC:=by
  show rE.cps.size=↑bC;rw[<- l2,T5];unfold uF;rw[a9,kf]
 have Qh:(qx (aa " ") 9).cps.toList=ke 9 32:=∅
 have HC:↑(qx (aa " ") 9)=9:=∅
 subst ba;exists (λaT I=>aC H I/\aG I/\∃cI,H cI=none/\I cI\(.lst (bz [fU (mS b ↑bC)]))/\aT=[some (.int b),~~~p,some (.str rE),~~~cI]),3
 .nofun;refine(∅,mJ _ (),∅,λcI ks=>bB _ _ (s1.trans (bp ks),bY.upd,cI,s1.free ks,?_,rfl));rw[aP,W_ (x:=qx (aa " ") 9++rE) (l:=mS b ↑bC) (by rw[gH,gS,Qh,T5];rfl)];rfl
 intro c8 ay (s2,cg,cI,ks,d0,rfl);subst ba;exists (λaT I=>aC H I/\aG I/\I cI\(.lst (bz (fX b xs bC)))/\aT=[some (.int b),~~~p,some (.str rE),~~~cI]),3
 .refine cX (decide (bC≠[])) (λQ aV=>?_) (λwD=>?_) (λwD=>?_)
  .nofun;refine(_,.inl (_,aH.of (s2 _ _ D.at_),rfl),?_);rw[show(!(ps.map V.ref).isEmpty)=decide (bC≠[])by
    rw[mQ,Xg,decide_eq_true_eq,<- Bool.not_eq_true,List.isEmpty_iff,<- XS,hc,ne_eq,XS]]
   exact aV
  .have ah:bC≠[]:=of_decide_eq_true wD;have Mb:bC[0]?\(bC[0]'(Jb.mpr ah)):=bJ _;generalize bC[0]'(Jb.mpr ah)=et at Mb;let(jB,F8):∃a,ps[0]?\a:=(_,bJ (show 0<↑ps by rw[D.len,a9];exact Jb.mpr ah));have gO:=alS D s2;have cR:=gO.al 0 jB (Tm xs et) F8 (by rw[d7,Mb];rfl);have SV:=(C.al et (cC Mb)).1;have uu:p≠jB:=d_ gO.at_ cR (by intro z;cases z);have K4:cI≠jB:=d_ d0 cR (by intro z;cases z);nofun;refine(.inl (_,aH.of d0),jB,Tm xs et,cR,_,aH.of gO.at_,_,cO (j:=0) (by rw[d7,F8];rfl),jB,rfl,Tm xs et,cR,λo=>?_);generalize Nb:upd ay jB (.eO o (.bL (Tm xs et)))=uM;have xT:uM jB\(.eO o (.bL (Tm xs et))):=by rw[<- Nb];exact aP
   have sQ:∀{b:Addr} {u:eY},b≠jB->ay b\u->uM b\u:=λae e=>by rw[<- Nb,aO ae];exact e
   have aqS:Hb uM p ps (bC.map (Tm xs)):=(sQ uu gO.at_,gO.len,λj a kvs af aj=>by
    have e:=gO.al j a kvs af aj;by_cases ca:a=jB
    .rw [ca]at e⊢;rw[cR]at e;cases e;exact .inr (o,xT)
    .exact .inl (sQ ca e))
   have hJ:aG uM:=by rw[<- Nb];exact cg.upd
   refine dv.of (n:=↑xs) (λi ys I=>I=uM/\ys=(bz (xs.mapIdx λj x=>fU (fW x j bC))).take i) (mJ _ (by have:=N.ln;omega)) (rfl,rfl) (λi ys I ao e=>(by rw[e.1];exact xT,by rw[Bz SV];exact ao)) (λys I e=>(by rw[e.1];exact xT,by rw[Bz SV];exact b0 _)) (λi ys I ao e=>by rw[e.2,fw];omega) ?_ ?_
   .intro i ys I v vM ao (rfl,rfl) (rfl,k,jv,rb,rfl) RV tk;have ai:xs[i]?\xs[i]:=bJ ao;generalize xs[i]=x at ai;have ab7:et[i]?\(et[i]'()):=bJ _;rw[MI ai ab7]at rb;cases rb;nofun;refine(Sub.name,xs,bC,i,x,p,ps,rfl,N,C,ai,aqS,hJ,tk _ _ (rfl,?_));rw[tn,NM (show(xs.mapIdx λj x=>fU (fW x j bC))[i]? = some (fU (fW x i bC))by rw[afn,ai];rfl)];rfl
   .rintro ys I ⟨rfl,rfl⟩ d8 iA;have Tj:d8≠jB:=fun z=>by rw[z,xT]at iA;cases iA
    rw[l4 (by rw[mi,Eb];exact b0 _)];refine(o,by rw[aO (dB Tj)];exact xT,d8,rfl,bz [fU (mS b ↑bC)],?_,_,by rw[aO Tj];exact aP,?_,?_)
    .rw [aO K4,aO (λz=>by rw[<- z,sQ K4 d0]at iA;cases iA)];exact sQ K4 d0
    .exact cH (show _<=7 by rw[mi,mi,Eb];have:=N.ln;show 1+↑xs<=7;omega) ∅
    .have Gu:aC ay (upd (upd I d8 (.lst (bz (xs.mapIdx λj x=>fU (fW x j bC))))) jB (.bL (Tm xs et))):=λjy u e=>by
      by_cases ca:jy=jB
      .rw [ca,aP];rw[ca,cR]at e;exact e
      .have:=sQ ca e;rw[aO ca,aO (λz=>by rw[z,iA]at this;cases this)];exact this
     refine bB _ _ ((s2.trans Gu).gm ks,(hJ.upd.upd).upd,?_,rfl);rw[aP,NE];unfold fX;rw[if_neg ah];rfl
  .simp only[g7];have ah:bC=[]:=by simpa using of_decide_eq_false wD
   refine bB _ _ (s2,cg,?_,rfl);rw[d0];unfold fX;rw[if_pos ah]
 intro iO bq (s3,dh,g6,rfl);subst ba;nofun;exact q cI bq s3 dh ks g6
def aj1:∀{c:Nat},97<=c->c<=122->Hm ⟨#[c]⟩=false:=λ{c} af aj=>((∅:∀c,c<123->97<=c->Hm ⟨#[c]⟩=false)) c () af
def ajp{x:Str}{n:Nat}(e:x.cps.toList=l++ke n 32)(h0:1<=↑l)(al:∀c∈l,97<=c/\c<=122):(TR x).cps.toList=l:=by
 have f':∀c∈x.cps.toList,c<128:=λc ah=>by
  rw[e]at ah;rcases il.mp ah with z|z
  .have:=al c z;omega
  .rw [LX z];decide
 have ta:↑x=↑l+n:=by
  show x.cps.size=_;rw[<- l2,e,c',kE]
 have gt:∀k,x.cps.getD k 0=(l++ke n 32).getD k 0:=λk=>by
  rw[<- e,Array.getD_eq_getD_getElem?,gG,Ko]
 have gl:∀k,k<↑l->Hm ⟨#[x.cps.getD k 0]⟩=false:=λk aI=>by
  rw[gt,gG,sv aI,bJ aI];have:=al _ (nH aI);exact aj1 this.1 this.2
 have gs:∀k,↑l<=k->k<↑l+n->Hm ⟨#[x.cps.getD k 0]⟩=true:=λk af aj=>by
  rw[gt,gG,sS af,Dn,if_pos ()];ac_nf
 let(ao,a1,a2,uL,UI):=arU f';have apm:ao=↑l:=by
  rcases aa3 ao ↑l with z|z|z
  .have:=uL (↑l-1) () ();rw[gl _ ()]at this;cases this
  .exact z
  .rcases UI with y|y
   .omega
   .rw [gs (ao-1) () ()]at y;cases y
 rw[a2,apm];show(x.cps.extract 0 ↑l).toList=l;rw[Rd,e];simp
def Vq:bH:=λvs H Q _=>∃b xs bC dp,vs=[⇑dp]/\kQ xs/\qT xs bC/\bC≠[]/\H dp\(.lst (bz (fX b xs bC)))/\aG H/\∀q qs I,aC H I->aG I->H q=none->(∀a∈qs,H a=none)->qs.Nodup->rQ I q qs (bC.map (Tm xs))->Q ⇑q I
set_option tactic.hygienic true in
theorem adt:cj P base T 1 t.ED t.EH ["texts"] Vq:=by
 exists T.NN.ok xV,9
 let(b,xs,bC,dp,rfl,N,C,ah,UJ,a8,q):=h;have bx:=iU au;have xo:=Dj au;have wd:=C.ln;have tG:=N.ln;have mJ:∀k:Nat,k<=10000->k<=sizeLine:=λk h=>cH h ∅
 have hd:fX b xs bC=fU (mS b ↑bC)::xs.mapIdx λj x=>fU (fW x j bC):=by unfold fX;rw[if_neg ah]
 have agv:↑(fU (mS b ↑bC))=9+↑bC:=by
  rw[ur];unfold mS uF;rw[c',kE,a9,kf]
 refine(_,(aN (bO (i:=1) xV.aD (fE aA))
   (aN (eF fJ rfl (KV rfl T.i9 (ag (gN rfl T.N3 T.Q7) (ag (f7 T8 rfl T.hY hT (ag (bP dA (U 0) aS) aA)) aA))) (b6 (i:=2) xV.aD) (aN (bO (i:=3) xV.aD ql)
   (aN (eF fJ rfl (e5 (tE H6 (U 0) (tC aS) s6)) (b6 (i:=4) xV.aD) (aY (rA bx (U 3) (Nc lT PySem.F.slot_str_rstrip PySem.F.type_str_rstrip ai8 (tE Jx (U 4) s6 (tC (gN rfl T.V9 T.Qz)))) (F2 rfl T.aqq T.aeK (bP Fs (U 4) (U 2)) (λ_ _=>rfl)) rfl)))
   (aY (eu (gL mw qK rl qJ (U 1) (ag (U 3) aA)))))))
   (aY (bR (U 1))))),?_)
 exists (λaT I=>aC H I/\aG I/\∃kh,H kh=none/\I kh\(.lst [])/\aT=[~~~dp,~~~kh,none,none,none]),3
 .nofun;exact(gx _,λkh yS=>bB _ _ (bp yS,a8.upd,kh,yS,aP,rfl))
 intro h8 H1 (s1,bY,kh,yS,c_,rfl);subst ba;exists (λaT I=>aC H I/\aG I/\(∃qs:List Addr,rQ I kh qs (bC.map (Tm xs))/\qs.Nodup/\∀a∈qs,H a=none)/\∃fZ dx gA,aT=[~~~dp,~~~kh,fZ,dx,gA]),3
 .nofun;refine(_,aH.of (s1 _ _ UJ),_,cO (j:=0) (NM (by rw[hd];rfl)),_,rfl,mJ _ (),∅,∅,(),(),?_);rw[agv,show(((9+↑bC:Nat):Int)-9).toNat=↑bC by omega];refine dW.range (λi σ I=>aC H I/\aG I/\(∃qs:List Addr,rQ I kh qs ((bC.take i).map (Tm xs))/\qs.Nodup/\∀a∈qs,H a=none)/\∃fZ dx gA,σ=[~~~dp,~~~kh,fZ,dx,gA]) (s1,bY,([],(c_,rfl,λj a kvs h=>by simp at h),Cw,λa h=>by simp at h),_,_,_,rfl) ?_ ?_
  .rintro i σ I ao a3;ac_rfl
   let(s2,cg,(qs,gO,x1,zw),fZ,dx,gA,rfl):=a3;have kG:bC[i]?\bC[i]:=bJ ao;subst ba;generalize bC[i]=cs at kG;let(bU,bo):=C.al cs (cC kG);have wx:↑qs=i:=by rw[gO.len,a9,fw];omega
   simp only[gu,d4,j',j8];refine DA (λaT bq=>aC I bq/\aG bq/\∃fh,I fh=none/\bq fh\(.bL [])/\aT=[~~~dp,~~~kh,some (.int (9+(i:Int))),~~~fh,gA]) (λanj Js=>?_) λt8 ba=>?_
   .nofun;exact λfh kZ=>Js _ _ (bp kZ,cg.upd,fh,kZ,aP,rfl)
   intro iO bq (s3,dh,fh,kZ,g6,rfl);subst ba;simp only[d4];refine DA (λaT cc=>aC I cc/\aG cc/\cc fh\(.bL (Tm xs cs))/\∃gA,aT=[~~~dp,~~~kh,some (.int (9+(i:Int))),~~~fh,gA]) (λanj Js=>?_) λt8 ba=>?_
   .nofun;refine(_,aH.of ((s2.trans s3) _ _ UJ),λBa F'=>((_,aH.of aP),?_));rw[hd,show bz (fU (mS b ↑bC)::xs.mapIdx λj x=>fU (fW x j bC))=.str (fU (mS b ↑bC))::bz (xs.mapIdx λj x=>fU (fW x j bC))from rfl,afF];generalize FF:upd bq Ba (.lst (bz (xs.mapIdx λj x=>fU (fW x j bC))))=hF;have dc:hF Ba\(.lst (bz (xs.mapIdx λj x=>fU (fW x j bC)))):=by rw[<- FF];exact aP
    have hs:aC bq hF:=by rw[<- FF];exact bp F'
    have nb:aG hF:=by rw[<- FF];exact dh.upd
    have alk:Ba≠fh:=λz=>by rw[z,g6]at F';cases F'
    refine dW.list (xs:=bz (xs.mapIdx λj x=>fU (fW x j bC))) (λk σ cQ=>(∀b,b≠fh->cQ b=hF b)/\aG cQ/\cQ fh\(.bL ((Tm xs cs).take k))/\∃y,σ=[~~~dp,~~~kh,some (.int (9+(i:Int))),~~~fh,y]) (λ_ _=>rfl,nb,hs _ _ g6,_,rfl) (λk σ cQ aI e=>aH.of (by rw[e.1 Ba alk];exact dc)) ?_ ?_
    .rintro k v σ cQ aM a3;ac_rfl
     let(KD,jk,C2,y,rfl):=a3;let(aj2,y',rfl):=cF (show((xs.mapIdx λj x=>fU (fW x j bC)).map V.str)[k]? = some v from aM);subst ba;rw[afn]at y';cases ai:xs[k]? with
     |none=>rw[ai]at y';cases y'
     |some x=>
     rw[ai]at y';cases y';have bc:=N.al x (cC ai);have Wy:k<↑xs:=(cv.mp ai).1;have AA:cs[k]?\(cs[k]'()):=bJ _;have xe:=bo _ (cC AA);generalize cs[k]'()=c at AA xe;have wl:=amw bc.1.2 k bC;have acJ:(qD (fU (fW x k bC)) none (some 8)).cps.toList=x.cps.toList++ke (8-↑x) 32:=by
      have:=aaO (fU (fW x k bC)) (b:=8) (by rw[Ab,wl];omega);rw[Ab,aoe bc.1.2]at this;exact this
     have rs:TR (qD (fU (fW x k bC)) none (some 8))=x:=hg (ajp acJ (by rw[l2];exact bc.1.1) bc.2);have ls:=Fi (fU (fW x k bC)) none (some 8);have lw:↑(fU (fW x k bC))=9+↑bC:=by rw[ur,wl]
     nofun;refine(mJ _ (),_,?_,_,agH xe,mJ _ (),mJ _ (),_,by rw[rs];exact mO.k (k:=b5 x) C2 (i5 (show _<=6 by rw[fw,Bz bU];omega) ∅),λjy ae=>by rw[aO ae];exact KD jy ae,jk.upd,by rw[aP,akO N bU ai AA],_,rfl);rw[Ab,show(9:Int)+(i:Int)=((9+i:Nat):Int)by omega];exact cO (ah4 bc.1.2 kG AA)
    .rintro σ cQ a3;ac_rfl
     let(KD,jk,C2,y,rfl):=a3;subst ba;rw[mi,Eb,l4 (by rw[Bz bU];exact b0 _)]at C2;exact Js _ _ (λjy u e=>by
      have ae:jy≠fh:=λz=>by rw[z,kZ]at e;cases e
      rw[KD jy ae];exact hs _ _ (s3 _ _ e),jk,C2,_,rfl)
   intro qZ cc (s4,ez,wC,arj,rfl);have IA:=s4 _ _ gO.at_;have aqR:kh≠fh:=λz=>by rw[<- z,gO.at_]at kZ;cases kZ
   subst ba;nofun;refine(.inl (_,aH.of IA),_,IA,i5 (show _<=300 by rw[a9,wx];omega) ∅,(s2.trans s4).gm yS,ez.upd,(qs++[fh],(by rw[aP,ew];rfl,by rw[c',wx,a9,fw];show i+1=_;omega,λj a kvs af aj=>?_),?_,λa aJ=>?_),?_)
   .rw[SO (Tm xs) kG]at aj;have tF:↑((bC.take i).map (Tm xs))=i:=by rw[a9,fw];omega
    rcases h4 af with⟨dS,dF⟩|⟨dS,rfl⟩
    .rcases h4 aj with⟨mq,o_⟩|⟨mq,_⟩
     .have e:=s4 _ _ (gO.al j a kvs dF o_);rw[aO (d_ e IA (by intro z;cases z))];exact e
     .omega
    .rcases h4 aj with⟨mq,_⟩|⟨_,rfl⟩
     .omega
     .rw [aO (dB aqR)];exact wC
   .refine Xj.mpr (x1,sZ.mpr (by simp,Cw),λa aJ jy fL e=>?_);rw[j5.mp fL]at e;let(j,aZ):=pJ aJ;have Mc:j<↑((bC.take i).map (Tm xs)):=by rw[<- gO.len];exact(cv.mp aZ).1
    have:=gO.al j a _ aZ (bJ Mc);rw[e,kZ]at this;cases this
   .rcases il.mp aJ with z|z
    .exact zw a z
    .rw [j5.mp z];exact s2.free kZ
   .exact (_,rfl)
  .rintro σ I a3;ac_rfl
   let(s2,cg,(qs,gO,x1,zw),fZ,dx,gA,rfl):=a3;subst ba;rw[kR]at gO;exact bB _ _ (s2,cg,(qs,gO,x1,zw),_,_,_,rfl)
 intro c8 ay (s2,cg,(qs,gO,x1,zw),fZ,dx,gA,rfl);subst ba;nofun;exact q kh qs ay s2 cg yS zw x1 gO
noncomputable def fi(ds:List aQ)(f:aQ->Str):List (Key×V):=ds.map λd=>(p'p (b5 d.name) (V.str (f d)))
def abv(ds:List aQ)(f:aQ->Str):gR (λq=>dC q.fst) (fi ds f)=bz (ds.map (·.name)):=by
 unfold fi bz;rw[pK,pK];rfl
def agC{ds:List aQ}{f:aQ->Str}(h:(ds.map (·.name)).Nodup){i:Nat}{d:aQ}(hd:ds[i]?\d):eN (fi (ds.take i) f) (b5 d.name) (.str (f d))=fi (ds.take (i+1)) f:=by
 unfold eN;have no:((fi (ds.take i) f).any λc2=>decide (c2.1=b5 d.name))=false:=by
  rw[LD];intro p aq;unfold fi at aq;let(e,he,rfl):=dg.mp aq;let(j,aZ):=pJ he;have Mc:=(cv.mp aZ).1;rw[fw]at Mc;rw[CG ()]at aZ;simp only[decide_eq_true_eq];intro z;have:=xB h aZ hd (xm z);omega
 rw[if_neg (by rw[no];exact gZ),jn hd];unfold fi;rw[ew];rfl
theorem ajd{ds:List aQ}{f:aQ->Str}(h:(ds.map (·.name)).Nodup){i:Nat}{d:aQ}(hd:ds[i]?\d):c6 (fi ds f) (b5 d.name)\(.str (f d)):=by
 have:∀(l:List aQ),(l.map (·.name)).Nodup->d∈l->c6 (fi l f) (b5 d.name)\(.str (f d)):=λl=>by
  induction l with
  |nil=>intro _ h;cases h
  | cons x l b9=>
   intro aL hm;by_cases c:x.name=d.name
   .have:x=d:=by
     rcases cT.mp hm with e|e
     .exact e.symm
     .exact absurd (dg.mpr (d,e,c.symm)) (sZ.mp aL).1
    subst this;simp[c6,fi]
   .have Jn:d∈l:=by
     rcases cT.mp hm with e|e
     .exact absurd (by rw[e]) c
     .exact e
    have:=b9 (sZ.mp aL).2 Jn;simp only[c6,fi,dZ,oo]at this⊢;simp[c]at this⊢;exact this
 exact this ds h (cC hd)
theorem Ju{P:α->Prop}{v:α}(aM:P v)(b:Int):∀(k:Nat) (l:List α),(∀x∈l,P x)->∀x∈jC z v b k l,P x
 |0,_,h=>h
 |k+1,l,h=>λx ai=>by
  unfold jC o1 at ai;rcases UA ai with e|e
  .exact Ju aM b k l h x e
  .rw [e];exact aM
theorem Q9{P:α->Prop}{v:α}(aM:P v)(b:Int):∀(k:Nat) (l:List α),(∀x∈l,P x)->∀x∈ng z v b k l,P x
 |0,_,h=>h
 |k+1,l,h=>λx ai=>by
  unfold ng o1 at ai;rcases UA ai with e|e
  .exact Q9 aM b k l h x e
  .rw [e];exact aM
noncomputable def tq(s:Str):Nat:=if s=aa "stop" then 0 else if s=aa "ready" then 1 else if s=aa "free" then 2 else 3
def GL(s:Str):tq s<4:=by unfold tq;repeat (first|decide|split)
def lI(s:Str):Prop:=m5 (tq s)=s
theorem akH(z rd fd:Nat)(ps:List (Int×Int)):∀x∈hR z rd fd ps,lI x:=by
 have af:lI (aa "stop"):=by unfold lI;ac_nf
 have aj:lI (aa "ready"):=by unfold lI;ac_nf
 have a_:lI (aa "free"):=by unfold lI;ac_nf
 have b':lI (aa "fade"):=by unfold lI;ac_nf
 unfold hR
 suffices h:∀l:List Str,(∀x∈l,lI x)->∀x∈ps.foldl (m9 z rd fd) l,lI x from h _ λx ai=>by rw[LX ai];exact af
 induction ps with
 |nil=>exact λl h=>h
 |cons p ps b9=>exact λl h=>b9 _ (by unfold m9;exact Ju b' _ _ _ (Ju a_ _ _ _ (Q9 aj _ _ _ h)))
def Kq(ax:0<z){sp:List bj}{d:aQ}{turn:Int}:lI (h5 z sp d turn):=by
 have aw:↑(oh z sp d)=z:=wH _ _ _ _;have h0:=e8 turn (show(z:Int)≠0 by omega);have af:=e_ turn (show(0:Int)<z by omega);have aZ:(turn%(z:Int)).toNat<↑(oh z sp d):=by rw[aw];omega
 unfold h5;rw[bJ aZ];exact akH _ _ _ _ _ (nH aZ)
noncomputable def rv(z:Nat)(sp:List bj)(ds:List aQ)(turn:Int):List Nat:=ds.map λd=>tq (h5 z sp d turn)
def UN(ax:0<z)(sp:List bj)(ds:List aQ)(turn:Int):fi ds (λd=>h5 z sp d turn)=Tm (ds.map (·.name)) (rv z sp ds turn):=by
 unfold fi Tm rv;rw[List.zipWith_map,List.zipWith_self];refine Sf λd _=>?_
 rw[show m5 (tq (h5 z sp d turn))=h5 z sp d turn from Kq ax]
def Rv(t:bA):bH:=λvs H Q _=>∃(pl c:Addr) (n:Int) (ds:List aQ) (z:Nat) (sp:List bj) (turn:Int),vs=[⇑pl,.int turn]/\h_ t H pl c n ds z sp/\0<z/\aG H /\
 ∀p I,aC H I->aG I->H p=none->I p\(.bL (fi ds λd=>h5 z sp d turn))->Q ⇑p I
def Us:cj P base T 4 t.DQ t.bn AM (Rv t):=by
 refine cn (an' T) λZK=>cn (zN T) λnW=>?_;exists T.EY.ok NF,9
 let(pl,c,n,ds,z,sp,turn,rfl,da,ax,a8,q):=h;generalize hf:(λd=>h5 z sp d turn)=f at q;let(ak,p,lm,un,dI,C,_,_,_):=da.at_;let((hQ,hU),uj,wl,aD,az,_,_):=id C;have bx:=iU au;refine(_,(aN (bO (i:=2) NF.aD ql)
   (aN (eF fJ rfl (e5 (iL (dJ (U 0) rfl) T.g5 T.sT nW au T.sI .nil cJ)) (b6 (i:=3) NF.aD) (aY (rA bx (U 2) (U 3) (bT ZK au T.aqM T.F1.bt T.alp (ag (U 0) (ag (U 3) (ag (U 1) aA)))) rfl)))
   (aY (bR (U 2))))),?_)
 exists (λaT I=>aC H I/\aG I/\∃fh,H fh=none/\I fh\(.bL [])/\aT=[~~~pl,some (.int turn),~~~fh,none]),4
 .nofun;exact λfh kZ=>bB _ _ (bp kZ,a8.upd,fh,kZ,aP,rfl)
 intro h8 H1 (s1,bY,fh,kZ,c_,rfl);subst ba;nofun;refine(_,Cl T (s1 _ _ dI),_,rfl,_,_,s1 _ _ az,jl _ _ _ ∅,c,n,ds,rfl,C.same s1,λd8 hc=>(d8,rfl,(_,aH.of aP),?_));refine dW.list (xs:=bz (ds.map (·.name))) (λi σ I=>aC H I/\aG I/\I d8\(.lst (bz (ds.map (·.name))))/\I fh\(.bL (fi (ds.take i) f))/\∃y,σ=[~~~pl,some (.int turn),~~~fh,y]) ?_ ?_ ?_ ?_
 .exact (s1.trans (bp hc),bY.upd,aP,(bp hc) _ _ c_,_,rfl)
 .rintro i σ I ao a3;ac_rfl
  let(_,_,h,_):=a3;subst ba;exact aH.of h
 .rintro i v σ I aM a3;ac_rfl
  let(s2,cg,iA,xD,y,rfl):=a3;let(x,ai,rfl):=cF aM;let(d,hd,rfl):=cF ai;have hlen:↑(fi (ds.take i) f)<=12:=by unfold fi;rw[a9,fw];omega
  subst ba;nofun;refine(pl,c,n,ds,z,sp,i,d,turn,rfl,da.same s2,ax,hd,_,mO.k (k:=b5 d.name) xD (i5 hlen ∅),s2.gm kZ,cg.upd,?_,?_,_,rfl)
  .rw [aO (d_ iA xD (by intro z;cases z))];exact iA
  .rw [aP,show h5 z sp d turn=f d by rw[<- hf],agC hQ hd]
 .rintro σ I a3;ac_rfl
  let(s2,cg,iA,xD,y,rfl):=a3;have hH:↑(bz (ds.map (·.name)))=↑ds:=by unfold bz;simp
  subst ba;rw[hH,kR]at xD;nofun;exact q fh I s2 cg kZ xD
noncomputable def M_(ds:List aQ)(f:aQ->Str):Str:=iT b3 (ds.map λd=>d.name++b3++f d)
def Yn:bH:=λvs H Q _=>∃d ds f,vs=[⇑d]/\H d\(.bL (fi ds f))/\↑ds<=12/\(∀x∈ds,↑x.name<=8/\↑(f x)<=8)/\aG H/\∀I,cW d H I->aG I->Q (.str (M_ ds f)) I
def Qr(t:bA):bH:=λvs H Q _=>∃(pl c:Addr) (n:Int) (ds:List aQ) (z:Nat) (sp:List bj) (d:aQ) (turn v:Int),vs=[⇑pl,.str d.name,.int turn]/\h_ t H pl c n ds z sp/\(0<z/\z<=240)/\d∈ds/\(ft z sp d.name)[(turn%(z:Int)).toNat]?\v/\Q (.str (num v)) H
def Ti(t:bA):bH:=λvs H Q _=>∃(pl c:Addr) (n:Int) (ds:List aQ) (z:Nat) (sp:List bj) (i:Nat) (d:aQ) (m:Int),vs=[⇑pl,.str d.name]/\h_ t H pl c n ds z sp/\z<=240/\ds[i]?\d/\(m∈ft z sp d.name/\∀k∈ft z sp d.name,k<=m)/\∀I,aC H I->(aG H->aG I)->Q (.str (num m++b3++num ((ft z sp d.name).idxOf m:Nat))) I
noncomputable def hS(z:Nat)(sp:List bj)(ds:List aQ)(turn:Int)(n:Nat):List (List Nat):=(el n).map λk=>rv z sp ds (turn+(k:Nat))
def Oa(t:bA):bH:=λvs H Q _=>∃(pl c:Addr) (n:Int) (ds:List aQ) (z:Nat) (sp:List bj) (turn:Int) (m:Nat),vs=[⇑pl,.int turn,.int m]/\h_ t H pl c n ds z sp/\0<z/\m<=200/\kQ (ds.map (·.name))/\aG H/\∀I,aC H I->aG I->Q (.str (iT nl (fX turn (ds.map (·.name)) (hS z sp ds turn m)))) I
def rp(a b:Str):↑(a++b)=↑a+↑b:=by simp[n5,gH]
def r0(a:Str):nN++a=a:=hg (by rw[gH,gS];rfl)
theorem B1:∀{l:List Str},(∀y∈l,↑y<=B)->(l.map λx=>↑x).sum<=↑l*B
 |[],_=>by simp
 |a::r,h=>by
  have af:=h a lW;have aj:=B1 (l:=r) λy bg=>h y (fS _ bg)
  rw[dZ,M5,gw,Nat.add_one_mul];omega
def L5{n:Nat}(h:n<=10000):n.log2<1920:=by
 by_cases h0:n=0
 .subst h0;decide
 .rw [M1 h0];exact i5 h (ij ((∅:10000<2 ^ 14)) (al6 ∅ ∅))
theorem Oi(m:List Bool):∀k,0<=hb m k/\hb m k<=k
 |0=>by unfold hb;omega
 |k+1=>by
  have:=Oi m k;unfold hb;split <;> omega
def Up{sp:List bj}{x:Str}{v:Int}(h:v∈ft z sp x):0<=v/\v<=2*z:=by
 unfold ft ny at h;let(t,cV,rfl):=dg.mp h;have:=Oi (er z (cA x sp)) (2*↑(er z (cA x sp))-t);have e:=oi z (cA x sp);omega
def Kw{v:Int}(h0:0<=v)(af:v<10 ^ 59):↑(num v)<=59:=by
 have:=(Kg ∅ h0 af).1.1.2;rwa[sA]at this
def adW{sp:List bj}{v:Int}(hm:m<=200):qT (ds.map (·.name)) (hS z sp ds v m):=by
 refine(by unfold hS;rw[a9,kf];omega,λcs ah=>?_);let(k,_,rfl):=dg.mp ah;refine(by unfold rv;rw[a9,a9],λc ah=>?_);let(d,_,rfl):=dg.mp ah;exact GL _
def aqA{p:Addr}{sp:List bj}{v:Int}(aq:H p=none)(e:↑qs=m)(al:∀(j:Nat) (a:Addr),qs[j]?\a->H a\(.bL (Tm (ds.map (·.name)) (rv z sp ds (v+(j:Nat)))))):rQ (upd H p (.lst (qs.map V.ref))) p qs ((hS z sp ds v m).map (Tm (ds.map (·.name)))):=by
 refine(aP,by rw[a9];unfold hS;rw[a9,kf];exact e,λj a kvs af aj=>?_);let(cs,a_,rfl):=cF aj;let(k,b',rfl):=cF a_;have aI:k=j:=by
  rw[A1 (by have:=(cv.mp af).1;omega)]at b';exact(d6 b').symm
 subst aI;have:=al k a af;rw[aO (cM this aq)];exact this
def alu{sp:List bj}{v:Int}(bc:kQ (ds.map (·.name)))(hm:m<=200):((fX v (ds.map (·.name)) (hS z sp ds v m)).map λx=>↑x).sum+↑(fX v (ds.map (·.name)) (hS z sp ds v m))*↑(aa "\n")<=16777216:=by
 have aw:↑(fX v (ds.map (·.name)) (hS z sp ds v m))<=7:=by
  unfold fX;rw[gw];split
  .simp
  .rw [Eb];have:=bc.ln;omega
 have ah:↑(hS z sp ds v m)=m:=by unfold hS;rw[a9,kf]
 have aj:∀y∈fX v (ds.map (·.name)) (hS z sp ds v m),↑y<=300:=λy bg=>by
  unfold fX at bg;rcases cT.mp bg with rfl|bg
  .rw [ur];unfold mS uF;rw[c',kE,a9,kf];omega
  .split at bg
   .cases bg
   .let(j,aZ,rfl):=Z7.mp bg;have ai:=(bc.al _ (nH aZ)).1;rw[ur];unfold fW tr;rw[c',c',kE,a9,ah,show ∀x:Str,↑x.cps.toList=↑x from λx=>by simp[n5]];omega
 have:=B1 aj;have a_:↑(aa "\n")=1:=lC;rw[a_];have:=Nat.mul_le_mul_right 300 aw;omega
def akx:cj P base T 1 t.BH t.CM ["shown"] Yn:=by
 exists T.K9.ok acC,9
 let(d,ds,f,rfl,hd,aL,Y2,a8,q):=h;have bx:=iU au;refine(_,(aY (bR (gL lT yH z3 vT Db (ag (iz rfl (aiT (Nc agI apB PySem.F.type_dict_items ZN (U 0))) (hi (sc:=br (top 150)) rfl ∅) (N:=["name","colour"]) (sel:=[none,none]) (ha (M:=["shown"]) ∅) (fR.of (λ_ _ _ _=>(jm (K:=K) (n:=2) rfl rfl (eb (b6 (i:=0) (fk (N:=["name","colour"]) ∅ rfl)) (eb (b6 (i:=1) (fk (N:=["name","colour"]) ∅ rfl)) jd)))) (λ_ _ _ _=>(_,iB,by walk_at "B")) (λ_ _ _ _=>(_,(Rw (WZ (U 0) (QU (WZ (U 1) VU)))),by walk_at "B")))) aA)))),?_);nofun;simp only[X9];nofun;refine(.inr (.inr (.inl (.inl (_,hd)))),_,hd,λp aq=>(_,aP,_,(bp aq) _ _ hd,λb_=>?_));have sQ:cW d H (upd (upd H p (.ext (mY p d))) d (.eO b_ (.bL (fi ds f)))):=λb u ae e=>by rw[aO ae];exact(bp aq) _ _ e
 have aed:upd (upd H p (.ext (mY p d))) d (.eO b_ (.bL (fi ds f))) d\(.eO b_ (.bL (fi ds f))):=aP;have hJ:aG (upd (upd H p (.ext (mY p d))) d (.eO b_ (.bL (fi ds f)))):=a8.upd.upd;generalize upd (upd H p (.ext (mY p d))) d (.eO b_ (.bL (fi ds f)))=uM at *;have Wy:↑(fi ds f)=↑ds:=by unfold fi;rw[a9]
 refine dv.of (n:=↑ds) (λi ys I=>cW d H I/\aG I/\I d\(.eO b_ (.bL (fi ds f)))/\ys=bz ((ds.take i).map λd=>d.name++b3++f d)) (cH aL ∅) (sQ,hJ,aed,rfl) ?_ ?_ ?_ ?_ ?_
 .rintro i ys I ao a3;ac_rfl
  let(_,_,e,_):=a3;subst ba;exact(e,())
 .rintro ys I a3;ac_rfl
  let(_,_,e,_):=a3;subst ba;exact(e,())
 .rintro i ys I ao a3;ac_rfl
  let(_,_,_,rfl):=a3;subst ba;rw[mi,a9,fw];omega
 .rintro i ys I x ay ao ⟨s1,bY,az,rfl⟩ ⟨dR,k,v,dy,rfl,rb,rfl⟩ N bc;obtain⟨x,ai,ex⟩:=cF rb;cases ex;have hm:=Y2 x (cC ai);refine vh ?_;nofun;have aB:100<=sizeLine:=∅
  have lr:↑(aa " ")=1:=jw;have he:↑nN=0:=rfl;refine(Sub.DG,x.name,rfl,(),(),by rw[r0];omega,(),by rw[r0,rp];omega,by rw[r0,rp,rp];omega,?_);rw[r0];refine bc _ _ (λb u ae e=>bp dy _ _ (s1 b u ae e),bY.upd,bp dy _ _ az,?_);rw[jn ai,ew,<- NE];rfl
 .rintro ys I ⟨s1,bY,az,rfl⟩ dR dy;rw[kR];have aj:∀y∈ds.map (fun d=>d.name++b3++f d),↑y<=17:=fun y bg=>by
   let(x,ai,rfl):=dg.mp bg;have:=Y2 x ai;rw[rp,rp,jw];omega
  refine(dR,rfl,_,aH.of aP,?_,q _ (λb u ae e=>?_) bY.upd)
  .have a_:=B1 aj;rw[a9]at a_⊢;have b':↑(aa " ")=1:=jw;rw[b'];omega
  .have:=s1 b u ae e;rw[aO (cM this dy)];exact this
def aeL:cj P base T 4 t.No t.B3 lj (Qr t):=by
 refine cn (adR T) λag9=>?_;exists T.L3.ok anE,9
 let(pl,c,n,ds,z,sp,d,turn,v,rfl,da,ax,hd,aM,q):=h;refine(_,(aY (bR (jo lR rfl T.lY lp (ag (bk ih (bT ag9 au T.afX T.IU.bt T.af4 (ag (U 0) (ag (U 1) (ag (U 2) aA)))) (U 2)) aA)))),?_);nofun;have ae:=Up (cC aM);refine(pl,c,n,ds,z,sp,d,turn,v,rfl,da,ax.1,hd,aM,_,rfl,?_);rw[show turn+v-turn=v by omega];exact(L5 (),q)
def ahW:cj P base T 4 t.Bu t.A6 tN (Ti t):=by
 refine cn (aid T) λahk=>?_;exists T.HW.ok K2,9
 let(pl,c,n,ds,z,sp,i,d,m,rfl,da,ax,hd,hm,q):=h;refine(_,(aN (mr (bT ahk au T.adX T.Kz.bt T.aaW (ag (U 0) (ag (U 1) aA))) (jm (K:=K) (n:=2) rfl rfl (eb (b6 (i:=2) K2.aD) (eb (b6 (i:=3) K2.aD) jd))))
   (aY (bR (Rw (Ue (U 2) (QU (Ue (U 3) VU))))))),?_)
 nofun;have ae:=Up hm.1;have ao:(ft z sp d.name).idxOf m<z:=by
  have:=anh.mpr hm.1;rwa[zM]at this
 refine(pl,c,n,ds,z,sp,i,d,m,rfl,da,(),hd,hm,λp aq=>?_);have cw:↑(aa (toString m))<=59:=Kw (v:=m) () ();have dH:↑(aa (toString (((ft z sp d.name).idxOf m:Nat):Int)))<=59:=Kw (v:=((ft z sp d.name).idxOf m:Nat)) () ();have e:=rp;have cR:↑nN=0:=rfl;refine(p,rfl,_,b1.of aP,rfl,_,_,rfl,_,_,rfl,rfl,m,rfl,L5 (),?_,?_,_,rfl,L5 (),?_,?_,?_)
 .rw [cR];exact cH (show _<=59 by omega) ∅
 .rw [r0,jw];exact cH (show _<=60 by omega) ∅
 .rw [r0,e,jw];exact cH (show _<=119 by omega) ∅
 .rw [r0,e,e,jw];exact cH (show _<=119 by omega) ∅
 .rw [r0];exact q _ (bp aq) (λn=>n.upd)
def ZO:cj P base T 5 t.DM t.am vz (Oa t):=by
 refine cn (Us T) λLC=>cn (als T) λal9=>?_;exists T.Jm.ok ah7,9
 let(pl,c,n,ds,z,sp,turn,m,rfl,da,ax,hm,bc,a8,q):=h;refine(_,(aY (bR (gL lT yH z3 vT Db (ag (bT al9 au T.ahA T.Hs.bt T.abb (ag (U 1) (ag (iz rfl (lb rfl T.i9 (ag (U 2) aA)) (hi (sc:=br (top 153)) rfl ∅) (N:=["step","plan","turn"]) (sel:=[none,some 0,some 1]) (ha (M:=vz) ∅) (fR.of (λ_ _ _ _=>(b6 (i:=0) (fk (N:=["step","plan","turn"]) ∅ rfl))) (λ_ _ _ _=>(_,iB,by walk_at "B")) (λ_ _ _ _=>(_,(bT LC au T.Yh T.EY.bt T.VK (ag (U 1) (ag (bk dd (U 2) (U 0)) aA))),by walk_at "B")))) aA))) aA)))),?_);nofun;refine((),(),?_);rw[pN];refine dv.range (λi ys I=>aC H I/\aG I/\∃qs:List Addr,ys=qs.map V.ref/\↑qs=i/\∀(j:Nat) (a:Addr),qs[j]?\a->I a\(.bL (Tm (ds.map (·.name)) (rv z sp ds (turn+(j:Nat)))))) (cH hm ∅) (aC.refl H,a8,[],rfl,rfl,λj a e=>by simp at e) ?_ ?_ ?_
 .rintro i ys I _ a3;ac_rfl
  let(_,_,qs,rfl,e,_):=a3;subst ba;rw[a9];omega
 .rintro i ys I ao ⟨s1,bY,qs,rfl,e,al⟩ N bc;nofun;refine⟨Sub.name,pl,c,n,ds,z,sp,turn+(i:Int),rfl,da.same s1,ax,bY,fun p ay s2 cg aq aE=>?_⟩;refine bc _ _ ⟨s1.trans s2,cg,qs++[p],by rw[ew];rfl,by rw[c',e];rfl,fun j a aJ=>?_⟩;rcases h4 aJ with⟨_,h⟩|⟨h,rfl⟩
  .exact s2 _ _ (al j a h)
  .rw [aE,UN ax,show turn+(i:Int)=turn+(j:Nat)by omega]
 .rintro ys I ⟨s1,bY,qs,rfl,e,al⟩ p aq;refine⟨turn,ds.map (·.name),hS z sp ds turn m,p,qs,rfl,bc,adW hm,aqA aq e al,bY.upd,fun r ay s2 cg au aE=>?_⟩;refine⟨r,rfl,_,aH.of aE,?_,?_⟩
  .exact alu bc hm
  .exact q _ (s1.trans ((bp aq).trans s2)) cg
def zu(t:bA)(bb l:Addr)(bo:List (Key×V))(off:ar)(vs:List V)(Q:Str->Prop):Prop:=∃(name:Str) (turn:Int) (a c:Addr) (n:Int) (ds:List aQ) (z:Nat) (sp:List bj),vs=[⇑bb,.str (aa "colours"),⇑l]/\off l\(.lst [.str name,.int turn])/\c6 bo (.inr name)\⇑a/\h_ t off a c n ds z sp/\(0<z/\z<=240)/\kQ (ds.map (·.name))/\Q (M_ ds λd=>h5 z sp d turn)
def z1(t:bA)(bb l:Addr)(bo:List (Key×V))(off:ar)(vs:List V)(Q:Str->Prop):Prop:=∃(name:Str) (turn:Int) (a c:Addr) (n:Int) (ds:List aQ) (z:Nat) (sp:List bj) (d:aQ) (v:Int),vs=[⇑bb,.str (aa "wait"),⇑l]/\off l\(.lst [.str name,.str d.name,.int turn])/\c6 bo (.inr name)\⇑a/\h_ t off a c n ds z sp/\(0<z/\z<=240)/\d∈ds/\(ft z sp d.name)[(turn%(z:Int)).toNat]?\v/\Q (num v)
def zE(t:bA)(bb l:Addr)(bo:List (Key×V))(off:ar)(vs:List V)(Q:Str->Prop):Prop:=∃(name:Str) (a c:Addr) (n:Int) (ds:List aQ) (z:Nat) (sp:List bj) (i:Nat) (d:aQ) (m:Int),vs=[⇑bb,.str (aa "longest"),⇑l]/\off l\(.lst [.str name,.str d.name])/\c6 bo (.inr name)\⇑a/\h_ t off a c n ds z sp/\z<=240/\ds[i]?\d/\(m∈ft z sp d.name/\∀k∈ft z sp d.name,k<=m)/\Q (num m++b3++num ((ft z sp d.name).idxOf m:Nat))
def yW(t:bA)(bb l:Addr)(bo:List (Key×V))(off:ar)(vs:List V)(Q:Str->Prop):Prop:=∃(name:Str) (turn:Int) (m:Nat) (a c:Addr) (n:Int) (ds:List aQ) (z:Nat) (sp:List bj),vs=[⇑bb,.str (aa "draw"),⇑l]/\off l\(.lst [.str name,.int turn,.int m])/\c6 bo (.inr name)\⇑a/\h_ t off a c n ds z sp/\(0<z/\z<=240)/\m<=200/\kQ (ds.map (·.name))/\Q (iT nl (fX turn (ds.map (·.name)) (hS z sp ds turn m)))
def WY(bb l:Addr)(bo:List (Key×V))(off:ar)(vs:List V):Prop:=∃(name:Str) (turn:Int),vs=[⇑bb,.str (aa "colours"),⇑l]/\off l\(.lst [.str name,.int turn])/\c6 bo (.inr name)=none/\nQ name
def PC(t:bA):bH:=λvs H Q E=>∃bb bl db l bU bo off,ic t H bb bl db bU bo/\Off [bl,db] H off/\aG H/\(zu t bb l bo off vs (λx=>∀I,aC H I->aG I->Q (.str x) I)\/z1 t bb l bo off vs (λx=>∀I,aC H I->aG I->Q (.str x) I)\/zE t bb l bo off vs (λx=>∀I,aC H I->aG I->Q (.str x) I)\/yW t bb l bo off vs (λx=>∀I,aC H I->aG I->Q (.str x) I)\/(WY bb l bo off vs/\m3 [t.eL] H E))
def Te(h:lI s):↑s<=8:=by
 have e:∀c,c<4->↑(m5 c)<=8:=∅
 have:=e (tq s) (GL s);rwa[show m5 (tq s)=s from h]at this
def apk(T:Txt w K av t):bD P w K av base (fm P w) 6 t.yj t.Ff BK (PC t):=by
 have GW:bD P w K av base (fm P w) 5 t.wQ t.w7 u0 (Na t):=(Zd T).mono ∅;have LC:bD P w K av base cN 5 t.DQ t.bn AM (Rv t):=(Us T).mono ∅;have anO:bD P w K av base cN 5 t.BH t.CM ["shown"] Yn:=(akx T).mono ∅;have acs:bD P w K av base cN 5 t.No t.B3 lj (Qr t):=(aeL T).mono ∅;have acB:bD P w K av base cN 5 t.Bu t.A6 tN (Ti t):=(ahW T).mono ∅;have aet:bD P w K av base cN 5 t.DM t.am vz (Oa t):=ZO T;refine T.Tv.o7 O3 (λvs H Q E h=>?_) (λ_ _ _ s H vs Q E au h=>?_)
 .obtain ⟨bb,bl,db,l,bU,bo,off,_,_,_,⟨_,_,_,_,_,_,_,_,rfl,_⟩|⟨_,_,_,_,_,_,_,_,_,_,rfl,_⟩|⟨_,_,_,_,_,_,_,_,_,_,rfl,_⟩|⟨_,_,_,_,_,_,_,_,_,rfl,_⟩|⟨⟨_,_,rfl,_⟩,_⟩⟩:=h <;> rfl
 let(bb,bl,db,l,bU,bo,off,n',aW,a8,h):=h;refine(_,(aN (bO (i:=3) O3.aD (pM GW au rfl T.XD T.As.bt T.SH .nil pD (ag (dJ (U 0) rfl) (ag (bP dA (U 2) aS) aA))))
   (aN (c0 (cS eZ (U 1) Db (ct _)) (aY (bR (bT anO au T.anG T.K9.bt T.acW (ag (bT LC au T.Yh T.EY.bt T.VK (ag (U 3) (ag (bP dA (U 2) aS) aA))) aA)))) c7)
   (aN (c0 (cS eZ (U 1) Db (ct _)) (aY (bR (bT acs au T.agq T.L3.bt T.ahf (ag (U 3) (ag (bP dA (U 2) aS) (ag (bP dA (U 2) aS) aA)))))) c7)
   (aN (c0 (cS eZ (U 1) Db (ct _)) (aY (bR (bT acB au T.afg T.HW.bt T.akp (ag (U 3) (ag (bP dA (U 2) aS) aA))))) c7)
   (aY (bR (bT aet au T.am' T.Jm.bt T.aeT (ag (U 3) (ag (bP dA (U 2) aS) (ag (bP dA (U 2) aS) aA)))))))))),?_)
 let((ak,e4,jL),cK,dc,ne):=id n';have a0:∀{name:Str} {a:Addr},c6 bo (.inr name)\⇑a->gq H db (.str name) (some ⇑a):=λ{name a} aM=>by rw[<- aM];exact gq.k (k:=.inr name) dc
 rcases h with⟨name,turn,a,c,n,ds,z,sp,rfl,aw,aM,da,ax,bc,q⟩|⟨name,turn,a,c,n,ds,z,sp,d,v,rfl,aw,aM,da,ax,hd,bx,q⟩|⟨name,a,c,n,ds,z,sp,i,d,m,rfl,aw,aM,da,ax,hd,hm,q⟩|⟨name,turn,m,a,c,n,ds,z,sp,rfl,aw,aM,da,ax,hm,bc,q⟩|⟨⟨name,turn,rfl,aw,aM,ad7⟩,mb⟩
 .nofun;refine(_,uQ T jL,_,aH.of (aW.a7 _ _ aw),_,rfl,db,name,rfl,.inl (_,a0 aM,?_));refine cX true (λQ aV=>?_) (λ_=>?_) (λah=>nomatch ah)
  .nofun;exact aV
  .nofun;refine(_,aH.of (aW.a7 _ _ aw),_,rfl,a,c,n,ds,z,sp,turn,rfl,da.same aW.a7,ax.1,a8,λp H1 s1 bY aq az=>?_);refine(p,ds,_,rfl,az,by have:=bc.ln;rw[a9]at this;omega,λx ai=>((bc.al _ (List.mem_map_of_mem ai)).1.2,Te (Kq ax.1)),bY,λay s2 cg=>q ay (λb u e=>s2 b u (cM e aq) (s1 b u e)) cg)
 .nofun;refine(_,uQ T jL,_,aH.of (aW.a7 _ _ aw),_,rfl,db,name,rfl,.inl (_,a0 aM,?_));refine cX false (λQ aV=>?_) (λah=>nomatch ah) (λ_=>?_)
  .nofun;exact aV
  rw[g7];dsimp only;refine cX true (λQ aV=>?_) (λ_=>?_) (λah=>nomatch ah)
  .nofun;exact aV
  .nofun;exact(_,aH.of (aW.a7 _ _ aw),_,rfl,_,aH.of (aW.a7 _ _ aw),_,rfl,a,c,n,ds,z,sp,d,turn,v,rfl,da.same aW.a7,ax,hd,bx,q _ (aC.refl _) a8)
 .nofun;refine(_,uQ T jL,_,aH.of (aW.a7 _ _ aw),_,rfl,db,name,rfl,.inl (_,a0 aM,?_));refine cX false (λQ aV=>?_) (λah=>nomatch ah) (λ_=>?_)
  .nofun;exact aV
  rw[g7];dsimp only;refine cX false (λQ aV=>?_) (λah=>nomatch ah) (λ_=>?_)
  .nofun;exact aV
  rw[g7];dsimp only;refine cX true (λQ aV=>?_) (λ_=>?_) (λah=>nomatch ah)
  .nofun;exact aV
  .nofun;exact(_,aH.of (aW.a7 _ _ aw),_,rfl,a,c,n,ds,z,sp,i,d,m,rfl,da.same aW.a7,ax,hd,hm,λI s1 bY=>q I s1 (bY a8))
 .nofun;refine(_,uQ T jL,_,aH.of (aW.a7 _ _ aw),_,rfl,db,name,rfl,.inl (_,a0 aM,?_));refine cX false (λQ aV=>?_) (λah=>nomatch ah) (λ_=>?_)
  .nofun;exact aV
  rw[g7];dsimp only;refine cX false (λQ aV=>?_) (λah=>nomatch ah) (λ_=>?_)
  .nofun;exact aV
  rw[g7];dsimp only;refine cX false (λQ aV=>?_) (λah=>nomatch ah) (λ_=>?_)
  .nofun;exact aV
  .nofun;exact(_,aH.of (aW.a7 _ _ aw),_,rfl,_,aH.of (aW.a7 _ _ aw),_,rfl,a,c,n,ds,z,sp,turn,m,rfl,da.same aW.a7,ax.1,hm,bc,a8,q)
 .nofun;exact(_,uQ T jL,_,aH.of (aW.a7 _ _ aw),_,rfl,db,name,rfl,.inr (by rw[<- aM];exact gq.k (k:=.inr name) dc,ad7,a8,mb))
structure pA(row told text first:Str)(ps ws:List Str)(zs:List V):Prop where
 dp:JI row told text (decide (first∈k4))
 dS:↑row<=20000
 dF:↑told<=900
 no:(10:Nat)∉told.cps.toList
 rows:iI told=[first::ws]
 aeu:(p'p first ps)∈i1
 fits:oj ps ws zs
noncomputable def sb:List Str:=[aa "colours",aa "wait",aa "longest",aa "draw"]
def J'(t:bA)(bb bl db:Addr)(bU bo:List (Key×V))(off:ar)(first text:Str)(zs:List V)(Q:ar->Prop)(R:Prop):Prop:=∀l gf,aC off gf->gf l\(.lst zs)->UT t bb bl db l bU bo gf [⇑bb,.str first,⇑l,.str text] Q\/(YD t bb bl db l bU bo gf [⇑bb,.str first,⇑l,.str text] Q/\R)
def FE(t:bA)(bb:Addr)(bo:List (Key×V))(off:ar)(first:Str)(zs:List V)(Q:Str->Prop):Prop:=∀l gf,aC off gf->gf l\(.lst zs)->zu t bb l bo gf [⇑bb,.str first,⇑l] Q\/z1 t bb l bo gf [⇑bb,.str first,⇑l] Q\/zE t bb l bo gf [⇑bb,.str first,⇑l] Q\/yW t bb l bo gf [⇑bb,.str first,⇑l] Q
def MS(bb:Addr)(bo:List (Key×V))(off:ar)(first:Str)(zs:List V):Prop:=∀l gf,aC off gf->gf l\(.lst zs)->WY bb l bo gf [⇑bb,.str first,⇑l]
def O9(t:bA):bH:=λvs H Q E=>∃bb bl db bU bo off row told text first ps ws zs,vs=[⇑bb,.str row]/\ic t H bb bl db bU bo/\Off [bl,db] H off/\aG H/\pA row told text first ps ws zs /\
 ((first∈k4/\J' t bb bl db bU bo off first text zs (Q (.str (aa "ok"))) (m3 (kz t) H E))\/(first∈sb/\FE t bb bo off first zs (λx=>∀I,aC H I->aG I->Q (.str x) I))\/(first∈sb/\m3 [t.eL] H E/\MS bb bo off first zs))
def Ee{x:Str}(h:x∈sb):x∉k4/\x∉[aa "turn",aa "worst"]/\x≠aa "shortest":=by
 have e:∀y∈sb,y∉k4/\y∉[aa "turn",aa "worst"]/\y≠aa "shortest":=by ac_nf
 exact e x h
def zu.mono{t:bA}{bb l:Addr}{off:ar}(h:zu t bb l bo off vs Q)(i:∀x,Q x->jI x):zu t bb l bo off vs jI:=by
 let(name,turn,a,c,n,ds,z,sp,af,aj,a_,b',dn,hv,q):=h;exact(name,turn,a,c,n,ds,z,sp,af,aj,a_,b',dn,hv,i _ q)
def z1.mono{t:bA}{bb l:Addr}{off:ar}(h:z1 t bb l bo off vs Q)(i:∀x,Q x->jI x):z1 t bb l bo off vs jI:=by
 let(name,turn,a,c,n,ds,z,sp,d,v,af,aj,a_,b',dn,hv,zb,q):=h;exact(name,turn,a,c,n,ds,z,sp,d,v,af,aj,a_,b',dn,hv,zb,i _ q)
def zE.mono{t:bA}{bb l:Addr}{off:ar}(h:zE t bb l bo off vs Q)(i:∀x,Q x->jI x):zE t bb l bo off vs jI:=by
 let(name,a,c,n,ds,z,sp,j,d,m,af,aj,a_,b',dn,hv,zb,q):=h;exact(name,a,c,n,ds,z,sp,j,d,m,af,aj,a_,b',dn,hv,zb,i _ q)
def yW.mono{t:bA}{bb l:Addr}{off:ar}(h:yW t bb l bo off vs Q)(i:∀x,Q x->jI x):yW t bb l bo off vs jI:=by
 let(name,turn,m,a,c,n,ds,z,sp,af,aj,a_,b',dn,hv,zb,q):=h;exact(name,turn,m,a,c,n,ds,z,sp,af,aj,a_,b',dn,hv,zb,i _ q)
def ZF (T:Txt w K av t):bD P w K av base (fm P w) 10 t.x9 t.Go ER (O9 t):=by
 have akG:bD P w K av base cN 9 t.Cv t.DC ["row"] (U8 t):=(FS T).mono ∅;have abj:bD P w K av base (fm P w) 9 t.Af t.Ca Br (N9 t):=ab' T;have al5:bD P w K av base (fm P w) 9 t.yj t.Ff BK (PC t):=(apk T).mono ∅;exists T.Wo.o7 De,9
 let(bb,bl,db,bU,bo,off,row,told,text,first,ps,ws,zs,rfl,n',aW,a8,R,h):=h;refine(_,(aN (mr (bT akG au T.anV T.Md.bt T.aou (ag (U 1) aA)) (jm (K:=K) (n:=3) rfl rfl (eb (b6 (i:=2) De.aD) (eb (b6 (i:=3) De.aD) (eb (b6 (i:=4) De.aD) jd)))))
   (aN (c0 (cS rm (U 2) (fE (ag Db (ag Db (ag Db aA)))) (by with_unfolding_all rfl)) (aN (eu (e0 (U 0) T.rS T.aby abj au T.alI .nil pD (ag (U 2) (ag (U 3) (ag (U 4) aA)))))
   (aY (bR Db))) c7)
   (aN (c0 (cS rm (U 2) (fE (ag Db (ag Db aA))) (by with_unfolding_all rfl)) (aY lH) c7)
   (aN (c0 (cS eZ (U 2) Db (ct _)) (aY lH) c7)
   (aY (bR (e0 (U 0) T.rS T.aqV al5 au T.ahY .nil pD (ag (U 2) (ag (U 3) aA))))))))),?_)
 nofun;refine(row,told,text,first,ps,ws,zs,rfl,R.dp,R.dS,R.dF,R.no,R.rows,R.aeu,R.fits,a8,λp l H1 s1 bY ep zz ln=>?_);nofun;refine(_,b1.of ep,rfl,_,_,rfl,_,_,rfl,_,_,rfl,rfl,?_);have keep:∀{ay:ar},aC H1 ay->ic t ay bb bl db bU bo/\Off [bl,db] ay (gW [bl,db] ay)/\gW [bl,db] ay l\(.lst zs)/\aC off (gW [bl,db] ay)/\∃ak e4,ay bb\(.ins t.h3 ak (uV bl db e4)):=λ{ay} s2=>by
  have gO:=(n'.same s1).same s2;have q0:=(aW.same s1).same s2;refine(gO,(yz,λa aJ=>ux aJ,q0.bb),?_,q0.hp,gO.b_);rw[k9 (λhm=>?_)]
  .exact s2 _ _ zz
  .let(kvs,e):=q0.bb l hm;rw[s2 _ _ zz]at e;cases e
 have h':(first∈k4/\J' t bb bl db bU bo off first text zs (Q (.str (aa "ok"))) (m3 (kz t) H E))\/(first∈sb/\(FE t bb bo off first zs (λx=>∀I,aC H I->aG I->Q (.str x) I)\/(m3 [t.eL] H E/\MS bb bo off first zs))):=by
  rcases h with h|h|h
  .exact .inl h
  .exact .inr (h.1,.inl h.2)
  .exact .inr (h.1,.inr h.2)
 rcases h' with⟨hf,h⟩|⟨hf,h⟩
 .refine jW (λb ay=>b=true/\aC H1 ay/\aG ay) (λjI aV=>?_) (λay r=>?_) (λay r=>nomatch r.1)
  .nofun;refine(∅,λp aq=>(_,.inl (aH.of aP),rfl,rfl,?_));rw[show mm (V.str first) [V.str (aa "crossing"),V.str (aa "plan"),V.str (aa "stages")]=decide (first∈k4)from uT first k4,decide_eq_true hf];exact aV _ _ (rfl,bp aq,bY.upd)
  .let(_,s2,cg):=r;let(gO,q0,dH,Fq,ak,e4,jL):=keep s2;nofun;exact(_,_,jL,tS vI (yZ ..) ∅,bb,bl,db,l,bU,bo,_,gO,q0,cg,(h l _ Fq dH).imp id λz=>(z.1,z.2.step (s1.trans s2)))
 .refine jW (λb ay=>b=false/\aC H1 ay/\aG ay) (λjI aV=>?_) (λay r=>nomatch r.1) (λay r=>?_)
  .nofun;refine(∅,λp aq=>(_,.inl (aH.of aP),rfl,rfl,?_));rw[show mm (V.str first) [V.str (aa "crossing"),V.str (aa "plan"),V.str (aa "stages")]=decide (first∈k4)from uT first k4,decide_eq_false (Ee hf).1];exact aV _ _ (rfl,bp aq,bY.upd)
  let(_,s2,cg):=r;rw[g7];dsimp only;refine jW (λb bq=>b=false/\aC H1 bq/\aG bq) (λjI aV=>?_) (λbq r=>nomatch r.1) (λbq r=>?_)
  .nofun;refine(∅,λp aq=>(_,.inl (aH.of aP),rfl,rfl,?_));rw[show mm (V.str first) [V.str (aa "turn"),V.str (aa "worst")]=decide (first∈[aa "turn",aa "worst"])from uT first [aa "turn",aa "worst"],decide_eq_false (Ee hf).2.1];exact aV _ _ (rfl,s2.trans (bp aq),cg.upd)
  let(_,s3,dh):=r;rw[g7];dsimp only;refine cX false (λQ aV=>?_) (λah=>nomatch ah) (λ_=>?_)
  .nofun;rw[decide_eq_false (Ee hf).2.2];exact aV
  .obtain⟨gO,q0,dH,Fq,ak,e4,jL⟩:=keep s3;nofun;have mo:∀x,(∀I,aC H I->aG I->Q (.str x) I)->∀I,aC bq I->aG I->Q (.str x) I:=fun x aF I s n=>aF I ((s1.trans s3).trans s) n
   refine(_,_,jL,tS vI (yZ ..) ∅,bb,bl,db,l,bU,bo,_,gO,q0,dh,?_);rcases h with h|⟨mb,h⟩
   .rcases h l _ Fq dH with z|z|z|z
    .exact .inl (z.mono mo)
    .exact .inr (.inl (z.mono mo))
    .exact .inr (.inr (.inl (z.mono mo)))
    .exact .inr (.inr (.inr (.inl (z.mono mo))))
   .exact .inr (.inr (.inr (.inr (h l _ Fq dH,mb.step (s1.trans s3)))))
structure vP(t:bA)(K:a')(C:Addr)(b:Bool):Prop where
 ex:hz K ⇑C ⇑t.sf\true
 Vs:oQ K C
 jA:z8 K ⇑C ((kz t).map dm)\b
 bU:jH K ⇑C ⇑t.eL\(!b)
def TY(t:bA):bH:=λvs H Q _=>∃bb bl db bU bo off row told text first ps ws zs,vs=[⇑bb,.str row]/\ic t H bb bl db bU bo/\Off [bl,db] H off/\aG H/\pA row told text first ps ws zs /\
 ((first∈k4/\J' t bb bl db bU bo off first text zs (Q (.str (aa "ok"))) (∀I,aC H I->aG I->Q (.str (aa "refused")) I))\/(first∈sb/\FE t bb bo off first zs (λx=>∀I,aC H I->aG I->Q (.str x) I))\/(first∈sb/\MS bb bo off first zs/\∀I,aC H I->aG I->Q (.str (aa "none")) I))
def ale(T:Txt w K av t):vP t K t.ad true:=(T.amt,T.aff,by unfold kz;simp only[dZ,gI,z8,T.agt],T.adx)
def acM(T:Txt w K av t):vP t K t.eW true:=(T.aeX,T.aiq,by unfold kz;simp only[dZ,gI,z8,T.aeN,T.aas],T.aej)
def aba(T:Txt w K av t):vP t K t.eI true:=(T.amS,T.abo,by unfold kz;simp only[dZ,gI,z8,T.xz,T.afZ,T.abJ],T.aa_)
def aiF(T:Txt w K av t):vP t K t.eL false:=(T.ah6,T.acN,by unfold kz;simp only[dZ,gI,z8,T.ab2,T.ap1,T.adK],T.aaH)
def R3:cj P base T 11 t.AE t.Au A4 (TY t):=by
 have amc:bD P w K av base (fm P w) 10 t.x9 t.Go ER (O9 t):=ZF T;exists T.qX.ok wg,9
 let(bb,bl,db,bU,bo,off,row,told,text,first,ps,ws,zs,rfl,n',aW,a8,R,h):=h;refine(_,(aN (bO (i:=2) wg.aD Db)
   (aN (aaS (i:=3) (λ_ _=>(_,(aY (bO (i:=2) wg.aD (aaa (U 0) T.rS T.apY amc au T.amO .nil abW (ag (U 1) aA)))),by first|rfl|(dsimp only[a6.iQ,a6.aL];done)|(dsimp only[a6.iQ,a6.aL];exact rfl))) rfl T.zA (λ_=>(_,(aN (c0 (jS (f7 ajN rfl T.Qd UB (ag (U 3) (ag (kr (ag (gN (v:=⇑t.ad) rfl T.QD rfl) (ag (gN (v:=⇑t.eW) rfl T.Pj rfl) (ag (gN (v:=⇑t.eI) rfl T.Vj rfl) aA)))) aA)))) (aY (bO (i:=2) wg.aD Db)) c7)
   (aY (c0 (jS (f7 ajK rfl T.Qd UB (ag (U 3) (ag (gN (v:=⇑t.eL) rfl T.Vk rfl) aA)))) (aY (bO (i:=2) wg.aD Db)) c7))),by first|rfl|(dsimp only[a6.iQ,a6.aL];done)|(dsimp only[a6.iQ,a6.aL];exact rfl))) wg.aD rfl rfl)
   (aY (bR (U 2))))),?_)
 let(ak,e4,jL):=n'.b_;nofun;refine(_,_,jL,tS vI (yZ ..) ∅,?_);generalize ap2:C' K t.sf 3 _ _=ahz;have key:∀(C:Addr) (b:Bool),vP t K C b->(∀I,aC H I->aG I->Q (.str (if b=true then aa "refused" else aa "none")) I)->∀ak aR bq,aC H bq->aG bq->bq ak\(.ext (fY ak aR))->ahz [~~~bb,some (.str row),some (.str (aa "")),none] ⇑C (some ak) bq:=λC b kj aF ak aR bq s3 dh hd=>by
  rw[<- ap2];nofun;refine(_,rfl,kj.ex,λex hex=>?_);nofun;exists (λaT cc=>aC bq cc/\aG cc/\aT=[~~~bb,some (.str row),some (.str (if b=true then aa "refused" else aa "")),~~~ex]),0
  .refine jW (λjy cc=>jy=b/\aC bq cc/\aG cc) (λQ aV=>?_) (λcc r=>?_) (λcc r=>?_)
   .nofun;exact(∅,λp aq=>(_,_,(bp aq) _ _ hex,_,(bp aq) _ _ hd,kj.Vs,kz t,aP,_,kj.jA,aV _ _ (rfl,bp aq,dh.upd)))
   .let(e,s4,ez):=r;subst e;nofun;exact bB _ _ (s4,ez,rfl)
   .let(e,s4,ez):=r;subst e;nofun;exact bB _ _ (s4,ez,rfl)
  intro qZ cc (s4,ez,rfl);subst ba;dsimp only;refine cX (!b) (λQ aV=>?_) (λr=>?_) (λr=>?_)
  .nofun;exact(_,_,s4 _ _ hex,_,s4 _ _ hd,kj.Vs,_,kj.bU,aV)
  .have e:b=false:=by simpa using r
   subst e;nofun;exact aF _ (s3.trans s4) ez
  .have e:b=true:=by simpa using r
   subst e;nofun;exact aF _ (s3.trans s4) ez
 refine(bb,bl,db,bU,bo,off,row,told,text,first,ps,ws,zs,rfl,n',aW,a8,R,?_);rcases h with⟨hf,h⟩|⟨hf,h⟩|⟨hf,h,au⟩
 .refine .inl (hf,λl gf s1 az=>(h l gf s1 az).imp id λwD=>(wD.1,λC cq fc aR bq s3 dh hd=>?_));have kj:vP t K C true:=by
   unfold kz at cq;simp only[cT,fq,or_false]at cq;rcases cq with rfl|rfl|rfl
   .exact ale T
   .exact acM T
   .exact aba T
  exact key C true kj wD.2 fc aR bq s3 dh hd
 .exact .inr (.inl (hf,h))
 .refine .inr (.inr (hf,λC cq fc aR bq s3 dh hd=>?_,h));rw[j5.mp cq];exact key _ false (aiF T) au fc aR bq s3 dh hd
theorem KP(c:Nat):∀(l:List (List Nat)) (x:List Nat),l≠[]->f3 c (l++[x])=f3 c l++c::x
 |[],_,h=>absurd rfl h
 |[a],x,_=>rfl
 |a::b::r,x,_=>by
  have:=KP c (b::r) x (by simp);show a++c::f3 c ((b::r)++[x])=(a++c::f3 c (b::r))++c::x;rw[this,jE,kO]
def abB(z:Int):hy z []=aa "round "++num z:=by
 apply hg;have az:(aa "round ").cps.toList=[114,111,117,110,100,32]:=∅
 have aE:(aa "round").cps.toList=[114,111,117,110,100]:=∅
 unfold hy ie;rw[kK,iy,lg];simp only[dZ,gI,f3,iy,gH,gS,az,aE,kO,nU]
def ajQ(z:Int)(sp:List bj)(s:bj):hy z (sp++[s])=(((((hy z sp++aa "\nfree ")++s.name)++aa " ")++num s.b)++aa " ")++num s.n:=by
 apply hg;have az:(aa "\nfree ").cps.toList=[10,102,114,101,101,32]:=∅
 have aE:(aa "free").cps.toList=[102,114,101,101]:=∅
 have b7:(aa " ").cps.toList=[32]:=∅
 unfold hy;rw[show ie z (sp++[s])=ie z sp++[o4 s]by unfold ie;rw[ew,kO];rfl];rw[kK,iy,ew,ew,dZ,gI,dZ,gI,KP _ _ _ (by unfold ie;simp),lg];simp only[gH,gS,iy,o4,dZ,gI,f3,az,aE,b7,jE,kO,nU]
def ap4(d:aQ):((((d5 d.k++aa " ")++d.name)++aa " ")++iT (aa " ") [num d.start,num d.fin,num d.off,num d.near,num d.least])=dk b3 (mR d):=by
 apply hg;have j9:(aa " ").cps.toList=[32]:=∅
 rw[show iT (aa " ") [num d.start,num d.fin,num d.off,num d.near,num d.least]=dk b3 [num d.start,num d.fin,num d.off,num d.near,num d.least]from ve _ _];rw[gH,gS,lg,iy,iy];unfold mR;simp only[gH,gS,dZ,gI,f3,j9,jE,kO,nU]
def an4(n:Int):aa "ring "++num n=dk b3 [aa "ring",num n]:=by
 apply hg;have az:(aa "ring ").cps.toList=[114,105,110,103,32]:=∅
 have aE:(aa "ring").cps.toList=[114,105,110,103]:=∅
 rw[lg,iy];simp only[gH,gS,dZ,gI,f3,az,aE,kO,nU]
def ahO{x:Str}(h:made x gB 8=true):nQ x/\x≠aa "":=by
 let((af,aj),a_):=r2 h;refine(((),λc ah=>?_),λz=>?_)
 .have:=a_ c ah;omega
 .rw [z]at af;exact absurd af ∅
def Vu{z:Nat}(ax:z<=240){sp:List bj}(h:∀s∈sp,n7 s.name/\(0<=s.b/\s.b<1000)/\0<=s.n/\s.n<1000)(aw:↑sp<=12):↑(hy z sp)<=5000:=by
 have dI:∀r∈ie z sp,↑r<=4/\∀x∈r,↑x<=8:=λr au=>by
  rcases cT.mp au with e|e
  .subst e;refine(by show 2<=4;decide,λx ai=>?_);have:x=S "round"\/x=num z:=by simpa using ai
   rcases this with rfl|rfl
   .ac_nf
   .exact (gP (v:=(z:Int)) () ()).1
  .obtain⟨d,hd,rfl⟩:=dg.mp e;refine⟨by show 4<=4;decide,fun x ai=>?_⟩;have g:=h d hd;have:x=S "free"\/x=d.name\/x=num d.b\/x=num d.n:=by simpa[o4]using ai
   rcases this with rfl|rfl|rfl|rfl
   .ac_nf
   .exact g.1.1
   .exact (gP () ()).1
   .exact (gP () ()).1
 have M6:∀y∈(ie z sp).map (dk b3),↑y<=40:=λy bg=>by
  let(r,au,rfl):=dg.mp bg;have af:=mf b3 8 r (dI r au).2;rw[jw]at af;have:=(dI r au).1;omega
 have:=mf nl 40 _ M6;rw[lC,a9]at this;have mH:↑(ie z sp)<=13:=by
  unfold ie;rw[gw,a9];omega
 unfold hy;omega
def ah0(n:Int):gk n []=aa "ring "++num n:=by
 rw[an4];rfl
def af3(n:Int)(ds:List aQ)(d:aQ):gk n (ds++[d])=((((gk n ds++aa "\n")++d5 d.k)++aa " ")++d.name)++aa " "++iT (aa " ") [num d.start,num d.fin,num d.off,num d.near,num d.least]:=by
 have cR:gk n (ds++[d])=(gk n ds++nl)++dk b3 (mR d):=by
  apply hg;unfold gk;rw[show jg n (ds++[d])=jg n ds++[mR d]by unfold jg;rw[ew,kO];rfl];rw[gH,gS,gH,gS,kK,iy,iy,ew,ew,dZ,gI,dZ,gI,KP _ _ _ (by unfold jg;simp)];simp
 rw[cR,<- ap4,show aa "\n"=nl from rfl];apply hg;simp only[gH,gS,jE]
def Qw{n:Int}(aL:0<=n/\n<=99)(h:∀d∈ds,la n d)(aw:↑ds<=12):↑(gk n ds)<=1000:=by
 have dI:∀r∈jg n ds,↑r<=7/\∀x∈r,↑x<=8:=λr au=>by
  rcases cT.mp au with e|e
  .subst e;refine(by show 2<=7;decide,λx ai=>?_);have:x=aa "ring"\/x=num n:=by simpa using ai
   rcases this with rfl|rfl
   .ac_nf
   .exact (gP (v:=n) () ()).1
  .let(d,hd,rfl):=dg.mp e;exact(by show 7<=7;decide,λx ai=>((h d hd).plain aL.2 x ai).1)
 have M6:∀y∈(jg n ds).map (dk b3),↑y<=70:=λy bg=>by
  let(r,au,rfl):=dg.mp bg;have af:=mf b3 8 r (dI r au).2;rw[jw]at af;have:=(dI r au).1;omega
 have:=mf nl 70 _ M6;rw[lC,a9]at this;have mH:↑(jg n ds)<=13:=by
  unfold jg;rw[gw,a9];omega
 unfold gk;omega
structure kk(n:Int)(ds:List aQ)(z:Nat)(sp:List bj):Prop where
 aL:4<=n/\n<=12
 aw:1<=↑ds/\↑ds<=5
 D:qd n ds
 S:qH z ds sp
 dS:10<=z/\z<=85
def Qa(K:a'):bH:=λvs H Q _=>∃(cI:Addr) (n:Int) (wl:Addr) (ds:List aQ) (eK:Addr) (z:Nat) (aX:Addr) (qs:List Addr) (sp:List bj),vs=[⇑cI,⇑eK]/\H cI\(.tup [.int n,⇑wl])/\i3 H wl ds/\H eK\(.tup [.int z,⇑aX])/\SL H aX qs sp/\kk n ds z sp/\aG H /\
 ∀fy I,aC H I->aG I->I fy\(.tup [.str (gk n ds),.str (hy z sp)])->Q ⇑fy I
theorem acK:cj P base T 1 t.Fm t.Bb Ex (Qa K):=by
 exists T.KC.ok tD,9
 let(cI,n,wl,ds,eK,z,aX,qs,sp,rfl,Vp,(ws,cw,dH,nM),adH,aqT,J,a8,q):=h;refine(_,(aN (bO (i:=2) tD.aD (bk fv Db (jo lR rfl T.lY lp (ag (bP dT (U 0) aS) aA))))
   (aN (eF fJ rfl (e5 (bP dT (U 0) aS)) (b6 (i:=3) tD.aD) (aY (bO (i:=2) tD.aD (bk fv (bk fv (bk fv (bk fv (bk fv (bk fv (U 2) Db) (bP dT (U 3) aS)) Db) (bP dT (U 3) aS)) Db) (gL lT yH z3 vT Db (ag (iz rfl (Xb (tE ZJ (U 3) (tC aS) s6)) (hi (sc:=br (top 164)) rfl ∅) (N:=["_law_number"]) (sel:=[none]) (ha (M:=["_law_made","_law_spans_here","_law_crossing","_law_way","_law_plan","_law_one"]) ∅) (fR.of (λ_ _ _ _=>(b6 (i:=0) (fk (N:=["_law_number"]) ∅ rfl))) (λ_ _ _ _=>(_,iB,by walk_at "B")) (λ_ _ _ _=>(_,(jo lR rfl T.lY lp (ag (U 0) aA)),by walk_at "B")))) aA))))))
   (aN (bO (i:=4) tD.aD (bk fv Db (jo lR rfl T.lY lp (ag (bP dT (U 1) aS) aA))))
   (aN (eF fJ rfl (e5 (bP dT (U 1) aS)) (b6 (i:=5) tD.aD) (aY (bO (i:=4) tD.aD (bk fv (bk fv (bk fv (bk fv (bk fv (bk fv (U 4) Db) (bP dA (U 5) aS)) Db) (jo lR rfl T.lY lp (ag (bP dA (U 5) aS) aA))) Db) (jo lR rfl T.lY lp (ag (bP dA (U 5) aS) aA))))))
   (aY (bR (kr (ag (U 2) (ag (U 4) aA))))))))),?_)
 have aL:=J.aL;have aw:=J.aw;have ax:=J.dS;have ee:∀k:Nat,k<=10000->k<=sizeLine:=λk h=>cH h ∅
 have lr:↑(aa " ")=1:=∅
 have asU:↑(aa (toString n))<=8:=(gP (v:=n) () ()).1;have RH:↑(aa (toString (z:Int)))<=8:=(gP (v:=(z:Int)) () ()).1;exists (λaT I=>I=H/\aT=[~~~cI,~~~eK,some (.str (gk n [])),none,none,none]),3
 .nofun;refine(_,b1.of Vp,_,cO (j:=0) rfl,_,rfl,qc (),ee _ (by rw[(∅:↑(aa "ring ")=5)];omega),?_);rw[show aa "ring "++aa (toString n)=gk n []from(ah0 n).symm];exact bB _ _ (rfl,rfl)
 intro h8 H1 (rfl,rfl);subst ba;exists (λaT I=>aC H1 I/\aG I/\∃dx,aT=[~~~cI,~~~eK,some (.str (gk n ds)),dx,none,none]),3
 .nofun;refine(_,b1.of Vp,_,cO (j:=1) rfl,_,rfl,(_,aH.of cw),?_);refine dW.list (xs:=ws.map V.ref) (λi σ I=>aC H1 I/\aG I/\∃dx,σ=[~~~cI,~~~eK,some (.str (gk n (ds.take i))),dx,none,none]) ?_ ?_ ?_ ?_
  .exact (aC.refl _,a8,_,rfl)
  .intro i σ I ao (a7,_);exact aH.of (a7 _ _ cw)
  .rintro i v σ I aM a3;ac_rfl
   let(a7,ef,dx,rfl):=a3;let(d3,mW,rfl):=cF aM;have hp:i<↑ds:=by rw[<- dH];exact(cv.mp mW).1
   have g0:ds[i]?\ds[i]:=bJ hp;have l8:=a7 _ _ (nM i _ _ mW g0);have hw:=(J.D.al _ (cC g0)).1;have qI:=Qw (n:=n) (ds:=ds.take i) () (λd hd=>(J.D.al d (C6 hd)).1) (by rw[fw];omega);have yC:=af3 n (ds.take i) ds[i];subst ba;rw[<- jn g0]at yC;generalize ds[i]=d at g0 l8 hw yC;have jY:=hw.st;have iq:=hw.fC;have vR:=hw.of;have X8:=hw.En;have aka:=hw.le;have dS:=(T9 d.k).1;have dF:=(vu hw.nm).1;have Lk:↑(num d.start)<=8:=(gP (v:=d.start) () ()).1;have asP:↑(num d.fin)<=8:=(gP (v:=d.fin) () ()).1;have asB:↑(num d.off)<=8:=(gP (v:=d.off) () ()).1;have arJ:↑(num d.least)<=8:=(gP (v:=d.least) () ()).1;have Wf:↑(num d.near)<=8:=(gP (v:=d.near) () ()).1;have dN:b1 K I d3 (f9 d):=b1.of l8;have arM:↑(aa "\n")=1:=∅
   have FY:eD (f9 d) 0\(.str (d5 d.k)):=cO (j:=0) rfl;have yY:k_ (f9 d) (some 2) none=[.int d.start,.int d.fin,.int d.off,.int d.near,.int d.least]:=rfl;nofun;refine(ee _ (),_,dN,_,FY,_,rfl,ee _ (by rw[gQ];omega),ee _ (by simp only[gQ];omega),_,dN,_,mh _,_,rfl,ee _ (by simp only[gQ];omega),ee _ (by simp only[gQ];omega),_,dN,?_,λp aq=>((_,b1.of aP),?_))
   .show ¬(fx.c3 7 0 (some 2)=0/\fx.c3 7 7 none=7);decide
   rw[yY];have Zm:↑(iT (aa " ") [num d.start,num d.fin,num d.off,num d.near,num d.least])<=50:=by
    rw[show iT (aa " ") [num d.start,num d.fin,num d.off,num d.near,num d.least]=dk b3 [num d.start,num d.fin,num d.off,num d.near,num d.least]from ve _ _];have:=mf b3 8 [num d.start,num d.fin,num d.off,num d.near,num d.least] (λy bg=>by
     simp only[cT,fq,or_false]at bg;rcases bg with rfl|rfl|rfl|rfl|rfl <;> assumption)
    rw[jw]at this;simp only[gw,uZ]at this;omega
   have al0:aC I (upd I p (.tup [.int d.start,.int d.fin,.int d.off,.int d.near,.int d.least])):=bp aq;refine dv.Zv (xs:=[.int d.start,.int d.fin,.int d.off,.int d.near,.int d.least]) (zs:=bz [num d.start,num d.fin,num d.off,num d.near,num d.least]) (b1.of aP) (ee _ ((∅:5<=10000))) rfl (λj v z N aM ax bc=>?_) (λdR dy=>?_)
   .have key:∃a:Int,v=.int a/\z=.str (num a)/\0<=a/\a<100:=by
     match j,aM,ax with
     |0,aM,ax=>cases aM;cases ax;exact(_,rfl,rfl,jY.1,())
     |1,aM,ax=>cases aM;cases ax;exact(_,rfl,rfl,iq.1,())
     |2,aM,ax=>cases aM;cases ax;exact(_,rfl,rfl,vR.1,())
     |3,aM,ax=>cases aM;cases ax;exact(_,rfl,rfl,X8.1,())
     |4,aM,ax=>cases aM;cases ax;exact(_,rfl,rfl,(),())
     |k+5,aM,ax=>simp at aM
    let(a,rfl,rfl,F8,atb):=key;nofun;exact(Sub.name,qc (),bc)
   .nofun;refine(_,aH.of aP,?_,ee _ (by simp only[gQ];omega),(a7.trans al0).trans (bp dy),ef.upd.upd,yC.symm,_,rfl);simp only[dZ,gI,M5,List.sum_nil,gw,uZ];omega
  .rintro σ I a3;ac_rfl
   let(a7,ef,dx,rfl):=a3;subst ba;rw[a9,dH,kR];exact bB _ _ (a7,ef,_,rfl)
 intro c8 ay (s2,cg,dx,rfl);have jN:=aqT.same s2;have Uu:=s2 _ _ adH;have F9:∀s∈sp,n7 s.name/\(0<=s.b/\s.b<1000)/\0<=s.n/\s.n<1000:=λs aB=>by
  have:=J.S.al s aB;let(d,hd,e):=dg.mp this.1;refine(by rw[<- e];exact vu (J.D.al d hd).1.nm,(),(),())
 have E6:∀i,↑(hy z (sp.take i))<=5000:=λi=>Vu () (λs aB=>F9 s (C6 aB)) (by rw[fw];have:=J.S.ln;omega)
 subst ba;exists (λaT I=>I=ay/\aT=[~~~cI,~~~eK,some (.str (gk n ds)),dx,some (.str (hy z [])),none]),3
 .nofun;refine(_,b1.of Uu,_,cO (j:=0) rfl,_,rfl,qc (),ee _ (by rw[(∅:↑(aa "round ")=6)];omega),?_);rw[show aa "round "++aa (toString (z:Int))=hy z []from(abB z).symm];exact bB _ _ (rfl,rfl)
 intro iO bq (rfl,rfl);subst ba;exists (λaT I=>I=bq/\∃ej,aT=[~~~cI,~~~eK,some (.str (gk n ds)),dx,some (.str (hy z sp)),ej]),3
 .nofun;refine(_,b1.of Uu,_,cO (j:=1) rfl,_,rfl,(_,aH.of jN.af),?_);refine dW.list (xs:=qs.map V.ref) (λi σ I=>I=bq/\∃ej,σ=[~~~cI,~~~eK,some (.str (gk n ds)),dx,some (.str (hy z (sp.take i))),ej]) ?_ ?_ ?_ ?_
  .exact (rfl,_,rfl)
  .intro i σ I ao (rfl,_);exact aH.of jN.af
  .rintro i v σ I aM ⟨rfl,x,rfl⟩;obtain⟨hG,fg,rfl⟩:=cF aM;have tb:i<↑sp:=by rw[<- jN.aj];exact(cv.mp fg).1
   have iv:sp[i]?\sp[i]:=bJ tb;have dN:aH K I hG (qV sp[i]):=aH.of (jN.al i hG _ fg iv);generalize sp[i]=dq at iv dN;have g:=F9 dq (cC iv);have t1:=E6 i;have bY:=g.1.1;have e':↑(aa (toString dq.b))<=8:=(gP (v:=dq.b) () ()).1;have k2:↑(aa (toString dq.n))<=8:=(gP (v:=dq.n) () ()).1;have hf:↑(aa "\nfree ")=6:=∅
   have t0:eD (qV dq) 0\(.str dq.name):=cO (j:=0) rfl;have afx:eD (qV dq) 1\(.int dq.b):=cO (j:=1) rfl;have ya:eD (qV dq) 2\(.int dq.n):=cO (j:=2) rfl;nofun;refine(ee _ (),_,dN,_,t0,_,rfl,ee _ (by rw[gQ];omega),ee _ (by simp only[gQ];omega),_,dN,_,afx,_,rfl,qc (),ee _ (by simp only[gQ];omega),ee _ (by simp only[gQ];omega),_,dN,_,ya,_,rfl,qc (),ee _ (by simp only[gQ];omega),?_,_,rfl);rw[jn iv,ajQ]
  .intro σ I (rfl,x,rfl);rw[l4 (by rw[a9,jN.aj];exact b0 _)];exact bB _ _ (rfl,_,rfl)
 intro qZ cc (rfl,ej,rfl);subst ba;nofun;exact(∅,λfy aqj=>q fy _ (s2.trans (bp aqj)) cg.upd aP)
structure sO(z:Nat)(sp:List bj)(ds:List aQ)(far:Int)(H:ar)(dt:Addr)(rs:List Addr)(m:Nat):Prop where
 af:H dt\(.lst (rs.map V.ref))
 aj:↑rs=m
 al:∀(i:Nat) (r:Addr),rs[i]?\r->H r\(.bL (fi ds λd=>bS (fz z sp d (far+(i:Nat)))))
def sO.same{sp:List bj}{far:Int}(h:sO z sp ds far H dt rs m)(s:aC H I):sO z sp ds far I dt rs m:=(s _ _ h.af,h.aj,λi r e=>s _ _ (h.al i r e))
def zg(aD:(ds.map (·.name)).Nodup)(au:H r\(.bL (fi ds f))){i:Nat}{d:aQ}(hd:ds[i]?\d):gq H r (.str d.name) (some (.str (f d))):=by
 have:=gq.k (k:=b5 d.name) au;rw[ajd aD hd]at this;exact this
def HE(ah:c<4):decide (V.str (bS c)=V.str (aa "free"))=decide (c=2):=decide_eq_decide.mpr (λe=>Bg ah ∅ (show bS c=bS 2 from V.str.inj e),λe=>by rw[e];rfl)
def Mf(z:Nat)(sp:List bj)(d:aQ)(u:Int):fz z sp d u<4:=S6 ..
def QQ(d:aQ):eD (f9 d) 4\(.int d.off):=cO (j:=4) rfl
def afK(d:aQ):eD (f9 d) 5\(.int d.near):=cO (j:=5) rfl
def R9(n:Int)(z:Nat)(sp:List bj)(ds:List aQ):Prop:=∀d∈ds,∀e∈ds,d.name≠e.name->mt n d e=true->∀(u:Int) (j:Nat),(j:Int)<=hr d e->fz z sp e u=2->fz z sp d (u-j)≠2
def Q2(K:a'):bH:=λvs H Q _=>∃(n:Int) (wl:Addr) (ds:List aQ) (dt:Addr) (rs:List Addr) (z:Nat) (sp:List bj) (far:Int) (m:Nat),vs=[.int n,⇑wl,⇑dt]/\i3 H wl ds/\qd n ds/\0<n/\sO z sp ds far H dt rs m/\R9 n z sp ds/\m<=1000/\aG H/\∀I,aC H I->aG I->Q (.bE true) I
def al1:cj P base T 2 t.C_ t.D6 E4 (Q2 K):=by
 refine cn (WG T) λFA=>?_;exists T.Kj.ok uB,9
 let(n,wl,ds,dt,rs,z,sp,far,m,rfl,(ws,cw,dH,nM),D,afR,R,Nq,hm,a8,q):=h;have bx:=iU au;refine(_,(aN (eF fJ rfl (e5 (U 1)) (b6 (i:=3) uB.aD) (aY (eF fJ rfl (e5 (U 1)) (b6 (i:=4) uB.aD) (aY (c0 (f5.pt (wB (cS js (bP dT (U 3) aS) (bP dT (U 4) aS) (ct _)) (u4 (jS (bT FA au T.Ox T.EF.bt T.PU (ag (U 0) (ag (U 3) (ag (U 4) aA)))))))) (aN (bO (i:=5) uB.aD (f7 (JP rfl) rfl T.B_ Do (ag aS (ag (bk ih (bP dT (U 3) aS) (bP dT (U 4) aS)) aA))))
   (aY (eF fJ rfl (KV rfl T.i9 (ag (U 5) (ag (f7 iM rfl T.hY hT (ag (U 2) aA)) aA))) (b6 (i:=6) uB.aD) (aY (c0 (cS eZ (j7 bx (bP dA (U 2) (U 6)) (bP dT (U 4) aS) (λ_ _=>rfl)) Db (ct _)) (aY (eF fJ rfl (lb rfl T.i9 (ag (bk dd (U 5) aS) aA)) (b6 (i:=7) uB.aD) (aY (c0 (cS eZ (j7 bx (bP dA (U 2) (bk ih (U 6) (U 7))) (bP dT (U 3) aS) (λ_ _=>rfl)) Db (ct _)) (aY (bR hA)) c7)))) c7))))) c7)))))
   (aY (bR hA))),?_)
 nofun;refine((_,aH.of cw),?_);refine dW.list (xs:=ws.map V.ref) (λi σ I=>aC H I/\aG I/\∃dx gA ej dU dw,σ=[some (.int n),~~~wl,~~~dt,dx,gA,ej,dU,dw]) ?_ ?_ ?_ ?_
 .exact (aC.refl _,a8,_,_,_,_,_,rfl)
 .intro i σ I ao (a7,_);exact aH.of (a7 _ _ cw)
 .rintro i v σ I aM a3;ac_rfl
  let(a7,ef,dx,gA,ej,dU,dw,rfl):=a3;let(d3,mW,rfl):=cF aM;have hp:i<↑ds:=by rw[<- dH];exact(cv.mp mW).1
  have g0:ds[i]?\ds[i]:=bJ hp;have az:=nM i _ _ mW g0;have kV:=cC g0;subst ba;generalize ds[i]=d at g0 az kV;have od:=(D.al d kV).1;simp only[gu,j',j8];nofun;refine((_,aH.of (a7 _ _ cw)),?_);refine dW.list (xs:=ws.map V.ref) (λj σ I=>aC H I/\aG I/\∃gA ej dU dw,σ=[some (.int n),~~~wl,~~~dt,~~~d3,gA,ej,dU,dw]) ?_ ?_ ?_ ?_
  .exact (a7,ef,_,_,_,_,rfl)
  .intro i σ I ao (a7,_);exact aH.of (a7 _ _ cw)
  .rintro j v σ ay aM a3;ac_rfl
   let(gC,f_,gA,ej,dU,dw,rfl):=a3;let(jV,p3,rfl):=cF aM;have acz:j<↑ds:=by rw[<- dH];exact(cv.mp p3).1
   have mG:ds[j]?\ds[j]:=bJ acz;have aE:=nM j _ _ p3 mG;have FZ:=cC mG;subst ba;generalize ds[j]=e at mG aE FZ;have Wm:=(D.al e FZ).1;simp only[gu,j',j8];refine jW (λb bq=>b=(decide (d.name≠e.name)&&mt n d e)/\aC ay bq/\aG bq) (λQ aV=>?_) (λbq r=>?_) (λbq r=>?_)
   .nofun;refine(_,b1.of (gC _ _ az),_,mh _,_,b1.of (gC _ _ aE),_,mh _,rfl,?_);by_cases c:d.name=e.name
    .rw [if_neg (by rw[c];simp)];exact aV _ _ (by rw[decide_eq_false (λz=>z c)];rfl,aC.refl _,f_)
    .rw [if_pos (by simpa using c)];exact(n,d3,jV,d,e,rfl,b1.of (gC _ _ az),b1.of (gC _ _ aE),od,Wm,f_,_,rfl,aV _ _ (by rw[decide_eq_true c];rfl,aC.refl _,f_))
   .obtain⟨ae,s3,dh⟩:=r;have ae:=ae.symm;rw[jt,decide_eq_true_eq]at ae;have hV:=gC.trans s3;have aq5:0<=hr d e:=by unfold hr;split <;> omega
    let(g,a0):∃g:Nat,hr d e=(g:Nat):=((hr d e).toNat,());have asE:g<=30:=by
     have:=od.of;have:=Wm.En;unfold hr at a0;split at a0 <;> omega
    simp only[d4];exists (λaT cc=>cc=bq/\aT=[some (.int n),~~~wl,~~~dt,~~~d3,~~~jV,some (.int (g:Nat)),dU,dw]),0
    .nofun;refine(_,b1.of (hV _ _ az),_,QQ _,_,b1.of (hV _ _ aE),_,afK _,?_);refine(_,rfl,_,rfl,bB _ _ (rfl,?_));rw[show(if d.off-e.near>0 then d.off-e.near else 0)=(g:Int)from a0]
    intro qZ cc (rfl,rfl);subst ba;nofun;refine(_,.inl (aH.of (hV _ _ R.af)),?_);rw[a9,R.aj];refine((),(),(),(),?_);refine dW.range (λk σ I=>I=cc/\∃dU dw,σ=[some (.int n),~~~wl,~~~dt,~~~d3,~~~jV,some (.int (g:Nat)),dU,dw]) ?_ ?_ ?_
    .exact (rfl,_,_,rfl)
    .rintro k σ I aI a3;ac_rfl
     let(rfl,dU,dw,rfl):=a3;have aaQ:g+k<m:=()
     let(r,ll):∃r,rs[g+k]?\r:=(_,bJ (by rw[R.aj];exact aaQ));have kD:=hV _ _ (R.al _ _ ll);have F6:eD (rs.map V.ref) ((g:Int)+(k:Nat))\⇑r:=by
      rw[show(g:Int)+(k:Nat)=((g+k:Nat):Int)by omega];exact cO (by rw[d7,ll];rfl)
     have Yc:=aH.of (K:=K) (hV _ _ R.af);subst ba;simp only[gu,j',j8];refine cX (decide (fz z sp e (far+((g+k:Nat):Int))=2)) (λQ aV=>?_) (λc=>?_) (λc=>?_)
     .nofun;refine(_,Yc,_,F6,_,b1.of (hV _ _ aE),_,mh _,_,rfl,_,zg D.aD kD mG,rfl,?_);rw[HE (Mf ..)];exact aV
     .have c:=of_decide_eq_true c;nofun;refine((),(),?_);refine dW.range (λb σ cQ=>cQ=I/\∃dw,σ=[some (.int n),~~~wl,~~~dt,~~~d3,~~~jV,some (.int (g:Nat)),some (.int ((g:Int)+(k:Nat))),dw]) ?_ ?_ ?_
      .exact (rfl,_,rfl)
      .rintro b σ cQ q' ⟨rfl,dw,rfl⟩;have aso:b<=g:=()
       let(c4,lK):∃r,rs[g+k-b]?\r:=(_,bJ (by rw[R.aj];omega));have al7:=hV _ _ (R.al _ _ lK);have aie:eD (rs.map V.ref) ((g:Int)+(k:Nat)-(b:Nat))\⇑c4:=by
        rw[show(g:Int)+(k:Nat)-(b:Nat)=((g+k-b:Nat):Int)by omega];exact cO (by rw[d7,lK];rfl)
       have Pl:=Nq d kV e FZ ae.1 ae.2 (far+((g+k:Nat):Int)) b () c;rw[show far+((g+k:Nat):Int)-(b:Int)=far+((g+k-b:Nat):Int)by omega]at Pl;simp only[gu,j',j8,xg];refine cX false (λQ aV=>?_) (λah=>nomatch ah) (λ_=>?_)
       .nofun;refine(_,Yc,_,aie,_,b1.of (hV _ _ az),_,mh _,_,rfl,_,zg D.aD al7 g0,rfl,?_);rw[HE (Mf ..),decide_eq_false Pl];exact aV
       .nofun;exact(_,rfl)
      .intro σ cQ (rfl,dw,rfl);exact(rfl,_,_,rfl)
     .nofun;exact(_,rfl)
    .rintro σ I a3;ac_rfl
     let(rfl,dU,dw,rfl):=a3;subst ba;exact(hV,dh,_,_,_,_,rfl)
   .let(ae,s3,dh):=r;nofun;exact(gC.trans s3,dh,_,rfl)
  .rintro σ I a3;ac_rfl
   let(a7,ef,gA,ej,dU,dw,rfl):=a3;subst ba;exact(a7,ef,_,_,_,_,_,rfl)
 .rintro σ I a3;ac_rfl
  let(a7,ef,dx,gA,ej,dU,dw,rfl):=a3;subst ba;nofun;exact q _ a7 ef
def VD(d:aQ):eD (f9 d) 0\(.str (d5 d.k)):=cO (j:=0) rfl
noncomputable def Cx:List Str:=[aa "car",aa "foot",aa "tram"]
theorem X5:∀k,k<3->Cx[k]?\(d5 k)
 |0,_=>rfl
 |1,_=>rfl
 |2,_=>rfl
def Pq:∀k,k<3->∀m,m<k->Cx[m]? ≠ some (d5 k):=∅
theorem ai9{d:aQ}(aI:d.k<3):eD [V.int 1,.int 0,.int 2] ((d.k:Nat):Int)\(.int (c1 d)):=by
 unfold c1;generalize d.k=k at aI⊢
 match k,aI with
 |0,_=>exact cO (j:=0) rfl
 |1,_=>exact cO (j:=1) rfl
 |2,_=>exact cO (j:=2) rfl
theorem ad8{d:aQ}(aI:d.k<3):eD [V.int 2,.int d.off,.int 1] ((d.k:Nat):Int)\(.int (c5 d)):=by
 unfold c5;generalize d.k=k at aI⊢
 match k,aI with
 |0,_=>exact cO (j:=0) rfl
 |1,_=>exact cO (j:=1) rfl
 |2,_=>exact cO (j:=2) rfl
theorem TW{d:aQ}(ah:c<4)(h:KX (c1 d) (c5 d) c eT):eT∈vm d c:=by
 let(h0,af,aj,a_):=h
 match c,ah with
 |0,_=>rw[h0 rfl];exact .head _
 |1,_=>rw[af rfl];exact .head _
 |2,_=>rw[aj rfl];exact .head _
 |3,_=>
  rcases a_ rfl with e|e
  .rw [e];exact .head _
  .rw [e];exact .tail _ (.head _)
theorem Uw(p:Nat->Bool)(f:Nat->α):∀l:List Nat,(l.map λi=>if p i=true then some (f i)else none).flatMap H8=(l.filter p).map f
 |[]=>rfl
 |a::l=>by
  rw[dZ,List.flatMap_cons,Uw p f l];by_cases c:p a=true
  .rw [if_pos c,PV c];rfl
  .rw [if_neg c,Wh c];rfl
noncomputable def tI(cs:List Nat):List V:=(jX cs).map (λi:Nat=>V.int i)++[.int ↑cs]
def amW(cs:List Nat):↑(tI cs)=↑(jX cs)+1:=by unfold tI;rw[c',a9];rfl
def W3(cs:List Nat):↑(jX cs)<=↑cs:=by
 have:=Q8 (nX cs) (el ↑cs);rw[kf]at this;exact this
def Vo{cs:List Nat}{i a:Nat}(h:(jX cs)[i]?\a):eD (tI cs) (i:Int)\(.int (a:Nat)):=by
 refine cO ?_;unfold tI;rw[sv (by rw[a9];exact(cv.mp h).1),d7,h];rfl
def P_{cs:List Nat}{i a:Nat}(h:(jX cs)[i]?\a):a<↑cs:=pd.mp (lu.mp (cC h)).1
def Bd{cs:List Nat}(h:cs[a]?\c):eD (jF cs) ((a:Nat):Int)\(.str (bS c)):=cO (by unfold jF;rw[d7,h];rfl)
noncomputable def lsN(d:aQ):Nat->Int
 |1=>c1 d
 |2=>d.least
 |_=>c5 d
def ab0(fN fZ dx:V):m8 [] [(p'p (b5 (bS 1)) fN),(p'p (b5 (bS 2)) fZ),(p'p (b5 (bS 3)) dx)]=[(p'p (b5 (bS 1)) fN),(p'p (b5 (bS 2)) fZ),(p'p (b5 (bS 3)) dx)]:=by
 have oN:=iY (a:=1) (b:=2) ∅ ∅ ∅;have nu:=iY (a:=1) (b:=3) ∅ ∅ ∅;have t4:=iY (a:=2) (b:=3) ∅ ∅ ∅;unfold m8;simp only[xR,xt];rw[tP fN (k:=b5 (bS 1)) (by rfl),tP fZ (by simp[c6,oN]),tP dx (by simp[c6,nu,t4])];rfl
theorem ada(f:Nat->V)(ah:c<4)(h0:c≠0):c6 ([(p'p (b5 (bS 1)) (f 1)),(p'p (b5 (bS 2)) (f 2)),(p'p (b5 (bS 3)) (f 3))]:List (Key×V)) (b5 (bS c))\(f c):=by
 have oN:=iY (a:=1) (b:=2) ∅ ∅ ∅;have nu:=iY (a:=1) (b:=3) ∅ ∅ ∅;have t4:=iY (a:=2) (b:=3) ∅ ∅ ∅
 match c,ah with
 |0,_=>exact absurd rfl h0
 |1,_=>simp[c6]
 |2,_=>simp[c6,oN]
 |3,_=>simp[c6,nu,t4]
def X'(K:a'):bH:=λvs H Q _=>∃(kp dt:Addr) (d:aQ) (cs:List Nat),vs=[⇑kp,⇑dt]/\H kp\(.tup (f9 d))/\d.k<3/\H dt\(.lst (jF cs))/\Yg d cs/\↑cs<=1000/\aG H/\∀I,aC H I->aG I->Q (.bE true) I
theorem ae2:cj P base T 1 t.Ch t.Be D5 (X' K):=by
 exists T.Gz.ok nj,9
 let(kp,dt,d,cs,rfl,Ej,aI,pf,O,wd,a8,q):=h;have bx:=iU au;refine(_,(aN (bO (i:=2) nj.aD (bP dA (fE (ag aS (ag aS (ag aS aA)))) (gL mw B2 Y8 Wb (fE (ag Db (ag Db (ag Db aA)))) (ag (bP dT (U 0) aS) aA))))
   (aN (bO (i:=3) nj.aD (bP dA (fE (ag aS (ag (bP dT (U 0) aS) (ag aS aA)))) (gL mw B2 Y8 Wb (fE (ag Db (ag Db (ag Db aA)))) (ag (bP dT (U 0) aS) aA))))
   (aN (bO (i:=4) nj.aD (bk ajh (iz rfl (lb rfl T.i9 (ag (f7 iM rfl T.hY hT (ag (U 1) aA)) aA)) (hi (sc:=br (top 166)) rfl ∅) (N:=["_law_at","_law_row"]) (sel:=[none,some 1]) (ha (M:=["_law_way","_law_row","_law_ready","_law_fade","_law_starts","_law_ahead","_law_behind","_law_follows","_law_k","_law_one","_law_turns","_law_least"]) ∅) (fR.of (λ_ _ _ _=>(b6 (i:=0) (fk (N:=["_law_at","_law_row"]) ∅ rfl))) (λ_ _ _ _=>(_,(x' (f5.pt (ph (cS eZ (U 0) aS (ct _)) (pF (cS js (bP dA (U 1) (U 0)) (bP dA (U 1) (bk ih (U 0) aS)) (ct _)))))),by walk_at "B")) (λ_ _ _ _=>(_,(U 0),by walk_at "B")))) (fE (ag (f7 iM rfl T.hY hT (ag (U 1) aA)) aA))))
   (aN (bO (i:=5) nj.aD (Ev (cS qb (U 2) aS (ct _)) Db Db))
   (aN (bO (i:=6) nj.aD (Ev (cS qb (U 3) aS (ct _)) Db Db))
   (aN (bO (i:=7) nj.aD (Ri (sP Db (fE (ag (U 5) aA)) (sP Db (fE (ag Db aA)) (sP Db (fE (ag (U 6) aA)) (sP Db (fE (ag Db (ag (U 5) aA))) Yq)))) rfl rfl (by simp) ∅))
   (aN (eF fJ rfl (KV rfl T.i9 (ag aS (ag (bk ih (f7 iM rfl T.hY hT (ag (U 4) aA)) aS) aA))) (b6 (i:=8) nj.aD) (aN (bO (i:=9) nj.aD (bP dA (U 1) (bP dA (U 4) (bk ih (U 8) aS))))
   (aN (c0 (cS XK (bP dA (U 1) (bP dA (U 4) (U 8))) (j7 bx (U 7) (U 9) (λ_ _=>rfl)) (by with_unfolding_all rfl)) (aY (bR hA)) c7)
   (aN (bO (i:=10) nj.aD (bk ih (bP dA (U 4) (U 8)) (bP dA (U 4) (bk ih (U 8) aS))))
   (aY (c0 (f5.pt (wB (cS qb (U 8) aS (ct _)) (u4 (cS js (U 9) Db (ct _))))) (aN (bO (i:=11) nj.aD (j7 bx (Ri (sP Db (U 2) (sP Db (bP dT (U 0) aS) (sP Db (U 3) Yq))) rfl rfl (by simp) ∅) (U 9) (λ_ _=>rfl)))
   (aY (c0 (f5.pt (ph (cS qv (U 10) (U 11) (ct _)) (pF (f5.pt (wB (cS qb (U 10) (U 11) (ct _)) (u4 (cS js (U 9) Db (ct _)))))))) (aY (bR hA)) c7))) c7))))))
   (aY (bR hA))))))))),?_)
 have ee:∀k:Nat,k<=10000->k<=sizeLine:=λk h=>cH h ∅
 exists (λaT I=>aC H I/\aG I/\aT=[~~~kp,~~~dt,some (.int (c1 d)),none,none,none,none,none,none,none,none,none]),4
 .nofun;refine(∅,λp aq=>?_);let(hx,cK):∃l1:ar,l1=upd H p (.lst [.int 1,.int 0,.int 2]):=(_,rfl);rw[<- cK];have hC:aC H hx:=by rw[cK];exact bp aq
  have na:aG hx:=by rw[cK];exact a8.upd
  have yO:hx p\(.lst [.int 1,.int 0,.int 2]):=by rw[cK];exact aP
  clear cK;refine(∅,λdD eB=>?_);let(hF,dc):∃l1:ar,l1=upd hx dD (.lst [.str (aa "car"),.str (aa "foot"),.str (aa "tram")]):=(_,rfl);rw[<- dc];have hs:aC hx hF:=by rw[dc];exact bp eB
  have nb:aG hF:=by rw[dc];exact na.upd
  have tA:hF dD\(.lst [.str (aa "car"),.str (aa "foot"),.str (aa "tram")]):=by rw[dc];exact aP
  clear dc;exact(.inl (_,aH.of tA),_,b1.of (hs _ _ (hC _ _ Ej)),_,VD _,Cx,_,rfl,aH.of tA,d.k,X5 d.k aI,Pq d.k aI,∅,_,aH.of (hs _ _ yO),_,ai9 aI,bB _ _ (hC.trans hs,nb,rfl))
 intro h8 H1 (s1,bY,rfl);subst ba;exists (λaT I=>aC H I/\aG I/\aT=[~~~kp,~~~dt,some (.int (c1 d)),some (.int (c5 d)),none,none,none,none,none,none,none,none]),4
 .nofun;refine(_,b1.of (s1 _ _ Ej),_,QQ _,∅,λp aq=>?_);let(hx,cK):∃l1:ar,l1=upd H1 p (.lst [.int 2,.int d.off,.int 1]):=(_,rfl);rw[<- cK];have hC:aC H1 hx:=by rw[cK];exact bp aq
  have na:aG hx:=by rw[cK];exact bY.upd
  have yO:hx p\(.lst [.int 2,.int d.off,.int 1]):=by rw[cK];exact aP
  clear cK;refine(∅,λdD eB=>?_);let(hF,dc):∃l1:ar,l1=upd hx dD (.lst [.str (aa "car"),.str (aa "foot"),.str (aa "tram")]):=(_,rfl);rw[<- dc];have hs:aC hx hF:=by rw[dc];exact bp eB
  have nb:aG hF:=by rw[dc];exact na.upd
  have tA:hF dD\(.lst [.str (aa "car"),.str (aa "foot"),.str (aa "tram")]):=by rw[dc];exact aP
  clear dc;exact(.inl (_,aH.of tA),_,b1.of (hs _ _ (hC _ _ (s1 _ _ Ej))),_,VD _,Cx,_,rfl,aH.of tA,d.k,X5 d.k aI,Pq d.k aI,∅,_,aH.of (hs _ _ yO),_,ad8 aI,bB _ _ ((s1.trans hC).trans hs,nb,rfl))
 intro c8 ay (s2,cg,rfl);subst ba;simp only[d4];have lK:=s2 _ _ pf;exists (λaT I=>aC H I/\aG I/\∃aX,I aX\(.lst (tI cs))/\aT=[~~~kp,~~~dt,some (.int (c1 d)),some (.int (c5 d)),~~~aX,none,none,none,none,none,none,none]),1
 .nofun;refine(_,.inl (aH.of lK),?_);rw[show ↑(jF cs)=↑cs from a9 ..];refine((),(),?_);rw[pN];refine dv.acx (ss:=(el ↑cs).map λi=>if nX cs i=true then some (V.int (i:Nat))else none) (ee _ ()) (by rw[a9,kf]) (λi o ys N ao aW bc=>?_) (λp aq=>?_)
  .obtain⟨pR,nq,rfl⟩:=cF aW;have:pR=i:=by rw[A1 ao]at nq;exact(d6 nq).symm
   subst this;nofun;refine(Sub.name,?_);let(c,ah):∃c,cs[pR]?\c:=(_,bJ ao);have kj:=O.lt c (cC ah);by_cases et:pR=0
   .rw [if_pos (decide_eq_true ())];rw[if_pos (show nX cs pR=true by unfold nX;rw[decide_eq_true et];rfl)]at bc;exact bc
   .rw[if_neg (by simpa using et)];let(e,he):∃c,cs[pR-1]?\c:=(_,bJ ());have gY:=O.lt e (cC he);refine(_,aH.of lK,_,Bd ah,_,aH.of lK,_,by rw[show(pR:Int)-1=((pR-1:Nat):Int)by omega];exact Bd he,rfl,?_);have gJ:nX cs pR = !decide (c=e):=by
     unfold nX;rw[decide_eq_false et,ov,ah,he];by_cases ce:c=e
     .rw [ce];simp
     .rw [decide_eq_false ce,decide_eq_true (by simpa using ce)];rfl
    rw[show decide (V.str (bS c)=V.str (bS e))=decide (c=e)from decide_eq_decide.mpr (λz=>Bg kj gY (V.str.inj z),λz=>by rw[z]),<- gJ];by_cases BI:nX cs pR=true
    .rw [if_pos BI]at bc;rw[if_pos BI];exact bc
    .rw[if_neg BI]at bc;rw[if_neg BI];have:ys++H8 (none:Option V)=ys:=by simp
     rw[this]at bc;exact bc
  .rw[Uw];nofun;have eB:=bp (o:=.lst (gR (λi:Nat=>V.int i) (List.filter (nX cs) (el ↑cs)))) aq;refine(_,.inl (aH.of (eB _ _ lK)),∅,λdD Xx=>(_,(bp Xx) _ _ aP,_,aP,ee _ ?_,λdR dy=>bB _ _ (((s2.trans eB).trans (bp Xx)).trans (bp dy),cg.upd.upd.upd,dR,?_,rfl)))
   .have:=W3 cs;unfold jX at this;rw[a9];show _+1<=10000;omega
   .rw [aP,show ↑(jF cs)=↑cs from a9 ..];rfl
 intro iO bq (s3,dh,aX,b7,rfl);subst ba;simp only[d4];exists (λaT I=>I=bq/\aT=[~~~kp,~~~dt,some (.int (c1 d)),some (.int (c5 d)),~~~aX,some (.str (bS (ji d))),none,none,none,none,none,none]),1
 .nofun;unfold ji at bB;by_cases c:0<c1 d
  .rw [if_pos c]at bB;rw[if_pos (decide_eq_true c)];exact bB _ _ (rfl,rfl)
  .rw [if_neg c]at bB;rw[if_neg (by simpa using c)];exact bB _ _ (rfl,rfl)
 intro qZ cc (rfl,rfl);subst ba;simp only[d4];exists (λaT I=>I=cc/\aT=[~~~kp,~~~dt,some (.int (c1 d)),some (.int (c5 d)),~~~aX,some (.str (bS (ji d))),some (.str (bS (my d))),none,none,none,none,none]),1
 .nofun;unfold my at bB;by_cases c:0<c5 d
  .rw [if_pos c]at bB;rw[if_pos (decide_eq_true c)];exact bB _ _ (rfl,rfl)
  .rw [if_neg c]at bB;rw[if_neg (by simpa using c)];exact bB _ _ (rfl,rfl)
 intro J6 cQ (rfl,rfl);subst ba;simp only[d4];exists (λaT I=>aC cQ I/\aG I/\∃bd,Di I bd d/\aT=[~~~kp,~~~dt,some (.int (c1 d)),some (.int (c5 d)),~~~aX,some (.str (bS (ji d))),some (.str (bS (my d))),~~~bd,none,none,none,none]),1
 .nofun;intro p aq;simp only[zl];nofun;refine(∅,λe3 h0=>(∅,λdD af=>(∅,λdR aj=>(∅,λiD a_=>?_))));have iw:aC cQ (upd cQ p (.bL [])):=bp aq;have na:aG (upd cQ p (.bL [])):=dh.upd;have FY:upd cQ p (.bL []) p\(.bL []):=aP;generalize upd cQ p (.bL [])=hx at *;have nb:aG (upd hx e3 (.lst [V.str (bS (ji d))])):=na.upd;have bM:=bp (o:=.lst [V.str (bS (ji d))]) h0;have wj:upd hx e3 (.lst [V.str (bS (ji d))]) e3\(.lst (jF (vm d 0))):=aP;generalize upd hx e3 (.lst [V.str (bS (ji d))])=hF at *;have Ur:aG (upd hF dD (.lst [V.str (aa "free")])):=nb.upd;have cP:=bp (o:=.lst [V.str (aa "free")]) af;have at2:upd hF dD (.lst [V.str (aa "free")]) dD\(.lst (jF (vm d 1))):=aP;generalize upd hF dD (.lst [V.str (aa "free")])=r3 at *;have aD:aG (upd r3 dR (.lst [V.str (bS (my d))])):=Ur.upd;have eC:=bp (o:=.lst [V.str (bS (my d))]) aj;have aiR:upd r3 dR (.lst [V.str (bS (my d))]) dR\(.lst (jF (vm d 2))):=aP;generalize upd r3 dR (.lst [V.str (bS (my d))])=Kr at *;have lD:=bp (o:=.lst [V.str (aa "stop"),V.str (bS (ji d))]) a_;have PJ:upd Kr iD (.lst [V.str (aa "stop"),V.str (bS (ji d))]) iD\(.lst (jF (vm d 3))):=aP;have Cm:aG (upd Kr iD (.lst [V.str (aa "stop"),V.str (bS (ji d))])):=aD.upd;generalize upd Kr iD (.lst [V.str (aa "stop"),V.str (bS (ji d))])=NR at *;have X7:aC hx NR:=((bM.trans cP).trans eC).trans lD;have nY:=((cP.trans eC).trans lD) _ _ wj;have jY:=(eC.trans lD) _ _ at2;have iq:=lD _ _ aiR;have ep:=X7 _ _ FY;have apart:∀{b:Addr} {xs:List V},NR b\(.lst xs)->b≠p:=λ{b xs} e z=>by rw[z,ep]at e;cases e
  have Gu:aC cQ (upd NR p (.bL (m8 [] [(p'p (b5 (bS 0)) (V.ref e3)),(p'p (b5 (bS 1)) (V.ref dD)),(p'p (b5 (bS 2)) (V.ref dR)),(p'p (b5 (bS 3)) (V.ref iD))]))):=(iw.trans X7).gm aq;refine(ep,[(p'p (b5 (bS 0)) (V.ref e3)),(p'p (b5 (bS 1)) (V.ref dD)),(p'p (b5 (bS 2)) (V.ref dR)),(p'p (b5 (bS 3)) (V.ref iD))],rfl,by show 4<=15;decide,bB _ _ (Gu,Cm.upd,p,(_,aP,λc ah=>?_),rfl));rw[amo];refine(_,am3 (λc=>V.ref (match c with|0=>e3|1=>dD|2=>dR|_=>iD)) ah,?_)
  match c,ah with
  |0,_=>exact(aO (apart nY)).trans nY
  |1,_=>exact(aO (apart jY)).trans jY
  |2,_=>exact(aO (apart iq)).trans iq
  |3,_=>exact(aO (apart PJ)).trans PJ
 intro nd eQ (Xw,rM,bd,mP,rfl);have hX:=Xw _ _ b7;have Zf:=s3.trans Xw;have hH:=W3 cs;subst ba;simp only[d4];refine VT (λaT I=>aC H I/\aG I) (λi6 bB afY _ _=>?_) ?_
 .nofun;refine(_,.inl (aH.of hX),?_);rw[amW];refine((),(),(),(),?_);rw[show((↑(jX cs)+1:Nat):Int)-1-1=(↑(jX cs):Int)-1 by omega];refine dW.range (λk σ I=>aC eQ I/\aG I/\∃fV k6 ko zS,σ=[~~~kp,~~~dt,some (.int (c1 d)),some (.int (c5 d)),~~~aX,some (.str (bS (ji d))),some (.str (bS (my d))),~~~bd,fV,k6,ko,zS]) ?_ ?_ ?_
  .exact (aC.refl _,rM,_,_,_,_,rfl)
  .rintro k σ ju arK a3;ac_rfl
   let(nD,Xf,fV,k6,ko,zS,rfl):=a3;let(a,aJ):∃a,(jX cs)[k]?\a:=(_,bJ ());let(b,ae):∃b,(jX cs)[k+1]?\b:=(_,bJ ());let(ca,AI):∃c,cs[a]?\c:=(_,bJ (P_ aJ));let(xK,X3):∃c,cs[b]?\c:=(_,bJ (P_ ae));have kj:=O.lt ca (cC AI);have akv:=TW kj (O.gF k a b ca xK aJ ae AI X3);have K':=Zf.trans nD;have QE:eD (tI cs) ((1:Int)+(k:Nat)-1)\(.int (a:Nat)):=by rw[show(1:Int)+(k:Nat)-1=(k:Nat)by omega];exact Vo aJ
   have Vd:eD (tI cs) ((1:Int)+(k:Nat))\(.int (b:Nat)):=by rw[show(1:Int)+(k:Nat)=((k+1:Nat):Int)by omega];exact Vo ae
   subst ba;simp only[gu,d4,j',j8];exists (λaT I=>I=ju/\aT=[~~~kp,~~~dt,some (.int (c1 d)),some (.int (c5 d)),~~~aX,some (.str (bS (ji d))),some (.str (bS (my d))),~~~bd,some (.int (1+(k:Nat))),some (.str (bS ca)),ko,zS]),1
   .nofun;exact(_,aH.of (nD _ _ hX),_,QE,_,_,rfl,aH.of (K' _ _ pf),_,Bd AI,bB _ _ (rfl,rfl))
   intro arf tM (rfl,rfl);have r1:=mP.same nD;subst ba;simp only[d4];refine cX false (λjI aV=>?_) (λah=>nomatch ah) (λ_=>?_)
   .nofun;obtain⟨kvs,dc,al⟩:=id r1;obtain⟨as2,lr,q'⟩:=al ca kj;refine⟨_,aH.of (nD _ _ hX),_,Vd,_,_,rfl,aH.of (K' _ _ pf),_,Bd X3,_,by have:=gq.k (k:=b5 (bS ca)) dc;rw[lr]at this;exact this,_,rfl,_,.inl (aH.of q'),rfl,?_,?_⟩
    .unfold jF;rw[ZE];exact oe.mpr λ_ _=>rfl
    .rw [apl akv];exact aV
   simp only[g7,d4];exists (λaT I=>I=tM/\aT=[~~~kp,~~~dt,some (.int (c1 d)),some (.int (c5 d)),~~~aX,some (.str (bS (ji d))),some (.str (bS (my d))),~~~bd,some (.int (1+(k:Nat))),some (.str (bS ca)),some (.int ((b:Int)-a)),zS]),1
   .nofun;exact(_,aH.of (nD _ _ hX),_,Vd,_,aH.of (nD _ _ hX),_,QE,_,rfl,_,rfl,bB _ _ (rfl,rfl))
   intro ai3 rU (rfl,rfl);subst ba;dsimp only;refine cX (decide (0<k) && !decide (ca=0)) (λjI aV=>?_) (λah=>?_) (λah=>?_)
   .nofun;rw[show decide (bS ca=aa "stop")=decide (ca=0)from P1 (m:=0) kj ∅];by_cases c:0<k
    .rw [if_pos (decide_eq_true ())];rw[decide_eq_true c,B6]at aV;exact aV
    .rw [if_neg (by simp;omega)];rw[decide_eq_false c,tU]at aV;exact aV
   .rw[jt,decide_eq_true_eq,Xg,decide_eq_false_iff_not]at ah;let(cw,dH,am1):=O.le k a b ca ah.1 aJ ae AI;simp only[d4];exists (λaT I=>aC rU I/\aG I/\aT=[~~~kp,~~~dt,some (.int (c1 d)),some (.int (c5 d)),~~~aX,some (.str (bS (ji d))),some (.str (bS (my d))),~~~bd,some (.int (1+(k:Nat))),some (.str (bS ca)),some (.int ((b:Int)-a)),some (.int (lsN d ca))]),1
    .nofun;intro p aq;simp only[zl];nofun;have iw:aC rU (upd rU p (.bL [])):=bp aq;have ab3:eD (f9 d) 6\(.int d.least):=FD d;refine(_,b1.of (iw _ _ (K' _ _ Ej)),_,ab3,?_);refine(aP,[(p'p (b5 (bS 1)) (V.int (c1 d))),(p'p (b5 (bS 2)) (V.int d.least)),(p'p (b5 (bS 3)) (V.int (c5 d)))],rfl,by show 3<=15;decide,V.int (lsN d ca),?_,?_)
     .have:=gq.k (H:=upd (upd rU p (.bL [])) p (.bL (m8 [] [(p'p (b5 (bS 1)) (V.int (c1 d))),(p'p (b5 (bS 2)) (V.int d.least)),(p'p (b5 (bS 3)) (V.int (c5 d)))]))) (k:=b5 (bS ca)) aP;rw[ab0]at this⊢;rw[show c6 [(p'p (b5 (bS 1)) (V.int (c1 d))),(p'p (b5 (bS 2)) (V.int d.least)),(p'p (b5 (bS 3)) (V.int (c5 d)))] (b5 (bS ca))\(V.int (lsN d ca))from ada (λc=>V.int (lsN d c)) kj ah.2]at this;exact this
     .exact bB _ _ (iw.gm aq,Xf.upd.upd,rfl)
    intro afD abd (Hq,nu,rfl);subst ba;dsimp only;refine cX false (λjI aV=>?_) (λah=>nomatch ah) (λ_=>?_)
    .nofun;rw[show decide (bS ca=aa "free")=decide (ca=2)from P1 (m:=2) kj ∅];have ai6:ca=1\/ca=2\/ca=3:=()
     rcases ai6 with e|e|e
     .have h:=cw e;rw[e,if_neg (by simp[lsN];omega),if_neg (by simp[lsN];omega)];exact aV
     .have h:=dH e;rw[e,if_neg (by simp[lsN];omega)];split <;> exact aV
     .have h:=am1 e;rw[e,if_neg (by simp[lsN];omega),if_neg (by simp[lsN];omega)];exact aV
    .nofun;exact(nD.trans Hq,nu,_,rfl)
   .nofun;exact(nD,Xf,_,rfl)
  .rintro σ I a3;ac_rfl
   let(a7,ef,fV,k6,ko,zS,rfl):=a3;subst ba;exact bB _ _ (Zf.trans a7,ef)
 intro k0 hN (ma,p');nofun;exact q _ ma p'
def vk(y:Str):Prop:=↑y<=59/\∀c∈y.cps.toList,c≠32/\c≠10
def qo{x:Str}(h:made x gB 8=true):vk x:=by
 have:=r2 h;exact((),λc ah=>by have:=this.2 c ah;omega)
def ol{v:Int}(h0:0<=v)(af:v<10 ^ 59):vk (num v):=
 (Kw h0 af,λc ah=>by have:=an5 h0 af c ah;omega)
theorem X0{c x:Nat}:∀{l:List (List Nat)},x≠c->(∀p∈l,x∉p)->x∉f3 c l
 |[],_,_=>by simp[f3]
 |[a],_,h=>by simpa[f3]using h a (by simp)
 |a::b::r,ah,h=>by
  have af:=h a (by simp);have aj:=X0 (l:=b::r) ah λp aq=>h p (fS _ aq)
  simp only[f3,il,cT,not_or];exact(af,ah,aj)
def Wq(aL:ys≠[])(h:∀y∈ys,vk y):iI (dk b3 ys)=[ys]/\(10:Nat)∉(dk b3 ys).cps.toList:=by
 have pP:(10:Nat)∉(dk b3 ys).cps.toList:=by
  rw[lg,iy];refine X0 ∅ λp aq=>?_
  let(y,bg,rfl):=dg.mp aq;exact λz=>((h y bg).2 10 z).2 rfl
 refine(?_,pP);have az:g8 (dk b3 ys) nl=[dk b3 ys]:=by
  have:=um (c:=10) (ys:=[dk b3 ys]) (by simp) (λy bg=>by rw[j5.mp bg];exact pP);rw[kK];exact this
 have aE:g8 (dk b3 ys) b3=ys:=by
  rw[lg];exact um (c:=32) aL (λy bg z=>((h y bg).2 32 z).1 rfl)
 unfold iI;rw[az,dZ,gI,aE]
def Pw(hf:(p'p first ps)∈i1)(h:∀y∈first::ws,vk y)(pL:oj ps ws zs):↑(dk b3 (first::ws))<=900:=by
 have af:=mf b3 59 (first::ws) λy bg=>(h y bg).1
 have aj:↑ws<=3:=by
  rw[pL.1];exact((∅:∀p∈i1,↑p.2<=3)) _ hf
 rw[jw,gw]at af;omega
def CJ(aJ:first∈sb)(hf:(p'p first ps)∈i1)(h:∀y∈first::ws,vk y)(pL:oj ps ws zs):pA (dk b3 (first::ws)) (dk b3 (first::ws)) (aa "") first ps ws zs:=by
 let(a,b):=Wq (by simp) h;have c:=Pw hf h pL;refine(?_,(),c,b,a,hf,pL);rw[decide_eq_false (Ee aJ).1];exact(rfl,rfl)
def Yi(aJ:first∈k4)(ax:↑text<=19000)(hf:(p'p first ps)∈i1)(h:∀y∈first::ws,vk y)(pL:oj ps ws zs):pA (dk b3 (first::ws)++nl++text) (dk b3 (first::ws)) text first ps ws zs:=by
 let(a,b):=Wq (by simp) h;have c:=Pw hf h pL;refine(?_,by rw[rp,rp,lC];omega,c,b,a,hf,pL);rw[decide_eq_true aJ];exact rfl
theorem uS{v:V}(h:t_ a y v):oj [a] [y] [v]:=(rfl,rfl,λi mE r5 jv af aj a_=>by
 match i,af,aj,a_ with
 |0,af,aj,a_=>cases af;cases aj;cases a_;exact h
 |i+1,af,_,_=>simp at af)
theorem oj.cons{v:V}(h:t_ a y v)(f:oj ps ws zs):oj (a::ps) (y::ws) (v::zs):=(by simp[f.1],by simp[f.2.1],λi mE r5 jv af aj a_=>by
 match i,af,aj,a_ with
 |0,af,aj,a_=>cases af;cases aj;cases a_;exact h
 |i+1,af,aj,a_=>exact f.2.2 i mE r5 jv af aj a_)
def p7{x:Str}(h:made x gB 8=true):t_ (aa "name") x (.str x):=.inl (rfl,h,rfl)
def NC{v:Int}(h0:0<=v)(af:v<10 ^ 59):t_ (aa "turn") (num v) (.int v):=by
 let(a,b):=Kg ∅ h0 af;exact .inr (.inl (rfl,a,by rw[b]))
def aoR{v:Int}(h0:1<=v)(af:v<=200):t_ (aa "many") (num v) (.int v):=.inr (.inr (rfl,v,n_ () () () (),rfl))
def uw:∀p∈i1,↑p.1<=59/\∀c∈p.1.cps.toList,c≠32/\c≠10:=∅
def anQ(x y:Str):aa "colours "++x++aa " "++y=dk b3 [aa "colours",x,y]:=by
 apply hg;have az:(aa "colours ").cps.toList=(aa "colours").cps.toList++[32]:=∅
 have aE:(aa " ").cps.toList=[32]:=∅
 rw[lg,iy];simp only[gH,gS,dZ,gI,f3,az,aE,jE,kO,nU]
def aae(x y z:Str):aa "wait "++x++aa " "++y++aa " "++z=dk b3 [aa "wait",x,y,z]:=by
 apply hg;have az:(aa "wait ").cps.toList=(aa "wait").cps.toList++[32]:=∅
 have aE:(aa " ").cps.toList=[32]:=∅
 rw[lg,iy];simp only[gH,gS,dZ,gI,f3,az,aE,jE,kO,nU]
def aqI(x y:Str):aa "longest "++x++aa " "++y=dk b3 [aa "longest",x,y]:=by
 apply hg;have az:(aa "longest ").cps.toList=(aa "longest").cps.toList++[32]:=∅
 have aE:(aa " ").cps.toList=[32]:=∅
 rw[lg,iy];simp only[gH,gS,dZ,gI,f3,az,aE,jE,kO,nU]
def ZP(x:Str):aa "crossing "++x=dk b3 [aa "crossing",x]:=by
 apply hg;have az:(aa "crossing ").cps.toList=(aa "crossing").cps.toList++[32]:=∅
 rw[lg,iy];simp only[gH,gS,dZ,gI,f3,az,jE,kO,nU]
def Z1(x y:Str):aa "plan "++x++aa " "++y=dk b3 [aa "plan",x,y]:=by
 apply hg;have az:(aa "plan ").cps.toList=(aa "plan").cps.toList++[32]:=∅
 have aE:(aa " ").cps.toList=[32]:=∅
 rw[lg,iy];simp only[gH,gS,dZ,gI,f3,az,aE,jE,kO,nU]
def Ul{x:Str}{v:Int}(ai:made x gB 8=true)(h0:0<=v)(af:v<10 ^ 59):pA (aa "colours "++x++aa " "++num v) (dk b3 [aa "colours",x,num v]) (aa "") (aa "colours") [aa "name",aa "turn"] [x,num v] [.str x,.int v]:=by
 rw[anQ];refine CJ ∅ ∅ (λy bg=>?_) (.cons (p7 ai) (uS (NC h0 af)));simp only[cT,fq,or_false]at bg;rcases bg with rfl|rfl|rfl
 .exact uw _ (cC (show i1[2]?\_ from rfl))
 .exact qo ai
 .exact ol h0 af
def adl{x y:Str}{v:Int}(ai:made x gB 8=true)(bg:made y gB 8=true)(h0:0<=v)(af:v<10 ^ 59):pA (aa "wait "++x++aa " "++y++aa " "++num v) (dk b3 [aa "wait",x,y,num v]) (aa "") (aa "wait") [aa "name",aa "name",aa "turn"] [x,y,num v] [.str x,.str y,.int v]:=by
 rw[aae];refine CJ ∅ ∅ (λu bx=>?_) (.cons (p7 ai) (.cons (p7 bg) (uS (NC h0 af))));simp only[cT,fq,or_false]at bx;rcases bx with rfl|rfl|rfl|rfl
 .exact uw _ (cC (show i1[3]?\_ from rfl))
 .exact qo ai
 .exact qo bg
 .exact ol h0 af
def agQ{x y:Str}(ai:made x gB 8=true)(bg:made y gB 8=true):pA (aa "longest "++x++aa " "++y) (dk b3 [aa "longest",x,y]) (aa "") (aa "longest") [aa "name",aa "name"] [x,y] [.str x,.str y]:=by
 rw[aqI];refine CJ ∅ ∅ (λu bx=>?_) (.cons (p7 ai) (uS (p7 bg)));simp only[cT,fq,or_false]at bx;rcases bx with rfl|rfl|rfl
 .exact uw _ (cC (show i1[4]?\_ from rfl))
 .exact qo ai
 .exact qo bg
def aox{x:Str}{v m:Int}(ai:made x gB 8=true)(h0:0<=v)(af:v<10 ^ 59)(hm:1<=m/\m<=200):pA (iT b3 [aa "draw",x,num v,num m]) (dk b3 [aa "draw",x,num v,num m]) (aa "") (aa "draw") [aa "name",aa "turn",aa "many"] [x,num v,num m] [.str x,.int v,.int m]:=by
 rw[show iT b3 [aa "draw",x,num v,num m]=dk b3 [aa "draw",x,num v,num m]from ve _ _];refine CJ ∅ ∅ (λu bx=>?_) (.cons (p7 ai) (.cons (NC h0 af) (uS (aoR hm.1 hm.2))));simp only[cT,fq,or_false]at bx;rcases bx with rfl|rfl|rfl|rfl
 .exact uw _ (cC (show i1[5]?\_ from rfl))
 .exact qo ai
 .exact ol h0 af
 .exact ol () (Int.lt_of_le_of_lt hm.2 ∅)
def aqJ{x text:Str}(ai:made x gB 8=true)(ax:↑text<=19000):pA (aa "crossing "++x++nl++text) (dk b3 [aa "crossing",x]) text (aa "crossing") [aa "name"] [x] [.str x]:=by
 rw[ZP];refine Yi ∅ ax ∅ (λu bx=>?_) (uS (p7 ai));simp only[cT,fq,or_false]at bx;rcases bx with rfl|rfl
 .exact uw _ (cC (show i1[0]?\_ from rfl))
 .exact qo ai
def aem{x y text:Str}(ai:made x gB 8=true)(bg:made y gB 8=true)(ax:↑text<=19000):pA (aa "plan "++x++aa " "++y++nl++text) (dk b3 [aa "plan",x,y]) text (aa "plan") [aa "name",aa "name"] [x,y] [.str x,.str y]:=by
 rw[Z1];refine Yi ∅ ax ∅ (λu bx=>?_) (.cons (p7 ai) (uS (p7 bg)));simp only[cT,fq,or_false]at bx;rcases bx with rfl|rfl|rfl
 .exact uw _ (cC (show i1[1]?\_ from rfl))
 .exact qo ai
 .exact qo bg
def vN:made (aa "plan") gB 8=true:=Ml ∅ ∅ ∅
def Sg:made (aa "cross") gB 8=true:=Ml ∅ ∅ ∅
def agS:aa "longest plan "=aa "longest "++aa "plan"++aa " ":=hg ∅
def ajo:aa "wait plan "=aa "wait "++aa "plan"++aa " ":=hg ∅
def amn:aa "colours plan "=aa "colours "++aa "plan"++aa " ":=hg ∅
def akA:aa "colours plan 5"=aa "colours "++aa "plan"++aa " "++num 5:=hg ∅
def ajt:aa "crossing cross\n"=aa "crossing "++aa "cross"++nl:=hg ∅
def Z3:aa "plan plan cross\n"=aa "plan "++aa "plan"++aa " "++aa "cross"++nl:=hg ∅
def akw(u v:Str):aa "draw plan "++u++aa " "++v=iT b3 [aa "draw",aa "plan",u,v]:=by
 rw[show iT b3 [aa "draw",aa "plan",u,v]=dk b3 [aa "draw",aa "plan",u,v]from ve _ _];apply hg;have az:(aa "draw plan ").cps.toList=[100,114,97,119,32,112,108,97,110,32]:=∅
 have aE:(aa "draw").cps.toList=[100,114,97,119]:=∅
 have b7:(aa "plan").cps.toList=[112,108,97,110]:=∅
 have gY:(aa " ").cps.toList=[32]:=∅
 rw[lg,iy];simp only[gH,gS,dZ,gI,f3,az,aE,b7,gY,jE,kO,nU]
def JW{v:Int}(h0:0<=v)(af:v<10 ^ 59):v.natAbs.log2<1920:=by
 by_cases c:v.natAbs=0
 .rw [c];decide
 .rw [M1 c];refine SW (m:=10 ^ 59) () ∅
def agn{v:Int}(h0:0<=v)(af:v<1000):intText? (num v)\v:=by
 let(a,b):=Aa h0 af;have h:=Ve a;have a_:=GG h0 ();rw[intText_digits (Jk h.2) (λz=>by have z':cs (num v)=[]:=z;have:=h.1;rw[z']at this;simp at this) (by have:=sA (num v);have:=h.1.2;omega)];exact congrArg some b
noncomputable def tw(z:Nat)(sp:List bj)(d:aQ)(u:Int):Int:=oa z u (cA d.name sp)
structure sN(z:Nat)(sp:List bj)(d:aQ):Prop where
 al:∀p∈cA d.name sp,1<=p.2/\p.2<=(z:Int)
 ne:cA d.name sp≠[]
theorem sN.at(ax:0<z){sp:List bj}{d:aQ}(h:sN z sp d)(u:Int):(ft z sp d.name)[(u%(z:Int)).toNat]?\(tw z sp d u):=by
 have cR:=e8 u (show(z:Int)≠0 by omega);have az:=e_ u (show(0:Int)<z by omega);have:=ako ax h.al h.ne (t:=(u%(z:Int)).toNat) ();rw[iF cR,adD]at this;exact this
def sN.le(ax:0<z){sp:List bj}{d:aQ}(h:sN z sp d)(u:Int){g:Int}(a0:0<=g):tw z sp d u<=g↔∃j:Nat,(j:Int)<=g/\fz z sp d (u+(j:Nat))=2:=by
 have e2:(0:Int)<z:=()
 unfold tw oa;rw[Os];constructor
 .intro k;have:∃p∈cA d.name sp,kd z u p<=g:=by
   rcases k with c|c
   .let(p,aq):=List.exists_mem_of_ne_nil _ h.ne;exact(p,aq,BR (LW e2 p).2 c)
   .exact c
  let(p,aq,hw):=this;let(j,aZ,cD):=(CY e2 (h.al p aq) a0).mp hw;exact(j,aZ,(Cd _).mpr (p,aq,cD))
 .intro (j,aZ,hf);let(p,aq,cD):=(Cd _).mp hf;exact .inr (p,aq,(CY e2 (h.al p aq) a0).mpr (j,aZ,cD))
def sN.in(ax:0<z){sp:List bj}{d:aQ}(_:sN z sp d)(u:Int):0<=tw z sp d u/\tw z sp d u<=z:=(RM () _,(Os z u z (cA d.name sp) z).mpr (.inl (yu _)))
theorem VZ:∀{l:List Int},l≠[]->∃m,m∈l/\∀k∈l,k<=m
 |[],h=>absurd rfl h
 |[x],_=>(x,by simp,λk aI=>by rw[j5.mp aI];exact yu _)
 | x::y::r,_=>by
  let(m,hm,al):=VZ (l:=y::r) (by simp);by_cases c:x<=m
  .refine⟨m,fS _ hm,fun k aI=>?_⟩;rcases cT.mp aI with rfl|aI
   .exact c
   .exact al k aI
  .refine⟨x,by simp,fun k aI=>?_⟩;rcases cT.mp aI with rfl|aI
   .exact yu _
   .exact BR (al k aI) ()
structure qB(t:bA)(H off:ar)(bb bl db:Addr)(bU bo:List (Key×V))(pl c:Addr)(n:Int)(ds:List aQ)(z:Nat)(sp:List bj):Prop where
 d:ic t H bb bl db bU bo
 o:Off [bl,db] H off
 v:c6 bo (.inr (aa "plan"))\⇑pl
 p:h_ t off pl c n ds z sp
 i:kk n ds z sp
 g:J1 n ds z sp
theorem qB.same{t:bA}{H I off:ar}{bb bl db:Addr}{bU bo:List (Key×V)}{n:Int}{sp:List bj}(h:qB t H off bb bl db bU bo pl c n ds z sp)(s:aC H I):qB t I off bb bl db bU bo pl c n ds z sp:=(h.d.same s,h.o.same s,h.v,h.p,h.i,h.g)
def qB.wv{t:bA}{H off:ar}{bb bl db:Addr}{bU bo:List (Key×V)}{n:Int}{sp:List bj}(h:qB t H off bb bl db bU bo pl c n ds z sp){d:aQ}(hd:d∈ds):sN z sp d:=by
 refine(λp aq=>?_,λe=>?_)
 .let(s,aB,rfl):=dg.mp aq;have:=h.i.S.al s (lu.mp aB).1;exact this.2.2.2
 .have bc:=h.g.N2;unfold k3 at bc;have:=zC.mp bc d.name (dg.mpr (d,hd,rfl));rw[e]at this;exact this rfl
def qB.aiU{t:bA}{H off:ar}{bb bl db:Addr}{bU bo:List (Key×V)}{n:Int}{sp:List bj}(h:qB t H off bb bl db bU bo pl c n ds z sp){d:aQ}(hd:d∈ds):eM z (c1 d) (c5 d) d.least (cA d.name sp):=
 af5 h.i.D.aD (by have:=h.i.dS;omega) h.g.amK hd (h.i.D.al d hd).1.of.1 λs aB=>(h.i.S.al s aB).2.2.2.1
def TF(t:bA)(K:a')(a:Addr)(ns:List Int):bH:=λvs H Q _=>∃(bb bl db:Addr) (bU bo:List (Key×V)) (off:ar) (pl c:Addr) (n:Int) (ds:List aQ) (z:Nat) (sp:List bj) (dt:Addr) (rs:List Addr) (far:Int) (i:Nat) (d:aQ),vs=[⇑a,⇑bb,⇑dt,.str d.name,.int far]/\Sc K a ns H/\qB t H off bb bl db bU bo pl c n ds z sp/\sO z sp ds far H dt rs (z+14)/\ds[i]?\d/\(0<=far/\far<10 ^ 58)/\∀I,aC H I->aG I->Q (.bE true) I
def akz (a:Addr) (ns:List Int) (n4:↑ns<=63):cj P base T 12 t.CD t.BC Ci (TF t K a ns):=by
 refine cn (Bk T a ns n4) λf6=>cn (R3 T) λr6=>?_;exists T.Lj.ok Uf,9
 let(bb,bl,db,bU,bo,off,pl,c,n,ds,z,sp,dt,rs,far,i,d,rfl,S,cG,R,hd,hf,q):=h;have bx:=iU au;have ax:=cG.i.dS;have kV:=cC hd;have sh:=cG.wv kV;have z0:=(cG.i.D.al d kV).1.nm;have tG:=(r2 z0).1.2;let(m,v',j2):=VZ (l:=ft z sp d.name) (λe=>by have:=congrArg nA e;rw[zM]at this;simp at this;omega);have asy:(0<=m/\m<=999):=by
  let(u,qy):=pJ v';have wk:=(cv.mp qy).1;rw[zM]at wk;have e:=sh.at () (u:Int);rw[jP () (),pN,qy]at e;have:=sh.in () (u:Int);rw[<- d6 e]at this;omega
 refine(_,(aN (bO (i:=5) Uf.aD (gL lT vo H7 Fj (bT r6 au T.sx T.qX.bt T.s_ (ag (U 1) (ag (bk fv Db (U 3)) aA))) (ag Db aA)))
   (aN (c0 (cS js (f7 iM rfl T.hY hT (ag (U 5) aA)) aS (ct _)) (aY (bR hA)) c7)
   (aN (eF fJ rfl (lb rfl T.i9 (ag aS aA)) (b6 (i:=6) Uf.aD) (aN (bO (i:=7) Uf.aD (bT f6 au T.gE T.gi.bt T.gK (ag (U 0) (ag (bk dd aS (U 6)) (ag aS aA)))))
   (aN (bO (i:=8) Uf.aD aS)
   (aN (Y7 fJ (cS js (j7 bx (bP dA (U 2) (bk dd (U 7) (U 8))) (U 3) (λ_ _=>rfl)) Db (ct _)) (aY (bO (i:=8) Uf.aD (bk dd (U 8) aS))))
   (aY (c0 (f5.pt (ph (cS js (bT r6 au T.sx T.qX.bt T.s_ (ag (U 1) (ag (bk fv (bk fv (bk fv Db (U 3)) Db) (jo lR rfl T.lY lp (ag (bk dd (U 4) (U 7)) aA))) aA))) (jo lR rfl T.lY lp (ag (U 8) aA)) (ct _)) (pF (cS qb (U 8) (jo FR rfl T.HX Le (ag (bP dA (U 5) aS) aA)) (ct _))))) (aY (bR hA)) c7))))))
   (aY (bR hA))))),?_)
 have ee:∀k:Nat,k<=10000->k<=sizeLine:=λk h=>cH h ∅
 exists (λaT I=>aC H I/\aG I/\∃wp,I wp\(.lst (bz [num m,num ((ft z sp d.name).idxOf m:Nat)]))/\aT=[~~~a,~~~bb,~~~dt,some (.str d.name),some (.int far),~~~wp,none,none,none]),3
 .have asQ:(ft z sp d.name).idxOf m<=999:=by
   have:=List.idxOf_lt_length_of_mem v';rw[zM]at this;omega
  have c_:n7 (num m):=gP () ();have d0:n7 (num ((ft z sp d.name).idxOf m:Nat)):=gP () ();have ki:g8 (num m++b3++num ((ft z sp d.name).idxOf m:Nat)) (aa " ")=[num m,num ((ft z sp d.name).idxOf m:Nat)]:=by
   have:=um (c:=32) (ys:=[num m,num ((ft z sp d.name).idxOf m:Nat)]) (by simp) (λy bg=>by
    simp only[cT,fq,or_false]at bg;rcases bg with rfl|rfl
    .exact c_.2.1
    .exact d0.2.1)
   rw[<- lg]at this;exact this
  have JM:↑(num m++b3++num ((ft z sp d.name).idxOf m:Nat))<=20:=by
   rw[gQ,gQ,jw];have:=c_.1;have:=d0.1;omega
  nofun;refine(ee _ (by rw[(∅:↑(aa "longest plan ")=13)];omega),?_);rw[agS];refine(bb,bl,db,bU,bo,off,_,_,_,_,_,_,_,rfl,cG.d,cG.o,S.a8,agQ vN z0,.inr (.inl (∅,λl gf s e=>.inr (.inr (.inl (_,pl,c,n,ds,z,sp,i,d,m,rfl,e,cG.v,cG.p.same s,(),hd,(v',j2),λI s' fK=>(trivial,_,rfl,∅,ee _ (),?_,λp aq=>?_)))))))
  .rw [ki];exact ee _ ((∅:2<=10000))
  .rw [ki];exact bB _ _ (s'.trans (bp aq),fK.upd,p,aP,rfl)
 intro h8 H1 (s1,bY,wp,az,rfl);subst ba;simp only[d4];refine cX false (λQ aV=>?_) (λah=>nomatch ah) (λ_=>?_)
 .nofun;exact(_,.inl (aH.of az),aV)
 rw[g7];have lO:=S.same s1 bY;nofun;refine(∅,∅,?_);refine dW.range (n:=3) (λk σ I=>aC H1 I/\aG I/\∃dU dw fV,σ=[~~~a,~~~bb,~~~dt,some (.str d.name),some (.int far),~~~wp,dU,dw,fV]) ?_ ?_ ?_
 .exact (aC.refl _,bY,_,_,_,rfl)
 .rintro k σ I aI a3;ac_rfl
  let(a7,a8,dU,dw,fV,rfl):=a3;have oB:=lO.same a7 a8;have Qg:=s1.trans a7;have aj:=cG.same Qg;have e9:=R.same Qg;have cU:=hD ns (260+(k:Int)) (m:=14) ∅;have dr:=hE ns (260+(k:Int)) (m:=14) ∅;let(at_,nK):∃y:Nat,cL ns (260+(k:Int)) 14=(y:Nat):=((cL ns (260+(k:Int)) 14).toNat,());have d3:=sh.in () (far+(at_:Nat));let(v,aM):∃v:Nat,tw z sp d (far+(at_:Nat))=(v:Nat):=((tw z sp d (far+(at_:Nat))).toNat,());have as8:v<=z:=()
  have DE:fz z sp d (far+(at_:Nat)+(v:Nat))=2:=by
   let(j,aZ,hf):=(sh.le () (far+(at_:Nat)) (g:=(v:Int)) ()).mp ();by_cases c:j=v
   .rw [<- c];exact hf
   .have:=(sh.le () (far+(at_:Nat)) (g:=(j:Int)) ()).mpr (j,(),hf);omega
  have sr:∀j:Nat,j<v->fz z sp d (far+(at_:Nat)+(j:Nat))≠2:=λj aZ hf=>by
   have:=(sh.le () (far+(at_:Nat)) (g:=(j:Int)) ()).mpr (j,(),hf);omega
  have aq6:(v:Int)<=m:=by
   have:=j2 _ (cC (sh.at () (far+(at_:Nat))));omega
  subst ba;simp only[gu,d4,j',j8,xg];exists (λaT ay=>ay=I/\aT=[~~~a,~~~bb,~~~dt,some (.str d.name),some (.int far),~~~wp,some (.int (k:Nat)),some (.int (at_:Nat)),fV]),1
  ·(nofun; repeat (dsimp only[gD];nofun));rw[nK];exact(oB,(),(),∅,bB _ _ (rfl,rfl))
  intro c8 ay (rfl,rfl);subst ba;simp only[d4];exists (λaT bq=>bq=ay/\aT=[~~~a,~~~bb,~~~dt,some (.str d.name),some (.int far),~~~wp,some (.int (k:Nat)),some (.int (at_:Nat)),some (.int 0)]),1
  .nofun;exact bB _ _ (rfl,rfl)
  intro iO bq (rfl,rfl);subst ba;simp only[d4];exists (λaT cc=>cc=bq/\aT=[~~~a,~~~bb,~~~dt,some (.str d.name),some (.int far),~~~wp,some (.int (k:Nat)),some (.int (at_:Nat)),some (.int (v:Nat))]),1
  .refine N4 (λσ cc=>cc=bq/\∃w:Nat,w<=v/\σ=[~~~a,~~~bb,~~~dt,some (.str d.name),some (.int far),~~~wp,some (.int (k:Nat)),some (.int (at_:Nat)),some (.int (w:Nat))]) (λσ _=>match σ with|[_,_,_,_,_,_,_,_,some (.int w)]=>(v:Nat)-w.toNat|_=>0) ?_ ?_
   .exact (rfl,0,gx _,rfl)
   rintro σ cc a3;ac_rfl
   let(rfl,w,hw,rfl):=a3;let(r,ll):∃r,rs[at_+w]?\r:=(_,bJ (by rw[e9.aj];omega));have kD:=e9.al _ _ ll;have F6:eD (rs.map V.ref) ((at_:Int)+(w:Nat))\⇑r:=by
    rw[show(at_:Int)+(w:Nat)=((at_+w:Nat):Int)by omega];exact cO (by rw[d7,ll];rfl)
   have aek:far+((at_+w:Nat):Int)=far+(at_:Nat)+(w:Nat):=()
   subst ba;refine(!decide (w=v),λQ aV=>?_,λqA=>?_,λqA=>?_)
   .nofun;refine(_,aH.of e9.af,_,F6,_,rfl,_,zg cG.i.D.aD kD hd,rfl,?_);rw[HE (Mf ..),aek,show decide (fz z sp d (far+(at_:Nat)+(w:Nat))=2)=decide (w=v)from decide_eq_decide.mpr (λe=>?_,λe=>by rw[e];exact DE)]
    .exact aV
    .by_cases c:w=v
     .exact c
     .exact absurd e (sr w ())
   .have c:w≠v:=by simpa using qA
    nofun;refine((w+1,(),()),?_);show v-((w:Int)+1).toNat<v-((w:Int)).toNat;omega
   .have c:w=v:=by simpa using qA
    subst c;exact bB _ _ (rfl,rfl)
  intro qZ cc (rfl,rfl);subst ba;dsimp only;refine jW (λb cQ=>b=false/\aC cc cQ/\aG cQ) (λQ aV=>?_) (λcQ r=>by cases r.1) (λcQ r=>?_)
  .nofun;have nc:far+(at_:Nat)<10 ^ 59:=by have:=hf.2;omega
   have UC:↑(aa (toString (far+(at_:Nat))))<=59:=(ol (v:=far+(at_:Nat)) () nc).1;have apa:↑(aa "wait plan ")=10:=∅
   have lr:↑(aa " ")=1:=∅
   refine(ee _ (),ee _ (by rw[gQ];omega),JW () nc,ee _ (by simp only[gQ];omega),?_);rw[ajo];refine(bb,bl,db,bU,bo,off,_,_,_,_,_,_,_,rfl,aj.d,aj.o,a8,adl vN z0 () nc,.inr (.inl (∅,λl gf s e=>.inr (.inl (_,far+(at_:Nat),pl,c,n,ds,z,sp,d,(v:Int),rfl,e,cG.v,cG.p.same s,(),kV,by rw[<- aM];exact sh.at () _,λI s' fK=>(qc (),rfl,?_))))));rw[if_neg (show ¬(!decide (V.str (num (v:Int))=V.str (num (v:Int))))=true by rw[decide_eq_true rfl];decide)];refine(_,aH.of (s' _ _ (a7 _ _ az)),_,cO (j:=0) rfl,_,rfl,_,agn () (),cH (GG (n:=m) () ()) ∅,aV _ _ (?_,s',fK));rw[decide_eq_false ()]
  .let(_,s5,jk):=r;nofun;exact(a7.trans s5,jk,_,rfl)
 .rintro σ I a3;ac_rfl
  let(a7,a8,dU,dw,fV,rfl):=a3;subst ba;nofun;exact q _ (s1.trans a7) a8
def P8(kvs:List (Key×V))(k:Key)(v:V):c6 (eN kvs k v) k\v:=by rw[aan,if_pos rfl]
theorem kk.nm{n:Int}{sp:List bj}(h:kk n ds z sp):kQ (ds.map (·.name)):=by
 have aw:=h.aw;refine(by rw[a9];omega,h.D.aD,λx ai=>?_);let(d,hd,rfl):=dg.mp ai;exact r2 (h.D.al d hd).1.nm
def kk.good{n:Int}{sp:List bj}(h:kk n ds z sp):qa z ds sp:=by
 refine(by have:=h.S.ln;omega,λs aB=>?_,λi d hd=>?_,λs aB=>(h.S.al s aB).2)
 .let(d,hd,e):=dg.mp (h.S.al s aB).1;rw[<- e];exact(h.D.al d hd).1.nm
 .have a:=h.S.al d (cC hd);unfold o3;refine lu.mpr (a.1,decide_eq_true ?_);have e:sp=sp.take (i+1)++sp.drop (i+1):=(aiC _ _).symm;have m:=h.S.k2 d.name;rw[e,Mj,jn hd,Ov,if_pos rfl,c',c',CQ]at m;omega
def kk.anR{n:Int}{sp:List bj}(h:kk n ds z sp):OM n ds z sp:=by
 have aL:=h.aL;have ax:=h.dS;refine((),λd hd=>((ahO (h.D.al d hd).1.nm).1,(h.D.al d hd).1.of.1,by have:=(h.D.al d hd).1.of;omega),(),h.good)
theorem kk.Mt{n:Int}{sp:List bj}(h:kk n ds z sp):pS n ds:=h.D.Mt (by have:=h.aL;omega) (by have:=h.aw;omega)
def kk.eX{n:Int}{sp:List bj}(h:kk n ds z sp):↑(gk n ds)<=1000:=Qw (by have:=h.aL;omega) (λd hd=>(h.D.al d hd).1) (by have:=h.aw;omega)
def kk.pt{n:Int}{sp:List bj}(h:kk n ds z sp):↑(hy z sp)<=5000:=by
 refine Vu (by have:=h.dS;omega) (λs aB=>?_) (by have:=h.S.ln;omega);have:=h.S.al s aB;have ax:=h.dS;let(d,hd,e):=dg.mp this.1;exact(by rw[<- e];exact vu (h.D.al d hd).1.nm,(),(),())
theorem UD{b:Int}(N:kQ xs)(C:qT xs bC):∀y∈fX b xs bC,↑y<=400/\(10:Nat)∉y.cps.toList:=λy bg=>by
 have wd:=C.ln;have EP:∀c,sK c≠10:=λc=>by
  unfold sK
  match c with
  |0=>decide
  |1=>decide
  |2=>decide
  |3=>decide
  |c+4=>show(46:Nat)≠10;decide
 unfold fX at bg;rcases cT.mp bg with e|e
 .subst e;rw[ur,Ab];unfold mS uF;refine(by rw[c',kE,a9,kf];omega,λhm=>?_);rcases il.mp hm with z|z
  .exact absurd (LX z) ∅
  .let(k,_,e):=dg.mp z;omega
 .split at e
  .cases e
  .obtain⟨j,aZ,rfl⟩:=Z7.mp e;have cp:=N.al _ (nH aZ);rw[ur,Ab];unfold fW tr;have ta:↑(xs[j]).cps.toList=↑(xs[j]):=by simp[n5]
   refine(by rw[c',c',kE,a9,ta];omega,λhm=>?_);rcases il.mp hm with z|z
   .rcases il.mp z with z|z
    .have:=cp.2 _ z;omega
    .exact absurd (LX z) ∅
   .let(k,_,e):=dg.mp z;exact EP _ e
def akC{b:Int}(N:kQ xs)(C:qT xs bC):g8 (iT nl (fX b xs bC)) nl=fX b xs bC:=by
 rw[show iT nl (fX b xs bC)=dk nl (fX b xs bC)from ve _ _,kK];exact um (by unfold fX;simp) λy bg=>(UD N C y bg).2
def ah8{b:Int}(N:kQ xs)(C:qT xs bC):↑(fX b xs bC)<=7/\↑(iT nl (fX b xs bC))<=3000:=by
 have aw:↑(fX b xs bC)<=7:=by
  have:=N.ln;unfold fX;rw[gw];split
  .simp
  .rw [Eb];omega
 refine(aw,?_);rw[show iT nl (fX b xs bC)=dk nl (fX b xs bC)from ve _ _];have:=mf nl 400 (fX b xs bC) λy bg=>(UD N C y bg).1
 rw[lC]at this;omega
def apb{sp:List bj}{far:Int}(hm:m<=300):qT (ds.map (·.name)) (hS z sp ds far m):=by
 refine(by unfold hS;rw[a9,kf];exact hm,λcs kG=>?_);unfold hS at kG;let(k,_,rfl):=dg.mp kG;unfold rv;refine(by rw[a9,a9],λc ah=>?_);let(d,_,rfl):=dg.mp ah;exact GL _
def Qs{z:Nat}{sp:List bj}{d:aQ}(C:eM z (c1 d) (c5 d) d.least (cA d.name sp))(u:Int):h5 z sp d u=bS (fz z sp d u):=by
 unfold h5;rw[ZU C];rfl
def alv{f g:aQ->Str}(h:∀d∈ds,f d=g d):fi ds f=fi ds g:=by
 unfold fi;exact Sf λd hd=>by rw[h d hd]
def adI{z:Nat}(ax:0<z){sp:List bj}{ds:List aQ}{far:Int}{H:ar}{q:Addr}{qs:List Addr}{m:Nat}(cq:∀d∈ds,eM z (c1 d) (c5 d) d.least (cA d.name sp))(h:rQ H q qs ((hS z sp ds far m).map (Tm (ds.map (·.name))))):sO z sp ds far H q qs m:=by
 have aw:↑qs=m:=by rw[h.len,a9];unfold hS;rw[a9,kf]
 refine(h.at_,aw,λi r au=>?_);have ao:i<m:=by rw[<- aw];exact(cv.mp au).1
 have e:=h.al i r (Tm (ds.map (·.name)) (rv z sp ds (far+(i:Nat)))) au (by unfold hS;rw[d7,d7,A1 ao];rfl);rw[<- UN ax]at e;rw[e,alv λd hd=>Qs (cq d hd) _]
structure qq(K:a')(a:Addr)(ns:List Int)(H off:ar)(bl db cI wl eK aX fy:Addr)(n:Int)(ds:List aQ)(z:Nat)(sp:List bj):Prop where
 o:Off [bl,db] H off
 a8:aG H
 sc:Sc K a ns off
 w:i3 off wl ds
 r7:off cI\(.tup [.int n,⇑wl])
 kD:off eK\(.tup [.int z,⇑aX])
 ex:off fy\(.tup [.str (gk n ds),.str (hy z sp)])
def qq.step{K:a'}{ns:List Int}{H I off gb:ar}{n:Int}{sp:List bj}(B:qq K a ns H off bl db cI wl eK aX fy n ds z sp)(o:Off [bl,db] I gb)(s:aC off gb)(a8:aG I):qq K a ns I gb bl db cI wl eK aX fy n ds z sp:=
 (o,a8,B.sc.same s (λb u e=>a8 b u (o.a7 b u e)),B.w.same s,s _ _ B.r7,s _ _ B.kD,s _ _ B.ex)
theorem qq.same{K:a'}{ns:List Int}{H I off:ar}{n:Int}{sp:List bj}(B:qq K a ns H off bl db cI wl eK aX fy n ds z sp)(s:aC H I)(a8:aG I):qq K a ns I off bl db cI wl eK aX fy n ds z sp:=B.step (B.o.same s) (aC.refl _) a8
def adp:cj P base T 13 t.G' t.CW uq (Tb K):=by
 exists T.ap6.ok mc,9
 let(a,ns,rfl,agE,n4,q):=h;have bx:=iU au;have xo:=Dj au;have f6:bD P w K av base cN 12 t.Fl t.Aw CN (gD K a ns):=(Bk T a ns n4).mono ∅;have ahV:bD P w K av base cN 12 t.Et t.D9 uq (PI K a ns):=(aa4 T a ns n4).mono ∅;have acR:bD P w K av base cN 12 t.Es t.A0 BP (YW K a ns):=(an6 T a ns n4).mono ∅;have aln:bD P w K av base cN 12 t.Fm t.Bb Ex (Qa K):=(acK T).mono ∅;have ack:bD P w K av base cN 11 t.y3 t.AH ["self"] (OV t):=(akB T).mono ∅;have r6:bD P w K av base cN 12 t.AE t.Au A4 (TY t):=(R3 T).mono ∅;have alc:bD P w K av base cN 12 t.ED t.EH ["texts"] Vq:=(adt T).mono ∅;have ao8:bD P w K av base cN 12 t.C_ t.D6 E4 (Q2 K):=(al1 T).mono ∅;have ail:bD P w K av base cN 12 t.Ch t.Be D5 (X' K):=(ae2 T).mono ∅;have alZ:bD P w K av base cN 12 t.CD t.BC Ci (TF t K a ns):=akz T a ns n4;refine(_,(aN (bO (i:=1) mc.aD (bT ahV au T.agZ T.IF.bt T.aoW (ag (U 0) aA)))
   (aN (bO (i:=2) mc.aD (bT acR au T.ahs T.M4.bt T.amk (ag (U 0) (ag (bP dT (U 1) aS) (ag (bP dT (U 1) aS) aA)))))
   (aN (bO (i:=3) mc.aD (bT aln au T.aj9 T.KC.bt T.ac_ (ag (U 1) (ag (U 2) aA))))
   (aN (bO (i:=4) mc.aD (aiW T.ZV ack au rfl T.ahC T.acE .nil cJ))
   (aN (c0 (cS js (bT r6 au T.sx T.qX.bt T.s_ (ag (U 4) (ag (bk fv Db (bP dT (U 3) aS)) aA))) Db (ct _)) (aY (bR hA)) c7)
   (aN (bO (i:=5) mc.aD (bT r6 au T.sx T.qX.bt T.s_ (ag (U 4) (ag (bk fv Db (bP dT (U 3) aS)) aA))))
   (aN (c0 (cS js (U 5) Db (ct _)) (aY (bR (Lo (h9 eZ (U 5) Db (ct _)) (wA (h9 eZ (bT r6 au T.sx T.qX.bt T.s_ (ag (U 4) (ag Db aA))) Db (ct _)))))) c7)
   (aN (bO (i:=6) mc.aD (bk dd aS (bT f6 au T.gE T.gi.bt T.gK (ag (U 0) (ag aS (ag aS aA))))))
   (aN (c0 (cS eZ (bT f6 au T.gE T.gi.bt T.gK (ag (U 0) (ag aS (ag aS aA)))) aS (ct _)) (aY (bO (i:=6) mc.aD (bT f6 au T.gE T.gi.bt T.gK (ag (U 0) (ag aS (ag aS aA)))))) (aY (c0 (cS qb (f7 iM rfl T.hY hT (ag (U 0) aA)) aS (ct _)) (aY (bO (i:=6) mc.aD (bk dd aS (bk iu (bP dA (U 0) (bk agl (f7 iM rfl T.hY hT (ag (U 0) aA)) aS)) (bk ZC aS aS))))) c7)))
   (aN (K_ (i:=7) mc.aD rfl (p5 rfl) (bT alc au T.KK T.NN.bt T.aiB (ag (gL lT vo H7 Fj (bT r6 au T.sx T.qX.bt T.s_ (ag (U 4) (ag (bk fv (bk fv (bk fv Db (jo lR rfl T.lY lp (ag (U 6) aA))) Db) (jo lR rfl T.lY lp (ag (bk dd (bP dT (U 2) aS) aS) aA))) aA))) (ag Db aA)) aA)))
   (aN (c0 (f5.pt (ph (cS js (f7 iM rfl T.hY hT (ag (U 7) aA)) (bk dd (bP dT (U 2) aS) aS) (ct _)) (pF (cS (abH xo) (jo (ag2 rfl) rfl T.xI K7 (ag (Nc agI abU PySem.F.type_dict_keys aeU (bP dA (U 7) aS)) aA)) (iz rfl (e5 (bP dT (U 1) aS)) (hi (sc:=br (top 168)) rfl ∅) (N:=["_law_way"]) (sel:=[none]) (ha (M:=Bs) ∅) (fR.of (λ_ _ _ _=>(b6 (i:=0) (fk (N:=["_law_way"]) ∅ rfl))) (λ_ _ _ _=>(_,iB,by walk_at "B")) (λ_ _ _ _=>(_,(bP dT (U 0) aS),by walk_at "B")))) (ct _))))) (aY (bR hA)) c7)
   (aN (c0 (Fk (jS (bT ao8 au T.akm T.Kj.bt T.ajD (ag (bP dT (U 1) aS) (ag (bP dT (U 1) aS) (ag (U 7) aA)))))) (aY (bR hA)) c7)
   (aN (eF fJ rfl (e5 (bP dT (U 1) aS)) (SB (i:=8) mc.aD rfl (p5 rfl)) (aY (c0 (f5.pt (ph (Fk (jS (bT ail au T.ah_ T.Gz.bt T.aq2 (ag (U 8) (ag (iz rfl (e5 (U 7)) (hi (sc:=br (top 168)) rfl ∅) (N:=["_law_row","_law_way"]) (sel:=[none,some 8]) (ha (M:=Bs) ∅) (fR.of (λ_ _ _ _=>(b6 (i:=0) (fk (N:=["_law_row","_law_way"]) ∅ rfl))) (λ_ _ _ _=>(_,iB,by walk_at "B")) (λ_ _ _ _=>(_,(j7 bx (U 0) (bP dT (U 1) aS) (λ_ _=>rfl)),by walk_at "B")))) aA))))) (pF (Fk (jS (bT alZ au T.anw T.Lj.bt T.aqU (ag (U 0) (ag (U 4) (ag (U 7) (ag (bP dT (U 8) aS) (ag (U 6) aA))))))))))) (aY (bR hA)) c7)))
   (aN (bO (i:=9) mc.aD (gL lT yH z3 vT Db (ag (iz rfl (e5 (bP dT (U 1) aS)) (hi (sc:=br (top 168)) rfl ∅) (N:=["_law_way","_law_rows_here"]) (sel:=[none,some 7]) (ha (M:=Bs) ∅) (fR.of (λ_ _ _ _=>(b6 (i:=0) (fk (N:=["_law_way","_law_rows_here"]) ∅ rfl))) (λ_ _ _ _=>(_,iB,by walk_at "B")) (λ_ _ _ _=>(_,(bk fv (bk fv (bP dT (U 0) aS) Db) (j7 bx (bP dA (U 1) aS) (bP dT (U 0) aS) (λ_ _=>rfl))),by walk_at "B")))) aA)))
   (aY (bR (h9 eZ (bT r6 au T.sx T.qX.bt T.s_ (ag (U 4) (ag (bk fv Db (jo lR rfl T.lY lp (ag (bk dd (U 6) aS) aA))) aA))) (U 9) (ct _)))))))))))))))))),?_)
 have ee:∀k:Nat,k<=10000->k<=sizeLine:=λk h=>cH h ∅
 exists (λaT I=>Sc K a ns I/\∃cI wl n ds,I cI\(.tup [.int n,⇑wl])/\i3 I wl ds/\qd n ds/\(4<=n/\n<=12)/\(1<=↑ds/\↑ds<=5)/\aT=[~~~a,~~~cI,none,none,none,none,none,none,none,none]),3
 .nofun;exact(rfl,agE,λcI wl n ds I s1 lO az jz aoT aL aw=>bB _ _ (lO,cI,wl,n,ds,az,jz,aoT,aL,aw,rfl))
 intro h8 H1 (lO,cI,wl,n,ds,az,jz,D,aL,aw,rfl);subst ba;exists (λaT I=>aC H1 I/\Sc K a ns I/\∃(eK aX:Addr) (qs:List Addr) (z:Nat) (sp:List bj),I eK\(.tup [.int z,⇑aX])/\SL I aX qs sp/\qH z ds sp/\(10<=z/\z<=85)/\aT=[~~~a,~~~cI,~~~eK,none,none,none,none,none,none,none]),3
 .nofun;exact(_,b1.of az,_,cO (j:=0) rfl,_,b1.of az,_,cO (j:=1) rfl,n,wl,ds,rfl,lO,jz,D,aw,λeK aX qs z sp I s4 vX gY sa iR ax=>bB _ _ (s4,vX,eK,aX,qs,z,sp,gY,sa,iR,ax,rfl))
 intro c8 ay (s2,oB,eK,aX,qs,z,sp,aE,e9,iR,ax,rfl);have J:kk n ds z sp:=(aL,aw,D,iR,ax);subst ba;exists (λaT I=>aC ay I/\aG I/\∃fy,I fy\(.tup [.str (gk n ds),.str (hy z sp)])/\aT=[~~~a,~~~cI,~~~eK,~~~fy,none,none,none,none,none,none]),3
 .nofun;exact(cI,n,wl,ds,eK,z,aX,qs,sp,rfl,s2 _ _ az,jz.same s2,aE,e9,J,oB.a8,λfy I s3 dh b7=>bB _ _ (s3,dh,fy,b7,rfl))
 intro iO bq (s3,dh,fy,b7,rfl);have o8:=oB.same s3 dh;subst ba;exists (λaT I=>aG I/\∃bb bl db off,aC bq off/\Off [bl,db] I off/\ic t I bb bl db [] []/\aT=[~~~a,~~~cI,~~~eK,~~~fy,~~~bb,none,none,none,none,none]),3
 .nofun;intro x ak ai nh b8;refine(x,ak,rfl,aP,by rw[aO b8];exact aP,λbl db e4 I bt ef jL cK dc an3 w5 fj=>(rfl,?_));refine bB _ _ (ef (dh.upd).upd,x,bl,db,gW [bl,db] I,λb u e=>?_,(yz,λ_ h=>ux h,λb ae=>?_),((ak,e4,jL),cK,dc,an3),rfl)
  .have cR:upd (upd bq ak (.own x)) x (.ins t.h3 ak []) b\u:=by rw[aO (cM e ai),aO (cM e nh)];exact e
   rw[k9]
   .exact bt b u (cM e ai) cR
   .intro ae;simp only[cT,fq,or_false]at ae;rcases ae with rfl|rfl
    .rw [w5]at cR;cases cR
    .rw [fj]at cR;cases cR
  .simp only[cT,fq,or_false]at ae;rcases ae with rfl|rfl
   .exact (_,cK)
   .exact (_,dc)
 intro qZ cc (ez,bb,bl,db,T7,zQ,RN,adg,rfl);have zI:qq K a ns cc T7 bl db cI wl eK aX fy n ds z sp:=(RN,ez,o8.same zQ (λb u e=>ez b u (RN.a7 b u e)),(jz.same (s2.trans s3)).same zQ,zQ _ _ (s3 _ _ (s2 _ _ az)),zQ _ _ (s3 _ _ aE),zQ _ _ b7);subst ba;clear o8 oB lO e9 jz;have asi:=J.eX;have asR:=J.pt;have aB:30000<=sizeLine:=∅
 simp only[d4];refine jW (λb I=>b=false/\∃c gb,qq K a ns I gb bl db cI wl eK aX fy n ds z sp/\ic t I bb bl db (eN [] (.inr (aa "cross")) ⇑c) []/\fO t gb c n ds) (λjI aV=>?_) (λI r=>nomatch r.1) (λcQ r=>?_)
 .nofun;refine(_,b1.of (zI.o.a7 _ _ zI.ex),_,cO (j:=0) rfl,_,rfl,cH (by rw[(∅:↑(aa "crossing cross\n")=15)];omega) aB,?_);rw[ajt];exact(bb,bl,db,[],[],T7,_,_,_,_,_,_,_,rfl,adg,zI.o,zI.a8,aqJ Sg (),.inl (∅,λl gf s1 az=>.inl (_,n,ds,rfl,az,J.Mt,∅,λc I gb dY Ga fK JU hO=>(rfl,aV _ _ (by simp,c,gb,zI.step dY (s1.trans Ga) fK,JU,hO)))))
 let(_,c,RZ,vv,XC,rq):=r;simp only[g7,d4];exists (λaT I=>∃(gb:ar) (bo:List (Key×V)) (C7:Str),qq K a ns I gb bl db cI wl eK aX fy n ds z sp/\ic t I bb bl db (eN [] (.inr (aa "cross")) ⇑c) bo/\((C7=aa "refused"/\bo=[])\/(C7=aa "ok"/\J1 n ds z sp/\∃pl,bo=eN [] (.inr (aa "plan")) ⇑pl/\h_ t gb pl c n ds z sp))/\aT=[~~~a,~~~cI,~~~eK,~~~fy,~~~bb,some (.str C7),none,none,none,none]),0
 .nofun;refine(_,b1.of (vv.o.a7 _ _ vv.ex),_,cO (j:=1) rfl,_,rfl,cH (by rw[(∅:↑(aa "plan plan cross\n")=16)];omega) aB,?_);rw[Z3];exact(bb,bl,db,_,[],RZ,_,_,_,_,_,_,_,rfl,XC,vv.o,vv.a8,aem vN Sg (),.inl (∅,λl gf s1 az=>.inr ((_,_,c,n,ds,z,sp,rfl,az,P8 _ _ _,rq.same s1,J.anR,∅,λpl I gb G dY Ga fK JU ajV=>bB _ _ (gb,_,_,vv.step dY (s1.trans Ga) fK,JU,.inr (rfl,G,pl,rfl,ajV),rfl)),λI s' fK=>bB _ _ (RZ,[],_,vv.same s' fK,XC.same s',.inl (rfl,rfl),rfl))))
 intro nd eQ (yI,bo,C7,mP,Sp,amT,rfl);subst ba;simp only[d4];rcases amT with⟨rfl,rfl⟩|⟨rfl,Li,pl,rfl,afz⟩
 .refine cX true (λQ aV=>?_) (λ_=>?_) (λah=>nomatch ah)
  .nofun;exact aV
  .nofun;rw[akA];refine(bb,bl,db,_,[],yI,_,_,_,_,_,_,_,rfl,Sp,mP.o,mP.a8,Ul vN ∅ ∅,.inr (.inr (∅,λl gf s1 az=>(_,5,rfl,az,rfl,∅,∅),λI s' fK=>(rfl,?_))));rw[decide_eq_true rfl];exact q _
 refine cX false (λQ aV=>?_) (λah=>nomatch ah) (λ_=>?_)
 .nofun;exact aV
 have hv:qB t eQ yI bb bl db (eN [] (.inr (aa "cross")) ⇑c) (eN [] (.inr (aa "plan")) ⇑pl) pl c n ds z sp:=(Sp,mP.o,P8 _ _ _,afz,J,Li);have H2:=λd hd=>hv.aiU (d:=d) hd
 have vx:Sc K a ns eQ:=mP.sc.same mP.o.a7 mP.a8;simp only[g7,d4];exists (λaT I=>I=eQ/\∃far:Int,(0<=far/\far<10 ^ 58)/\aT=[~~~a,~~~cI,~~~eK,~~~fy,~~~bb,some (.str (aa "ok")),some (.int far),none,none,none]),0
 .have cU:=hD ns 11 (m:=1000) ∅;have dr:=hE ns 11 (m:=1000) ∅;(nofun; repeat (dsimp only[gD];nofun));exact(vx,∅,∅,∅,bB _ _ (rfl,_,(),rfl))
 intro k0 hN (rfl,aj6,Od,rfl);subst ba;simp only[d4];exists (λaT I=>I=hN/\∃far:Int,(0<=far/\far<10 ^ 58)/\aT=[~~~a,~~~cI,~~~eK,~~~fy,~~~bb,some (.str (aa "ok")),some (.int far),none,none,none]),0
 .refine cX (decide (cL ns 12 3=1)) (λQ aV=>?_) (λr=>?_) (λr=>?_)
  ·(nofun; repeat (dsimp only[gD];nofun));exact(vx,∅,∅,∅,aV)
  .have cU:=hD ns 13 (m:=3) ∅;have dr:=hE ns 13 (m:=3) ∅;(nofun; repeat (dsimp only[gD];nofun));exact(vx,∅,∅,∅,bB _ _ (rfl,_,(),rfl))
  .refine cX (decide (0<↑ns)) (λQ aV=>?_) (λr=>?_) (λr=>?_)
   .nofun;refine(_,.inl vx.seq,?_);rw[a9,show decide (0<(↑ns:Int))=decide (0<↑ns)from decide_eq_decide.mpr ()];exact aV
   .have Je:=of_decide_eq_true r;have cD:↑ns / 2<↑ns:=()
    have nK:eD (ns.map V.int) ((↑ns:Int) / 2)\(.int (ns[↑ns / 2]'cD)):=by
     rw[show((↑ns:Int) / 2)=((↑ns / 2:Nat):Int)by omega];exact cO (by rw[d7,bJ cD];rfl)
    nofun;refine(_,.inl vx.seq,?_);rw[a9];refine((∅,∅),_,vx.seq,_,nK,(∅,∅,∅),_,rfl,Int.pow_pos ∅,bB _ _ (rfl,_,?_,rfl));have cR:=e8 (ns[↑ns / 2]'cD) ((∅:(10:Int) ^ 57≠0));have az:=e_ (ns[↑ns / 2]'cD) ((∅:(0:Int)<10 ^ 57));refine(?_,?_)
    .exact Int.add_nonneg ∅ cR
    .exact aqb (Int.add_lt_add_left az 300) ∅
   .nofun;exact bB _ _ (rfl,_,Od,rfl)
 intro MC h7 (rfl,far,hf,rfl);subst ba;clear Od aj6;simp only[d4];exists (λaT I=>aC h7 I/\aG I/\∃dt rs,sO z sp ds far I dt rs (z+14)/\aT=[~~~a,~~~cI,~~~eK,~~~fy,~~~bb,some (.str (aa "ok")),some (.int far),~~~dt,none,none]),0
 .nofun;have bc:=J.nm;have cq:=apb (z:=z) (sp:=sp) (ds:=ds) (far:=far) (m:=z+14) ();let(hU,arY):=ah8 (b:=far) bc cq;have nc:far<10 ^ 59:=aqb hf.2 ∅;have UC:↑(aa (toString far))<=59:=(ol (v:=far) hf.1 nc).1;have arP:↑(aa (toString ((z:Int)+14)))<=8:=(gP (v:=(z:Int)+14) () ()).1;have apa:↑(aa "draw plan ")=10:=∅
  have lr:↑(aa " ")=1:=∅
  refine(JW hf.1 nc,ee _ (),ee _ (by rw[gQ];omega),_,b1.of (mP.o.a7 _ _ mP.kD),_,cO (j:=0) rfl,_,rfl,qc (),ee _ (by simp only[gQ];omega),?_);rw[akw];refine(bb,bl,db,_,_,yI,_,_,_,_,_,_,_,rfl,hv.d,hv.o,mP.a8,aox vN hf.1 nc (m:=(z:Int)+14) (),.inr (.inl (∅,λl gf s e=>.inr (.inr (.inr (_,far,z+14,pl,c,n,ds,z,sp,rfl,e,hv.v,hv.p.same s,(),(),bc,λI s' fK=>(trivial,_,rfl,?_)))))));have b8:hS z sp ds far (z+14)≠[]:=λe=>by
   have:=congrArg nA e;unfold hS at this;rw[a9,kf]at this;simp at this
  rw[show aa "\n"=nl from rfl,akC bc cq];exact(∅,ee _ (),ee _ (),λp aq=>(far,_,_,p,rfl,bc,cq,b8,aP,fK.upd,λdu Mk vM qt apZ _ _ _ abi=>bB _ _ ((s'.trans (bp aq)).trans qt,apZ,du,Mk,adI () H2 abi,rfl)))
 intro asw ju (nD,Cm,dt,rs,uo,rfl);have sM:=mP.same nD Cm;have Hn:=hv.same nD;subst ba;simp only[d4];refine jW (λb I=>b=false/\aC ju I/\aG I) (λQ aV=>?_) (λI r=>nomatch r.1) (λCo r=>?_)
 .nofun;obtain⟨fu,Vx⟩:∃r,rs[0]?\r:=⟨_,bJ (by rw[uo.aj];omega)⟩;have cR:=uo.al 0 fu Vx;obtain⟨ws,cw,dH,nM⟩:=sM.w.same sM.o.a7;have aeC:=sM.o.a7 _ _ sM.r7;refine⟨_,.inl (aH.of uo.af),_,b1.of (sM.o.a7 _ _ sM.kD),_,cO (j:=0) rfl,_,rfl,?_⟩;rw[if_neg (by rw[a9,uo.aj];simp)];refine⟨_,aH.of uo.af,_,cO (j:=0) (by rw[d7,Vx];rfl),?_,_,rfl,_,cR,fun p aq=>⟨_,aP,_,(bp aq) _ _ cR,fun l mH=>?_⟩⟩
  .exact p5 (p5 (m2 (m2 (_,cR))))
  rw[abv];have hC:aC ju (upd (upd ju p (.ext (lE p fu))) l (.lst (bz (ds.map (·.name))))):=(bp aq).trans (bp mH);have na:aG (upd (upd ju p (.ext (lE p fu))) l (.lst (bz (ds.map (·.name))))):=Cm.upd.upd;have cK:(upd (upd ju p (.ext (lE p fu))) l (.lst (bz (ds.map (·.name))))) l\(.lst (bz (ds.map (·.name)))):=aP;generalize upd (upd ju p (.ext (lE p fu))) l (.lst (bz (ds.map (·.name))))=hx at hC na cK⊢;refine(_,b1.of (hC _ _ aeC),_,cO (j:=1) rfl,_,rfl,(_,aH.of (hC _ _ cw)),?_);refine dv.tu (xs:=ws.map V.ref) (zs:=bz (ds.map (·.name))) (aH.of (hC _ _ cw)) (ee _ (by rw[a9];omega)) (by rw[mi,a9,a9,dH]) (λj x y N ai bg bc=>?_) (λdR dy=>?_)
  .let(jV,p3,rfl):=cF ai;let(r5,Iq,rfl):=cF bg;let(d,hd,rfl):=cF Iq;nofun;exact(Sub.name,_,b1.of (hC _ _ (nM j jV d p3 hd)),_,mh _,bc)
  .refine (_,rfl,_,jK.ZQ (k:=7) (aH.of ((bp dy) _ _ cK)) (aH.of aP) (λx ai y bg=>?_),aV _ _ (by simp,hC.trans (bp dy),na.upd));let(Ww,_,rfl):=dg.mp ai;let(r5,_,rfl):=dg.mp bg;rfl
 let(_,GA,Qv):=r;have tl:=sM.same GA Qv;have pP:=Hn.same GA;have YT:=uo.same GA;have oG:0<z:=()
 have Nq:R9 n z sp ds:=λd hd e he b8 hm u j aZ mN=>aer oG (λs aB=>by have:=iR.al s aB;omega) Li.N2 Li.cl hd he b8 hm aZ mN
 simp only[g7,d4];refine jW (λb I=>b=false/\aC Co I/\aG I) (λQ aV=>?_) (λI r=>nomatch r.1) (λtM r=>?_)
 .nofun;exact(_,b1.of (tl.o.a7 _ _ tl.r7),_,cO (j:=0) rfl,_,b1.of (tl.o.a7 _ _ tl.r7),_,cO (j:=1) rfl,n,wl,ds,dt,rs,z,sp,far,z+14,rfl,tl.w.same tl.o.a7,D,(),YT,Nq,(),Qv,λI s' fK=>(_,rfl,aV _ _ (rfl,s',fK)))
 let(_,uG,PK):=r;have r1:=tl.same uG PK;have YM:=pP.same uG;have Sa:=YT.same uG;let(ws,cw,dH,nM):=r1.w.same r1.o.a7;have aei:=r1.o.a7 _ _ r1.r7;simp only[g7,d4];refine VT (λaT I=>aC tM I/\aG I/\∃fV,aT=[~~~a,~~~cI,~~~eK,~~~fy,~~~bb,some (.str (aa "ok")),some (.int far),~~~dt,fV,none]) (λi6 bB afY _ _=>?_) ?_
 .nofun;refine(_,b1.of aei,_,cO (j:=1) rfl,_,rfl,(_,aH.of cw),?_);refine dW.list (xs:=ws.map V.ref) (λi σ I=>aC tM I/\aG I/\∃fV,σ=[~~~a,~~~cI,~~~eK,~~~fy,~~~bb,some (.str (aa "ok")),some (.int far),~~~dt,fV,none]) ?_ ?_ ?_ ?_
  .exact (aC.refl _,PK,_,rfl)
  .intro i σ I ao (a7,_);exact aH.of (a7 _ _ cw)
  .rintro i v σ I aM a3;ac_rfl
   let(a7,a8,fV,rfl):=a3;let(d3,mW,rfl):=cF aM;have hp:i<↑ds:=by rw[<- dH];exact(cv.mp mW).1
   have g0:ds[i]?\ds[i]:=bJ hp;have l8:=nM i _ _ mW g0;have kV:=cC g0;subst ba;generalize ds[i]=d at g0 l8 kV;have O:=aqZ (H2 d kV) far (z+14);have sC:=Sa.same a7;have Pd:=r1.same a7 a8;have vi:=YM.same a7;simp only[gu,d4,j',j8];refine jW (λb ay=>b=false/\aC I ay/\aG ay) (λQ aV=>?_) (λay r=>nomatch r.1) (λay r=>?_)
   .nofun;refine((_,aH.of sC.af),?_);refine dv.tu (xs:=rs.map V.ref) (zs:=jF (k8 z sp d far (z+14))) (aH.of sC.af) (ee _ (by rw[a9,sC.aj];omega)) (by rw[a9,sC.aj,show ↑(jF (k8 z sp d far (z+14)))=↑(k8 z sp d far (z+14))from a9 ..,GX]) (λj x y N ai bg bc=>?_) (λp aq=>?_)
    .obtain⟨abV,S4,rfl⟩:=cF ai;have aZ:j<z+14:=by rw[<- sC.aj];exact(cv.mp S4).1
     have anp:y=.str (bS (fz z sp d (far+(j:Nat)))):=by
      unfold jF at bg;rw[d7,xi aZ]at bg;exact(d6 bg).symm
     subst anp;nofun;exact(Sub.name,_,b1.of (a7 _ _ l8),_,mh _,_,zg D.aD (sC.al j abV S4) g0,bc)
    .refine (d3,p,d,k8 z sp d far (z+14),rfl,(bp aq) _ _ (a7 _ _ l8),(D.al d kV).1.k,aP,O,by rw[GX];omega,a8.upd,λaq3 Jh Hd=>(_,rfl,?_));have zp:=(bp (o:=.lst (jF (k8 z sp d far (z+14)))) aq).trans Jh;rw[if_neg ∅];exact(_,b1.of (zp _ _ (a7 _ _ l8)),_,mh _,bb,bl,db,_,_,yI,pl,c,n,ds,z,sp,dt,rs,far,i,d,rfl,(Pd.sc.same Pd.o.a7 a8).same zp Hd,vi.same zp,sC.same zp,g0,hf,λatd am8 agU=>(_,rfl,aV _ _ (rfl,zp.trans am8,agU)))
   .let(_,Jh,Hd):=r;nofun;exact(a7.trans Jh,Hd,_,rfl)
  .rintro σ I a3;ac_rfl
   let(a7,a8,fV,rfl):=a3;subst ba;exact bB _ _ (a7,a8,_,rfl)
 rintro ai3 rU a3;ac_rfl
 let(nE,oN,fV,rfl):=a3;have Xi:=r1.same nE oN;have abD:=YM.same nE;have Hj:=Sa.same nE;subst ba;simp only[d4];exists (λaT I=>aC rU I/\aG I/\∃fV,aT=[~~~a,~~~cI,~~~eK,~~~fy,~~~bb,some (.str (aa "ok")),some (.int far),~~~dt,fV,some (.str (M_ ds λd=>h5 z sp d (far+3)))]),0
 .nofun;obtain⟨kc,Jo⟩:∃r,rs[3]?\r:=⟨_,bJ (by rw[Hj.aj];omega)⟩;have air:rU kc\(.bL (fi ds fun d=>bS (fz z sp d (far+3)))):=Hj.al 3 kc Jo;have adm:=Xi.o.a7 _ _ Xi.r7;have ab6:∀(j:Nat) (jV:Addr) (d:aQ),ws[j]?\jV->ds[j]?\d->rU jV\(.tup (f9 d)):=fun j jV d x y=>nE _ _ (nM j jV d x y)
  have tG:∀d∈ds,↑d.name<=8/\↑(h5 z sp d (far+3))<=8:=λd hd=>((vu (D.al d hd).1.nm).1,Te (Kq ()))
  have lr:↑(aa " ")=1:=∅
  refine(_,b1.of adm,_,cO (j:=1) rfl,_,rfl,(_,aH.of (nE _ _ cw)),?_);refine dv.tu (xs:=ws.map V.ref) (zs:=bz (ds.map λd=>d.name++b3++h5 z sp d (far+3))) (aH.of (nE _ _ cw)) (ee _ (by rw[a9];omega)) (by rw[mi,a9,a9,dH]) (λj x y N ai bg bc=>?_) (λdR dy=>?_)
  .let(jV,p3,rfl):=cF ai;let(r5,Iq,rfl):=cF bg;let(d,hd,rfl):=cF Iq;have kV:=cC hd;have afc:=tG d kV;rw[Qs (H2 d kV)]at afc bc;have hL:=b1.of (K:=K) (ab6 j jV d p3 hd);nofun;refine(Sub.name,_,hL,_,mh _,_,rfl,ee _ (),_,aH.of Hj.af,_,cO (j:=3) (by rw[d7,Jo];rfl),_,hL,_,mh _,_,rfl,_,zg D.aD air hd,_,rfl,ee _ (by rw[gQ];omega),bc)
  .refine⟨_,rfl,_,aH.of aP,?_,bB _ _ ⟨bp dy,oN.upd,_,rfl⟩⟩;have:=B1 (B:=20) (l:=ds.map fun d=>d.name++b3++h5 z sp d (far+3)) (fun y bg=>by
    let(d,hd,rfl):=dg.mp bg;have:=tG d hd;rw[gQ,gQ,jw]
    omega)
   rw[a9]at this⊢;rw[lr];omega
 intro afD abd (Hq,nu,ar3,rfl);have vi:=abD.same Hq;subst ba;nofun;have nc:far+3<10 ^ 59:=by have:=hf.2;omega
 have UC:↑(aa (toString (far+3)))<=59:=(ol (v:=far+3) () nc).1;refine(JW () nc,ee _ (by rw[(∅:↑(aa "colours plan ")=13)];omega),?_);rw[amn];refine(bb,bl,db,_,_,yI,_,_,_,_,_,_,_,rfl,vi.d,vi.o,nu,Ul vN () nc,.inr (.inl (∅,λl gf s e=>.inl (_,far+3,pl,c,n,ds,z,sp,rfl,e,vi.v,vi.p.same s,(),J.nm,λI s' fK=>(rfl,?_)))));rw[decide_eq_true rfl];exact q _
end My
end
open PySem PySem.W PyProof.Rows
set_option tactic.hygienic true
set_option maxRecDepth 100000 in
set_option maxHeartbeats 0 in
theorem PySem.Challenge.cw_lampway_k90_whole_round_at_a_desk_holds : PySem.Challenge.rw_lampway_k90_whole_round_at_a_desk.Holds := by
 refine hd90 ?_
 k_fill
 refine L2.ajr (l:=PySem.Challenge.rw_lampway_k90_whole_round_at_a_desk) (n:=63) (k:=13) (x:="_law_script") (CX:=L2.cN) (sp:=L2.Tb) rfl (by decide) rfl ⟨rfl,by decide,by decide⟩ (fun w h Y=>L2.s_in_of Y) ?F ?S ?C
 case F=>
  intro w av jf h fe G yv;have T:∃t,My.Txt w (L2.OE fe) av t:=by
   dsimp only[L2.OE];refine' ⟨My.bA.mk,⟨⟨?mqaa,?Fqab,?mqac,?Fqad,?mqae,?Fqaf,?mqag,?Fqah,?mqai,?Fqaj⟩,⟨?mqak,?Fqal,?mqam,?Fqan,?mqao,?Fqap,?mqaq,?Fqar,?mqas,?Fqat⟩,⟨?mqau,?Fqav,?mqaw,?Fqax,?mqay,?Fqaz,?mqba,?Fqbb,?mqbc,?Fqbd⟩,⟨?mqbe,?Fqbf,?mqbg,?Fqbh,?mqbi,?Fqbj,?mqbk,?Fqbl,?mqbm,?Fqbn⟩,⟨?mqbo,?Fqbp,?mqbq,?Fqbr,?mqbs,?Fqbt,?mqbu,?Fqbv,?mqbw,?Fqbx⟩,⟨?mqby,?Fqbz,?mqca,?Fqcb,?mqcc,?Fqcd,?mqce,?Fqcf,?mqcg,?Fqch⟩,⟨?mqci,?Fqcj,?mqck,?Fqcl,?mqcm,?Fqcn,?mqco,?Fqcp,?mqcq,?Fqcr⟩,⟨?mqcs,?Fqct,?mqcu,?Fqcv,?mqcw,?Fqcx,?mqcy,?Fqcz,?mqda,?Fqdb⟩,⟨?mqdc,?Fqdd,?mqde,?Fqdf,?mqdg,?Fqdh,?mqdi,?Fqdj,?mqdk,?Fqdl⟩,⟨?mqdm,?Fqdn,?mqdo,?Fqdp,?mqdq,?Fqdr,?mqds,?Fqdt,?mqdu,?Fqdv⟩,⟨?mqdw,?Fqdx,?mqdy,?Fqdz,?mqea,?Fqeb,?mqec,?Fqed,?mqee,?Fqef⟩,⟨?mqeg,?Fqeh,?mqei,?Fqej,?mqek,?Fqel,?mqem,?Fqen,?mqeo,?eqep⟩,⟨?Fqeq,?mqer,?eqes,?Fqet,?mqeu,?eqev,?Fqew,?mqex,?eqey,?Fqez⟩,⟨?mqfa,?eqfb,?Fqfc,?eqfd,?Fqfe,?eqff,?Fqfg,?eqfh,?Fqfi,?eqfj⟩,⟨?Fqfk,?eqfl,?Fqfm,?eqfn,?Fqfo,?mqfp,?eqfq,?Fqfr,?mqfs,?eqft⟩,⟨?Fqfu,?eqfv,?Fqfw,?eqfx,?Fqfy,?mqfz,?eqga,?Fqgb,?eqgc,?Fqgd⟩,⟨?eqge,?Fqgf,?mqgg,?eqgh,?Fqgi,?eqgj,?Fqgk,?eqgl,?Fqgm,?mqgn⟩,⟨?eqgo,?Fqgp,?eqgq,?Fqgr,?eqgs,?Fqgt,?eqgu,?Fqgv,?mqgw,?eqgx⟩,⟨?Fqgy,?mqgz,?eqha,?Fqhb,?eqhc,?Fqhd,?eqhe,?Fqhf,?eqhg,?Fqhh⟩,⟨?sqhi,?sqhj,?sqhk,?sqhl,?sqhm,?sqhn,?sqho,?sqhp,?nqhq,?nqhr⟩,⟨?nqhs,?sqht,?sqhu,?sqhv,?sqhw,?sqhx,?nqhy,?nqhz,?nqia,?nqib⟩,⟨?nqic,?nqid,?nqie,?sqif,?sqig,?sqih,?sqii,?nqij,?nqik,?nqil⟩,⟨?nqim,?nqin,?nqio,?nqip,?sqiq,?sqir,?sqis,?sqit,?nqiu,?nqiv⟩,⟨?nqiw,?nqix,?nqiy,?nqiz,?nqja,?sqjb,?sqjc,?sqjd,?sqje,?sqjf⟩,⟨?nqjg,?nqjh,?nqji,?mqjj,?sqjk,?mqjl,?sqjm,?sqjn,?sqjo,?nqjp⟩,⟨?nqjq,?nqjr,?nqjs,?nqjt,?mqju,?sqjv,?sqjw,?sqjx,?sqjy,?sqjz⟩,⟨?sqka,?nqkb,?nqkc,?nqkd,?mqke,?sqkf,?xqkg,?Xqkh,?nqki,?sqkj⟩,⟨?rqkk,?rqkl,?rqkm,?rqkn,?rqko,?rqkp,?rqkq,?rqkr,?rqks,?xqkt⟩,⟨?Xqku,?nqkv,?nqkw,?sqkx,?rqky,?rqkz,?rqla,?rqlb,?rqlc,?rqld⟩,⟨?rqle,?rqlf,?rqlg,?xqlh,?Xqli,?nqlj,?nqlk,?nqll,?sqlm,?rqln⟩,⟨?rqlo,?rqlp,?rqlq,?rqlr,?rqls,?rqlt,?rqlu,?rqlv,?xqlw,?Xqlx⟩,⟨?nqly,?sqlz,?rqma,?rqmb,?rqmc,?rqmd,?rqme,?rqmf,?rqmg,?rqmh⟩,⟨?rqmi,?dqmj,?dqmk,?dqml,?sqmm,?mqmn,?vqmo,?mqmp,?tqmq,?mqmr⟩,⟨?vqms,?mqmt,?tqmu,?yqmv,?uqmw,?uqmx,?uqmy,?uqmz,?uqna,?uqnb⟩,⟨?uqnc,?uqnd,?uqne,?uqnf,?mqng,?vqnh,?mqni,?vqnj,?mqnk,?vqnl⟩,⟨?mqnm,?vqnn,?mqno,?vqnp,?mqnq,?vqnr,?mqns,?vqnt,?mqnu,?vqnv⟩,⟨?mqnw,?vqnx,?mqny,?vqnz,?mqoa,?vqob,?mqoc,?vqod,?mqoe,?vqof⟩,⟨?mqog,?vqoh,?mqoi,?tqoj,?mqok,?uqol,?mqom,?mqon,?mqoo,?bqop⟩,⟨?bqoq,?bqor,?bqos,?bqot,?bqou,?bqov,?bqow,?bqox,?bqoy,?bqoz⟩,?lqpa⟩⟩
   case mqaa|mqac|mqae|mqag|mqai|mqak|mqam|mqao|mqaq|mqas|mqau|mqaw|mqay|mqba|mqbc|mqbe|mqbg|mqbi|mqbk|mqbm|mqbo|mqbq|mqbs|mqbu|mqbw|mqby|mqca|mqcc|mqce|mqcg|mqci|mqck|mqcm|mqco|mqcq|mqcs|mqcu|mqcw|mqcy|mqda|mqdc|mqde|mqdg|mqdi|mqdk|mqdm|mqdo|mqdq|mqds|mqdu|mqdw|mqdy|mqea|mqec|mqee|mqeg|mqei|mqek|mqem|mqeo|mqer|mqeu|mqex|mqfa|mqfp|mqfs|mqfz|mqgg|mqgn|mqgw|mqgz|mqjj|mqjl|mqju|mqke|mqmn|mqmp|mqmr|mqmt|mqng|mqni|mqnk|mqnm|mqno|mqnq|mqns|mqnu|mqnw|mqny|mqoa|mqoc|mqoe|mqog|mqoi|mqok|mqom|mqon|mqoo=>(try dsimp only);refine' PySem.W.mg_of fe G ?z;case z=>k_is
   case eqep|eqes|eqev|eqey|eqfb|eqfd|eqff|eqfh|eqfj|eqfl|eqfn|eqfq|eqft|eqfv|eqfx|eqga|eqgc|eqge|eqgh|eqgj|eqgl|eqgo|eqgq|eqgs|eqgu|eqgx|eqha|eqhc|eqhe|eqhg=>(try dsimp only);k_is
   case sqhi|sqhj|sqhk|sqhl|sqhm|sqhn|sqho|sqhp|sqht|sqhu|sqhv|sqhw|sqhx|sqif|sqig|sqih|sqii|sqiq|sqir|sqis|sqit|sqjb|sqjc|sqjd|sqje|sqjf|sqjk|sqjm|sqjn|sqjo|sqjv|sqjw|sqjx|sqjy|sqjz|sqka|sqkf|sqkj|sqkx|sqlm|sqlz|sqmm=>(try dsimp only);constructor <;> k_is
   case Fqab|Fqad|Fqaf|Fqah|Fqaj|Fqal|Fqan|Fqap|Fqar|Fqat|Fqav|Fqax|Fqaz|Fqbb|Fqbd|Fqbf|Fqbh|Fqbj|Fqbl|Fqbn|Fqbp|Fqbr|Fqbt|Fqbv|Fqbx|Fqbz|Fqcb|Fqcd|Fqcf|Fqch|Fqcj|Fqcl|Fqcn|Fqcp|Fqcr|Fqct|Fqcv|Fqcx|Fqcz|Fqdb|Fqdd|Fqdf|Fqdh|Fqdj|Fqdl|Fqdn|Fqdp|Fqdr|Fqdt|Fqdv|Fqdx|Fqdz|Fqeb|Fqed|Fqef|Fqeh|Fqej|Fqel|Fqen|Fqeq|Fqet|Fqew|Fqez|Fqfc|Fqfe|Fqfg|Fqfi|Fqfk|Fqfm|Fqfo|Fqfr|Fqfu|Fqfw|Fqfy|Fqgb|Fqgd|Fqgf|Fqgi|Fqgk|Fqgm|Fqgp|Fqgr|Fqgt|Fqgv|Fqgy|Fqhb|Fqhd|Fqhf|Fqhh=>(try dsimp only);refine' L2.apI ?x ?y ?z;(case x=>k_is);(case y=>k_is);(case z=>k_is)
   case nqhq|nqhr|nqhs|nqhy|nqhz|nqia|nqib|nqic|nqid|nqie|nqij|nqik|nqil|nqim|nqin|nqio|nqip|nqiu|nqiv|nqiw|nqix|nqiy|nqiz|nqja|nqjg|nqjh|nqji|nqjp|nqjq|nqjr|nqjs|nqjt|nqkb|nqkc|nqkd|nqki|nqkv|nqkw|nqlj|nqlk|nqll|nqly=>(try dsimp only);unfold L2.cY;k_is
   case rqkk|rqkl|rqkm|rqkn|rqko|rqkp|rqkq|rqkr|rqks|rqky|rqkz|rqla|rqlb|rqlc|rqld|rqle|rqlf|rqlg|rqln|rqlo|rqlp|rqlq|rqlr|rqls|rqlt|rqlu|rqlv|rqma|rqmb|rqmc|rqmd|rqme|rqmf|rqmg|rqmh|rqmi=>(try dsimp only);kernel_rfl
   case xqkg|xqkt|xqlh|xqlw=>(try dsimp only);refine' ⟨?_,by kernel_rfl,?_,?_,?_⟩ <;> k_is
   case Xqkh|Xqku|Xqli|Xqlx=>(try dsimp only);refine' L2.aoL ?x (by kernel_rfl) ?y;(case x=>k_is);(case y=>k_is)
   case dqmj|dqmk|dqml=>(try dsimp only);decide
   case vqmo|vqms|vqnh|vqnj|vqnl|vqnn|vqnp|vqnr|vqnt|vqnv|vqnx|vqnz|vqob|vqod|vqof|vqoh=>(try dsimp only);exact⟨_,rfl⟩
   case bqop|bqoq|bqor|bqos|bqot|bqou|bqov|bqow|bqox|bqoy|bqoz=>(try dsimp only);refine' PySem.W.mg_none_of fe G ?z;case z=>k_is
   case tqmq=>(try dsimp only);refine' L2.GB ?x ?y ?z;(case x=>k_is);(case y=>k_keys);(case z=>intro x v h;simp only[cT,fq,or_false,Ct]at h;rcases h with⟨rfl,rfl⟩|⟨rfl,rfl⟩|⟨rfl,rfl⟩|⟨rfl,rfl⟩;all_goals (refine' L2.Jv ?px0 ?rx0;(case px0=>k_is);(case rx0=>first|exact⟨_,rfl⟩|rfl)))
   case tqmu=>(try dsimp only);refine' L2.GB ?x ?y ?z;(case x=>k_is);(case y=>k_keys);(case z=>intro x v h;simp only[cT,fq,or_false,Ct]at h;rcases h with⟨rfl,rfl⟩|⟨rfl,rfl⟩|⟨rfl,rfl⟩|⟨rfl,rfl⟩|⟨rfl,rfl⟩|⟨rfl,rfl⟩|⟨rfl,rfl⟩|⟨rfl,rfl⟩|⟨rfl,rfl⟩|⟨rfl,rfl⟩;all_goals (refine' L2.Jv ?px0 ?rx0;(case px0=>k_is);(case rx0=>first|exact⟨_,rfl⟩|rfl)))
   case tqoj=>(try dsimp only);refine' L2.GB ?x ?y ?z;(case x=>k_is);(case y=>k_keys);(case z=>intro x v h;simp only[cT,fq,or_false,Ct]at h;rcases h with⟨rfl,rfl⟩|⟨rfl,rfl⟩|⟨rfl,rfl⟩|⟨rfl,rfl⟩;all_goals (refine' L2.Jv ?px0 ?rx0;(case px0=>k_is);(case rx0=>first|exact⟨_,rfl⟩|rfl)))
   case uqmw|uqmx|uqmy|uqmz|uqna|uqnb|uqnc|uqnd|uqne|uqnf|uqol=>(try dsimp only);refine' My.aoz ?x ?y ?z;(case x=>k_is);(case y=>decide);(case z=>(repeat (first|exact .nil|refine' .cons ⟨_,rfl⟩ ?_)))
   case yqmv=>(try dsimp only);refine' My.aa9 ?x ?y ?u ?z;(case x=>k_is);(case y=>k_keys);(case u=>decide);(case z=>(repeat (first|exact .nil|refine' .cons ⟨_,rfl⟩ ?_)))
   case lqpa=>(try dsimp only);exact fun _ _=>.of_eq rfl
  obtain⟨t,T⟩:=T;have cR:=yv.symm.trans T.abt;cases cR;exact⟨t.CW,T.aho,fun base asN nb=>My.adp T⟩
 case S=>exact fun K H a ns aw qp e6=>⟨a,ns,rfl,L2.Sc.aeS qp e6,aw,fun _=>rfl⟩
 case C=>exact fun _ _ _ _ z=>z
