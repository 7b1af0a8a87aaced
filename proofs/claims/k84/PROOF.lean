import PyProof.Rows.All
import OpenK.KLine
import OpenK.KWalk
import Wide.FinOn
import Lean
import PyProof.EqAt
import PyProof.EqKinds
import PyProof.TupleCall
import KE.KTryMore
import PyProof.NsDelKeeps
import KE.KPairComp
import KE.KDictList
import KE.KIntText
import KE.KNestM
import KE.KRevIter
import KE.KItem
import KE.KLam
import KE.KItemsList
import KE.KEqDict
import KE.KFromBytes
import KE.KMinKey
import KE.KDictOf
import KE.KxBytes
import PySem.Challenge.RW_lampway_k84_shortest_at_a_desk
set_option compiler.extract_closed false
set_option Elab.async false
set_option linter.all false
set_option maxRecDepth 100000
structure PySem.W.Fast:Prop where(tw4288961035855864643 tw1766902094996607009 tw4333860416742436003 tw5559454554580390061 tw7451119238973419121 tw3006800488191274861 tw10698656889899405655 tw9729208953350371875 tw2513738810478502183 tw5628090358049333888 tw14973033035956690690 tw12230070407452635606 tw6535323832913571080 tw13230357830193096232 tw9797395007841667277 tw4313526112091285297 tw14479814353722616066 tw7504310279042501058 tw5619906486666326024 tw13009659851388495376 tw17386416227925293340 tw7726635296254282248 tw702784479546231496 tw13484220362618192502 tw268363332191739316 tw16289569992605691376 tw13783136849268142019 tw6332249584927032666 tw5557148119098694617 tw17507129135805989161 tw17395425261885852301 tw444452380527799574 tw18194228209701753595 tw8415625509016504097 tw2794832400172446348 tw7933684929906803035 tw14918242346555007783 tw12007593864259769847 tw6607698141281933464 tw10999247814911204909 tw9455781585643061276 tw10424419166718646524 tw3785140754323397488 tw4725357718556813802 tw6827071627724369304 tw11968850471475765207 tw12098599917537593795 tw3335350356734963683 tw13638087230830346575 tw5995445534225575494 tw14172531314559017176 tw5114925981672876883 tw9349577590437464704 tw13564037507955064182 tw1207863202602147333 tw11313942188195320569 tw1698960476620869091 tw6526257340232184512 tw13832669195609494116 tw3245748565827192913 tw13805252982153791200 tw10505566236925494287 tw15260218700459656555 tw1954348499046310283 tw8233893063595469879 tw9332669638310258056 tw9278316771998721614 tw116621467359252278 tw8137477472903875083 tw13801346016521543326 tw15171013856325814368 tw17851232978448644990 tw9348090185954731059 tw2672892682554711987 tw1379978579827120120 tw13837071765069681330 tw9633161350912847404 tw6566640783543931293 tw1303303362303458871 tw11402961460514634008 tw13470454325809799743 tw2031989549580289304 tw3841072383313979410 tw14819057192269605989 tw6851587340678239233 tw2351427593419472999 tw16986556751416721762 tw5373568103495944703 tw12061825962057595858 tw5872868621705632324 tw4512106330308983614 tw16027324031403375606 tw5708477907801560642 tw6629832587563321883 tw15322194288341988647 tw4821282562246319779 tw14607124346371007162 tw16657019373262740948 tw9918716801360864449 tw11553389479523012769 tw3892930528348189352 tw7592088612878396807 tw12446150999558442625 tw10912855506770920060 tw18098720435421059596 tw14905428029382601349 tw12362392856450120725 tw9101331316306091664 tw15462180813574074188 tw5167786557930231031 tw11200806645663785168 tw2040748653827441925 tw6505513779732729202 tw5920163630080112216 tw9339610714684193314 tw3576272898637995820 tw16282595003758498611 tw15715966627018004829 tw8053562502211083749 tw17720286667796331625 tw14910355440661013388 tw11367957935726534808 tw12132070204804947578 tw10645282507795671242 tw13359152116898797395 tw3964996403435694677 tw1945740180108361510 tw13481521043497869923 tw13883051850934635400 tw17541162683021680771 tw12023987333952458782 tw9128303626269022817 tw11001489207651813299 tw17671051235180722883 tw2981810149074887102 tw10072671238579494801 tw7276299450653076365 tw274452190724880812 tw14580100195784597286 tw12874380289488819358 tw2009894146602184495 tw9822336076086402797 tw17814093090187800057 tw7639559973431398607 tw2497898437781114064 tw10957914666833979010 tw1318356411498266720 tw1299863164063127932 tw5300169503773119519 tw2924345094355112889 tw1005110539771976040 tw15270631441455903381 tw2825335401681382509 tw16349308618773084155 tw11764497027983474712 tw13538641947462630877 tw3188057701630922091 tw8116656991452076425 tw7510272781378179590 tw4938008793767916558 tw842249533092801634 tw12119426672975198425 tw11554710055765786649 tw16609369644942038903 tw12627624896091084955 tw12115313091351536297 tw13647347082086117133 tw14584120842896924046 tw14929381929000706724 tw2889428668478425982 tw12366838980976322928 tw1616616982818338506 tw1170495187607631015 tw16502459924478433688 tw13284478630875433274 tw11161455369799041591 tw5698102437624261949 tw1722502242959692180 tw10855643062715973327 tw9468461232820462504 tw11025659673804974870 tw12288197006987318059 tw9592912338164271252 tw15939323274895033829 tw13321330062583329601 tw1463910216732294134 tw17543673683254068884 tw4337488962513199167 tw16927672259011008824 tw11991894215239415202 tw13169090984325735388 tw12757744853634425021 tw6481878493224651207 tw16284451033714790339 tw5714516508075761498 tw9805280814129408597 tw12482149564013581680 tw11963176288076949354 tw10085454382428452958 tw863445544134819481 tw16047641473953063148 tw5438545484465053041 tw7266700684687996161 tw9372403332099895708 tw8604404529379658701 tw11527975655206598647 tw12453847102837207965 tw16787045217705016007 tw12481086445211941446 tw10895131069697898801 tw5122727741286605376 tw233333010517358182 tw10566385862036759458 tw14093484481764231088 tw12178832284084165115 tw3613446937245866280 tw17010370206908015752 tw17658546562747286770 tw13351572980716071041 tw13719729848252003096 tw18266117912275289831 tw1305456007199142578 tw13263648375484584811 tw13032357081918552973 tw9277234687419634679 tw11783491123461446742 tw14110079972545065966 tw3677909513168613144 tw18411088278344065838 tw8030691804687110911 tw3132427156223690870 tw4564155302904426784 tw17410606316791427815 tw14401408978806246948 tw6026583743549279902 tw3804283086974282634 tw15209221255648540322 tw11187349266320088600 tw7832376466389903505 tw7020180649214887485 tw5817535276110286337 tw11216953330625812341 tw8072175113551295264 tw3523700838257284841 tw10006595820408375638 tw5059128475384614479 tw8670730932742994615 tw15120385258798462321 tw13662191378621187103 tw14849757189912968765 tw9211762351306617400 tw10560613027425850403 tw4447529518008861959 tw3149160153773780251 tw4745465534693824538 tw6892638787600006408 tw5609349378938123125 tw9642144385764969272 tw12885987426069019553 tw15539708494072561137 tw2898662566898018749 tw1608111159992830720 tw16004777113473381092 tw17381708616470300358 tw6148112844032079802 tw17094539851026347625 tw13893558465212676144 tw3622292091077084467 tw13509468450312151748 tw7958441138881977204 tw8267928379902723251 tw5300286520980088846 tw17508085172379101208 tw13479393482317473652 tw11933279685386557893 tw15616465051296827063 tw12150507358460271 tw16691842962156686548 tw9279858664754646225 tw1347549129815896102 tw7285647767288015130 tw2967474848263085878 tw8807803759457327571 tw17275172720044694505 tw7170352420853397060 tw13372826972133359198 tw3997896068825002524 tw2253840687538206251 tw11172566308044392695 tw8136103740868810726 tw1856464860643795291 tw17783738181879638568 tw4802028819265990687 tw796069985090251059 tw2903143305080276017 tw8982893888143533016 tw2599522687595009417 tw10469235053066361743 tw11875130547475650150 tw17194098182357023049 tw1519181025651581470 tw15536229990543910857 tw1011537328643262184 tw15236030961581177635 tw848898099956512292 tw3291499829015355783 tw10481368507720724653 tw12626539364179395744 tw11835571495851480890 tw68695128225652065 tw6387333277944920028 tw12156530420841677200 tw5150021722583403169 tw1457296228765373108 tw11929925990838175993 tw16099606701233313032 tw16480307784891922726 tw12436513066292605172 tw487332870457925626 tw18326619820076700434 tw10849143741591910064 tw6376980064440618330 tw6899406494146901835 tw12567910742151123724 tw5562925215843519193 tw15803614053974497524 tw8248208130062760302 tw253071723372783235 tw12774340389612901451 tw8864018391432732490 tw8240795137846643318 tw3394127563410004076 tw7610074697659509090 tw17669017951931250070 tw12937365224810539756 tw7355786063955938802 tw3538317021281508866 tw3349913149086362227 tw12549554987168930982 tw8871336516328240544 tw9747975463400716938 tw5450774732838364775 tw7230020526943360980 tw9317337311273589297 tw18074922823737326827 tw2634057169534522504 tw14467281438696533967 tw11311940622638440850 tw17358957379765974049 tw13177379574115299961 tw783915208599480652 tw8018617261694694489 tw7462146972068411967 tw14861849033217281683 tw6332427807158186037 tw3808590601785770256 tw3074256587507239480 tw17284888244123226356 tw1781625567584788962 tw4906464150868559762 tw14639025767298687431 tw7990426249404163771 tw5169900104542815904 tw1291536440329789003 tw407444724370887537 tw3352110866913625216 tw17932938674584907241 tw16263699315036237134 tw1304404505134883316 tw17019327788370966306 tw14641190705042246150 tw4780536305937239064 tw1955550412080524908 tw15842821790082973426 tw15091864096423657666 tw8694050425688961552 tw8263883372405594040 tw1332594883945556428 tw493578247695768714 tw10494662218107326912 tw8147703904180575117 tw5271708658214389561 tw169817699621998522 tw14692903710555766696 tw18318186656465216540 tw2965792452736989688 tw13927787265242201198 tw440751645494456117 tw17079243062809160337 tw15216096613272902925 tw8010988215736323718 tw7579563134802141208 tw1988723868328770573 tw16161553425215396765 tw9490552263825555635 tw4332086222131884131 tw2072428101354744575 tw12574791381828866300 tw402545981207188367 tw14113698350043595597 tw7835521005592570875 tw14637886736429257702 tw18215828660552644089 tw11594689571521003535 tw9106235559240964127 tw6788619476944374965 tw14687792471379804351 tw16295984933421737772 tw7199592474607023446 tw17993684904331849342 tw14516517197088817182 tw13126102041118301609 tw7891867160232164984 tw4108380769129294267 tw15131378139288551954 tw3884501951640514332 tw6941957616894447897 tw16491594986334910852 tw10901203963881440417 tw16970494729190196988 tw12737598601546334981 tw15654462896644998432 tw7065414690295108374 tw5306867851151234292 tw8032698246467440735 tw10162616005972374061 tw11800410573233152824 tw6385343724572968161 tw18249266057032215435 tw18013243196785323552 tw4029242880117452706 tw1800126121400287547 tw9399150428550461036 tw14218376405766421960 tw5972843172047108098 tw16060105285221544150 tw4201674966724132535 tw16468475388700381452 tw896731781574901891 tw8024730119663851718 tw4829963830788217142 tw17177818984618052669 tw14491591844057214731 tw10217526809277435051 tw5372487779598592044 tw7004537183900496791 tw17610369825579193620 tw17760624647716480260 tw16202348157537579666 tw18377911082519432848 tw17037145017590957960 tw17967755194140199745 tw9407073322911996237 tw11576162227883691923 tw7305309116802191341 tw11224895674896960167 tw1659696701978867441 tw8250284534134694787 tw17434572447475831531 tw4815402463334961654 tw17512686866464026997 tw2346586444995600030 tw9002212543006735310 tw5496308011780862850 tw12332381279105139145 tw16693951090771400710 tw15717952351976890236 tw8008179157982383510 tw9731409631810414974 tw6404519743026582877 tw3692875680619768005 tw7192257339190218265 tw5378221486935418607 tw15565083447138765263 tw8195109050721968803 tw14561912486281738054 tw16388511745449193631 tw13099441227904534295 tw13155722527955081583 tw9283073221129393625 tw16774784005455348769 tw13846528104259410527 tw4779029218693895808 tw18343999866336261550 tw17367623837253393278 tw3113023745359222483 tw14056316783442355628 tw1523462894924164910 tw1134642953423623408 tw13835487214029918951 tw13366855874894952224 tw7676430100286796062 tw11060093660105129240 tw10265755258900849576 tw6891021962743290426 tw636518209014443067 tw9726961770409358304 tw8175673635362768620 tw8935164198894641214 tw7252527894223627930 tw16301537409484170114 tw12836226350063385907 tw10522042792100299905 tw18054621497263397472 tw6258786064297145833 tw18081731733433188713 tw16093318300099925819 tw5770615830839698140 tw12163460162461940177 tw18270130802399546592 tw15795587181785106521 tw1570689385102803566 tw7661617888354970552 tw17876345534277202197 tw15874299741306087958 tw15114089649714861591 tw15562723119924276371 tw4252984755740524373 tw13917763821149493128 tw12049902834404442000 tw4523897141962493158 tw10696770300785210561 tw14728441472955081221 tw11454340114916635559 tw10998396832668806277 tw1042762813607587412 tw10324534532251866608 tw7163834123705176247 tw822650900483509774 tw6705283915238747493 tw98363127307671125 tw8838348850856067896 tw3500724978115948650 tw18334731629178760144 tw16103164534207741405 tw1750224168013703060 tw9697525331705958337 tw7937703112977217040 tw7801118303390800920 tw6676013699738247963 tw5814694750720210787 tw17405646321120868877 tw13449301196819947297 tw18197202633902409160 tw9567628075633448237 tw884929887412402195 tw1235410842855240696 tw11268521427943679004 tw10714600817424761883 tw9434811563666007218 tw5678076361499725013 tw4965571721495906024 tw8781957088124764318 tw4485651502581299540 tw14921384112549174153 tw7149855628702501197 tw6753409001755281940 tw4208761697705098230 tw18390779778591652225 tw17855752030648487908 tw1558729225078730869 tw1392559423129522370 tw13521373546383297999 tw11469073957903599409 tw9040303007833505620 tw2220528103991439818 tw17973931100280959981 tw17379458947230223775 tw15208995251223973829 tw1964949148745132874 tw13526019766167318310 tw1669842118303300303 tw6917856804910245682 tw14969699987680882801 tw12723858430316967966 tw15547037045811908900 tw3377232645282823196 tw7051105125125187338 tw17903813505876564026 tw12321956430847679950 tw3055586214081024781 tw3327244145372719368 tw13236834143083150053 tw8904231628784911578 tw16293860404330816333 tw3234566056566036137 tw6112233261326710203 tw17313631050519413947 tw11023844558688433860 tw5845295778727838222 tw5078781365618276138 tw3616253351657415853 tw2899488388717555746 tw1532562768808727955 tw14312687537332135351 tw1526084540582276029 tw9847331168464359585 tw3294116231200985222 tw14925113261620114293 tw13317242835206544521 tw2231404387630780284 tw11393109593505457611 tw5120754977381266746 tw13173959783463958588 tw7553603309641513021 tw6973991533449517769 tw5913745383155151121 tw2588314832549512184 tw9052222340522229846 tw9667243524261696690 tw7075713875922247865 tw4181395207723782956 tw18322967402146917361 tw13077089952686756401 tw10184336565606368435 tw15056871218195679226 tw14302026384561738835 tw792431834710467360 tw6582460320042402237 tw8337085073153180189 tw8308439752952666951 tw8083028679970509541 tw5647816682030428425 tw4973537628522536549 tw454901611894705103 tw17259785183414004842 tw16327426378060556209 tw11746083815099367831 tw960904036575667093 tw8395385875153255842 tw5239702339504974587 tw4415283199007061898 tw17853666847227171312 tw17031360511633772157 tw14984078413019332078 tw16033230886375601705 tw7591931536809718659 tw5758677221539843756 tw388246450905428719 tw15900025555035585332 tw11816739108597225131 tw11023190758200847172 tw50828963839953197 tw6633063225958117499 tw661830298698771814 tw6260695869561581039 tw3238748026321589491 tw14962814822337283479 tw12666847992515284329 tw9448100469801269132 tw1728666883475954356 tw8274527607498850268 tw18305669687685325479 tw1490675653811919623 tw14193580367140298358 tw8967453436115309570 tw12239107197788615863 tw6925711697707043594 tw3830844608109223867 tw2323772610699712709 tw16192702653667768685 tw10613642297492569159 tw3851002848203394884 tw16122490901696096535 tw15888842323094316460 tw10416677913550357783 tw9523932704186758526 tw13883240801172273838 tw9573248101113976821 tw3763624119107492160 tw13144670672562796602 tw7425410078650403286 tw2959387337678432984 tw10474716500715753565 tw1387069327682746471 tw12370334698464122796 tw3860682179569340856 tw11248860815380386680 tw14735840896345885214 tw17591909962612449750 tw3496223537746213048 tw790791190121502506 tw8502648033004835992 tw11108407919254669618 tw10632421351012429636 tw11559057457801724718 tw17507001142782595742 tw13097652514609278215 tw9591221995615693610 tw5121310438143051403 tw13855965759504596507 tw8096188637923863062 tw15537136145277704027 tw13012740793187052359 tw9725930875848294022 tw2958163861859484650 tw1821057133600437615 tw11553609675558672409 tw8736958271610836860 tw2759755704787222456 tw1773158645853403052 tw12341487345930558833 tw11327597292997061160 tw9910110595645228918 tw5978160540982941238 tw4325278590183274045 tw9776010342168600332 tw9309729097201243976 tw7332161623244312035 tw14667944063024465624 tw11698717080982075714 tw1145613218962187674 tw18211495607764652765 tw17540136538206584534 tw14097236803827530902 tw8713538152001386542 tw2840885768824493006 tw14639952796339007522 tw18121105295610690755 tw17940962043684660935 tw5960424742327112779 tw750452713481745316 tw6421099758932017007 tw13492674227442002591 tw8268467102584256775 tw7219627743072583018 tw447159335595515208 tw1651735539533772977 tw17211971189730287885 tw15334602972454622177 tw7763519259196926930 tw14212345592339664967 tw11902134539531817608 tw14008380523292509765 tw14277341061497777004 tw4130333939337791339 tw11198882824894329269 tw6560029957788415075 tw9324418782498509185 tw6577135100247706434 tw2561125516651045313 tw11244265970408712794 tw6291518394132942244 tw2247687500852697972 tw8075073347025812969 tw9165117759673757841 tw5686599884040087854 tw12822390589003041968 tw5053102652152221940 tw6848319790715104683 tw564377950049632457 tw3530166666226935384 tw18053001267978941381 tw13049247901223660433 tw15845818329912412155 tw3703244498445213788 tw7315012450295401077 tw10619677523915039113 tw18323320104679460341 tw8685196103347060733 tw15259913020240196157 tw8896962831013050191 tw8508268386468418385 tw8273922740657960473 tw8081255316433436599 tw7965344211873027375 tw5116059994741750038 tw449399500907953777 tw2551479043700999044 tw15961361146043444781 tw15385790324738799258 tw13999641673156636002 tw12376733450049713134 tw1173297527843743274 tw9302034455773553152 tw15147364245327648939 tw195011835503917629 tw1167236008217965881 tw13348457047645593566 tw11511022819360426264 tw10922174493237999525 tw7676338878496715330 tw3244338345861581684 tw27381187159207631 tw17743151349757360075 tw16146929049117764921 tw15452144958225581029 tw14643379944937344774 tw14496462073694611619 tw1398832146369231167 tw13878076723287652292 tw13730888444768062331 tw11699052512906609689 tw10861468242835473440 tw10456042068439849993 tw14751455834809058661 tw1865451440559959793 tw9904290741831377927 tw8835517860714473112 tw601647921546849450 tw3865755879525720227 tw17995894470614310955 tw15952487990943684459 tw13754743270527843577 tw13405365519254899349 tw12336684479284627604 tw10787589940919449550 tw10103197027478723021 tw13940180769498387116 tw7646198295981160636 tw5164792789098280816 tw492248340188308031 tw2974331215946614812 tw1818361844822931203 tw17821994285111126026 tw14828661847375736836 tw13644070711052226930 tw11757264013303391116 tw9703801042980880326 tw8143763409021545857 tw6123449415700313305 tw4558157147343380184 tw4461205797793783747 tw370861392385566385 tw332513648561601294 tw3247595794823741889 tw18047539015464264388 tw16221995806575000872 tw15466627320811995439 tw11623292508367738879 tw10479218279288564735 tw7372470307386162426 tw16638651508124465328 tw7823337576021790384 tw8575344574655642907 tw7029471983658682574 tw14143369813255193224 tw13638539226327387552 tw11120564513557658456 tw10944508506324481903 tw14052336513802462368 tw9201200457991155373 tw1159508479330895863 tw8894296598431858997 tw7624916952149229449 tw7180758794832475773 tw17532044117869843193 tw9999587427758312301 tw8523252916216996760 tw8019633079921142122 tw6904297622764295750 tw6816372014461414265 tw6031449268787394183 tw5449997597541855561 tw5088887799793795413 tw4959282267836861163 tw373360691126118075 tw3715624585118694906 tw17526114374895175279 tw15526681072336873099 tw14665654564711371815 tw14354007296429298480 tw13495140104911254119 tw12662943773949126360 tw11686962862761140538 tw11240452428317770283 tw10535865715071250829 tw10347508772379657656 tw10334956291063451229 tw16163970602599698305 tw5522201166776592867 tw6796786061557569502 tw6503402647670635506 tw6251193142827834758 tw6139255922346394252 tw551050727098071636 tw5463633372880081001 tw4986416903882731728 tw4213329006549606496 tw3858702435193199853 tw3536528804930306509 tw2854323960308232696 tw2553951487128703058 tw18353833319441789595 tw18131101088969592761 tw15920382942359382064 tw15435556571112051483 tw14216471623656654389 tw14028349304655048062 tw12787472637025335397 tw12307916617719585264 tw9772989290521547775 tw9263994998708130123 tw9157097998829692251 tw5139780075343147192 tw4640519243985090227 tw3058609484204138317 tw217284100164507858 tw2032734201610290848 tw18239725422694921464:True)
namespace L2
open PySem PySem.W
theorem cut4 {α β : Type} (f : α → β) (l : List α) : l.map f = (l.take 200).map f ++ (((l.drop 200).take 200).map f ++ (((l.drop 400).take 200).map f ++ (l.drop 600).map f)) := by
  have e (n : Nat) : l.drop n = (l.drop n).take 200 ++ l.drop (n + 200) := by
    rw [← List.drop_drop, List.take_append_drop]
  rw [← List.map_append, ← List.map_append, ← List.map_append, ← e 400, ← e 200]
  exact congrArg _ (e 0)
abbrev OptObjs := List (Option Obj)
def sHook (K : Params → Frag) (as : List Addr) (e : ∀ P, as = (K P).map (·.1)) (ts : List Addr) : Hook := ⟨((OptObjs × OptObjs) × (OptObjs × OptObjs)) × OptObjs,
  fun s => ((((as.take 200).map s.heap.get?, ((as.drop 200).take 200).map s.heap.get?), (((as.drop 400).take 200).map s.heap.get?, (as.drop 600).map s.heap.get?)), ts.map s.heap.get?),
  fun w => (((((K w.params).take 200).map fun p => some p.2, (((K w.params).drop 200).take 200).map fun p => some p.2), ((((K w.params).drop 400).take 200).map fun p => some p.2, ((K w.params).drop 600).map fun p => some p.2)), ts.map fun _ => some (tabObj #[])),
  (kmHook K as e ts).says,
  fun w s x => (kmHook K as e ts).of w s (by
    obtain ⟨x1, x2⟩ := Prod.mk.inj x
    obtain ⟨x3, x4⟩ := Prod.mk.inj x1
    obtain ⟨a, b⟩ := Prod.mk.inj x3
    obtain ⟨c, d⟩ := Prod.mk.inj x4
    exact Prod.ext (by show as.map s.heap.get? = (K w.params).map _; rw [cut4 s.heap.get? as, cut4 _ (K w.params), a, b, c, d]) x2),
  (kmHook K as e ts).keeps⟩
theorem s_in_of {K : Params → Frag} {as : List Addr} {e : ∀ P, as = (K P).map (·.1)} {ts : List Addr} {w : World} {h : Heap} (Y : (sHook K as e ts).says w h) : (K w.params).In h := km_in_of (e := e) (as := as) (ts := ts) Y
end L2
section
open PySem PySem.W PyProof.Rows
local macro_rules | `(tactic| o_head (kmHook $k $a $e $t)) => `(tactic| o_head (L2.sHook $k $a $e $t))
local macro_rules | `(Hook.obs (L2.sHook $k $a $e $t)) => `(fun (s : PySem.Shared) => ((((($a : List PySem.Addr).take 200).map s.heap.get?, ((($a : List PySem.Addr).drop 200).take 200).map s.heap.get?), (((($a : List PySem.Addr).drop 400).take 200).map s.heap.get?, (($a : List PySem.Addr).drop 600).map s.heap.get?)), ($t : List PySem.Addr).map s.heap.get?))
local macro_rules | `(Hook.val (L2.sHook $k $a $e $t)) => `(fun (w : PySem.World) => ((((($k w.params).take 200).map fun (p : PySem.Addr × PySem.Obj) => some p.2, ((($k w.params).drop 200).take 200).map fun (p : PySem.Addr × PySem.Obj) => some p.2), (((($k w.params).drop 400).take 200).map fun (p : PySem.Addr × PySem.Obj) => some p.2, (($k w.params).drop 600).map fun (p : PySem.Addr × PySem.Obj) => some p.2)), ($t : List PySem.Addr).map fun _ => some (PySem.W.tabObj #[])))
set_option maxHeartbeats 0
open_top hd84 for PySem.Challenge.rw_lampway_k84_shortest_at_a_desk
end
set_option autoImplicit true
local macro_rules | `(tactic| ac_nf)=>`(tactic| decide +kernel)
local macro_rules | `(tactic| omega)=>`(tactic| first | with_reducible assumption | omega (splitDisjunctions := true))
open Array renaming eq_empty_of_size_eq_zero→UU,find?_toList→afw,getElem?_eq_getElem→ae_,getElem?_eq_none→Sp,getElem?_eq_some_iff→D',getElem?_toList→Rp,getElem_mem→afj,length_toList→zP,mem_toList_iff→Kz,size_append→SA,toList→Wh,toList_append→j7,toList_extract→acO,toList_inj→RH
open Bool renaming and_eq_true→iQ,and_false→A3,eq_false_iff→QG,eq_iff_iff→oE,false_and→tR,false_eq_true→wj,false_ne_true→fh,false_or→yE,not_eq_true'→XF,not_not→ags,not_true→aaa,or_eq_false_iff→zu,or_eq_true→Bk,or_false→ZX,or_true→IK,true_and→z7,true_or→FX
open Char renaming toNat→vT
open False renaming elim→jI
open ForInStep renaming yield→rF
open Function renaming comp→YX
open Int renaming add_assoc→aaV,add_emod_right→Tf,emod_eq_of_lt→pL,emod_lt_of_pos→sP,emod_nonneg→pd,le_max_left→T_,le_max_right→Sn,le_refl→oZ,le_trans→oe,max_eq_left→abT,natCast_add→ajW,sub_emod→PA,sub_self→Ry,toNat_natCast→Sm,toNat_of_nonneg→zS,zero_add→xM,zero_emod→M7
open Int.ofNat renaming inj→Ot
open List renaming all_cons→ac7,all_eq_true→qS,any_cons→xR,any_eq_false→UY,any_eq_true→EY,any_map→afx,append_assoc→tZ,append_inj'→agj,append_nil→me,append_of_mem→aj7,concat_eq_append→vy,cons_append→kn,contains_cons→y1,countP_cons→adN,countP_mono_left→ac9,drop_zero→abn,eq_nil_or_concat→uE,ext_getElem?→Np,extract→aad,filter→Wj,filterMap_append→ais,filterMap_cons→qT,filterMap_nil→adl,filter_append→xH,filter_cons→uQ,filter_cons_of_neg→aey,filter_cons_of_pos→agG,filter_nil→xc,find?→afh,find?_cons→vU,find?_eq_none→akd,flatMap_append→Mk,flatMap_cons→BJ,foldl_append→acA,foldl_cons→aal,getD→Rc,getD_eq_getElem?_getD→jx,getElem?_append_left→kq,getElem?_append_right→kd,getElem?_cons_succ→AH,getElem?_eq_getElem→cJ,getElem?_eq_none→xV,getElem?_eq_none_iff→Pd,getElem?_eq_some_iff→cV,getElem?_inj→Ma,getElem?_map→ec,getElem?_of_mem→q1,getElem?_range→AP,getElem?_set_ne→Jq,getElem?_set_self→Js,getElem?_take_of_lt→oK,getElem?_toArray→aeS,getElem_inj→ZG,getElem_map→sW,getElem_mem→zp,getElem_of_mem→OL,length→mP,length_append→dq,length_cons→dr,length_drop→tV,length_eq_zero_iff→uj,length_erase_of_mem→ahc,length_filter_le→o6,length_map→bb,length_nil→u5,length_pos_iff→yG,length_range→kS,length_reverse→ZA,length_singleton→v_,length_take→eX,lookup→nj,lookup_cons→nA,map→nf,map_append→eD,map_congr_left→agA,map_cons→dR,map_drop→Xj,map_flatMap→X9,map_map→jC,map_nil→mb,map_take→Dj,mem_append→hB,mem_append_left→sM,mem_append_right→jP,mem_cons→cX,mem_cons_of_mem→fk,mem_cons_self→hH,mem_filter→k1,mem_filterMap→Hk,mem_flatMap→qn,mem_map→da,mem_map_of_mem→Ex,mem_of_getElem?→d4,mem_of_mem_drop→aci,mem_of_mem_take→wt,mem_range→hZ,mem_singleton→fQ,nil_append→JV,nodup_append→JF,nodup_cons→iM,nodup_nil→zM,not_mem_nil→gP,of_mem_zip→OR,pairwise_iff_getElem→afK,range→dW,range_succ→oy,replicate→F9,reverse_cons→ajJ,set_cons_succ→ks,set_cons_zero→kv,size_toArray→eg,sum_append→acr,sum_cons→PB,take_add_one→i9,take_append_drop→Zs,take_length→jg,take_of_length_le→xY,take_sublist→abP
open List.Pairwise renaming nil→amY
open List.cons renaming inj→pe,injEq→FD
open Nat renaming le_add_right→DQ,le_of_eq→BI,le_of_lt→nu,le_of_not_lt→ahw,le_refl→bu,le_succ→vb,le_trans→b8,log2_lt→VG,lt_irrefl→lM,lt_of_le_of_lt→jV,lt_of_lt_of_le→h2,lt_or_ge→yy,lt_or_gt_of_ne→aiQ,lt_succ_of_lt→AJ,lt_succ_self→xv,lt_trans→Wg,min_eq_left→agM,mul_le_mul→aay,mul_le_mul_right→Te,ne_of_gt→sU,ne_of_lt→eb,not_lt_zero→D4,pow_le_pow_left→Va,pow_le_pow_right→NZ,reduceAdd→XR,reduceSub→ahW,sub_self→yZ,sub_zero→ahI,succ_mul→Dd,succ_ne_self→Sw,toDigits→u9,zero_add→Ls,zero_le→fL
open Ne renaming symm→c7
open Option renaming bind_some→Iu,getD_none→ab',isSome_iff_exists→abK,isSome_map→MC,map_eq_some_iff→UH,map_some→ER,none→ZK,toList→KL
open Option.some renaming inj→dj
open Or renaming inl→lY,inr→qI
open Prod renaming ext→LA
open Prod.mk renaming inj→TR,injEq→MS
open PyProof.Rows renaming callWith_builtin1→afV,callWith_type1→v',iadd_int→al6,slot_tuple_getitem→Ta,split_weight→agd
open PyProof.Rows.IsTup renaming new→Xi
open PySem renaming Within→BR,call→Ql,frameOf→E_,mem_of_lookup→Aa
open PySem.Around renaming under→QE,under_plainId→ai9
open PySem.AutoSeq1 renaming wpAny_loadPart'→NF
open PySem.Builtin.Builtins renaming bindParams→ajj
open PySem.Builtin.Dict renaming dictSlotNone→akV,entriesForEmpty→alg,merge→alA,mergeDict→ak9,quietEq→akI,readDirectly→ak',selfAndRest→akZ,showsAll→NP,updateFrom→XW
open PySem.Builtin.Dict_items renaming ownsTuple→aev
open PySem.Builtin.Frozenset renaming updateFrom→alS
open PySem.Builtin.List renaming listTooLong→N6
open PySem.Builtin.Range renaming rangeSize→ali
open PySem.Builtin.Slice renaming sliceAdjust→Qg,sliceApplied→adD,sliceFields→alr,slicePartIndex→ak6,slicePlaces→DM
open PySem.Builtin.SmallTypes renaming nextOf→ak2,stopIteration→al2
open PySem.Builtin.Str renaming occurrences→mn,partsBetween→Zd,strKind→VL,strSub→q8
open PySem.Builtin.Tuple renaming tupleExact→Kn,tupleHashOf→al1,tupleItemsOf→amP
open PySem.Calls renaming Constant_str→acD,Name_function_global→ajM,callWith_builtin→XJ
open PySem.CmpOp renaming NotIn→X'
open PySem.Code renaming frames→WG,isFrame→SU,quiet_builtin→Qu
open PySem.Data renaming cell→yw,fields→H6,seq→RB
open PySem.EntryCells renaming newEntry→afc
open PySem.EqMixed renaming eq_bool_str→als,eq_int_str→am0,eq_str_bool→ams,eq_str_int→alc,ne_bool_str→alU,ne_int_str→ak1,ne_str_bool→ala,ne_str_int→alf
open PySem.EqNone renaming eq_bool_none→alI,eq_int_none→alu,eq_none_bool→amo,eq_none_int→akT,eq_none_none→ak_,eq_none_str→alM,eq_str_none→amX,ne_bool_none→al_,ne_int_none→alK,ne_none_bool→alE,ne_none_int→amO,ne_none_none→alD,ne_none_str→akU,ne_str_none→amn
open PySem.F renaming args_dict_keyiterator_next_1→ajb,args_str_split_2→Lr,args_tuple_add_2→WQ,called_set→afT,entry_dict_keyiterator_next→U7,entry_max_loop→Wy,entry_str_split→N9,entry_tuple_add→ahQ,excBase_ValueError→WM,plainAttrs_list→m9,plainAttrs_str→sJ,plain_max_loop→wF,slot_dict_getitem→LR,slot_dict_iter→T2,slot_dict_keyiterator_next→Aq,slot_list_append→rX,slot_list_extend→Oq,slot_list_insert→VW,slot_list_reverse→Wk,slot_str_join→Fg,slot_str_partition→ab0,slot_str_split→zv,slot_tuple_add→YM,slot_tuple_iterator_next→ajd,type_list_append→uH,type_list_extend→akA,type_str_join→DY,type_str_split→VE
open PySem.Heap renaming ExtBut→W4,MadeExcOf→Xw,SameBut→qd,get?_none_of_le→Q2,get?_push_of_some→c6,get?_push_size→en,get?_update_other→jM,get?_update_self→lS,lt_size→cW,size_push→wV,size_update→X0
open PySem.Heap.IsSliceOf renaming new→amj
open PySem.Heap.Ns1 renaming of_empty→afp
open PySem.Heap.SameBut renaming update→EZ
open PySem.NameKind renaming cell→MD,free→o1
open PySem.NumText renaming digitsVal→R7
open PySem.Obj renaming data_mapDictKeys→X3,data_mapFields→Bo,isFreed_of_fields→NT,mapFields→nM,mapSeq→yC
open PySem.Paired renaming length→Gm,snoc→FT
open PySem.PassesOwn renaming never→hl
open PySem.SeqAt renaming EqAt→Vz
open PySem.SeqAt.EqAt renaming int_str→aeQ,str_int→Yu
open PySem.Shared renaming TypeIs→DF
open PySem.Str renaming cps_append→iR,empty→rx,join→dy,length→nJ,ofString→ag
open PySem.StrLaws renaming found_one→X2,glued_eq_join→CN,reprText_len→ama,sliceText→HJ,subAt_one→Sg
open PySem.Txt renaming join→uM,slice→ro,slice_le→yp,split→ha
open PySem.Value renaming bool→kT,builtin→t5,bytes→GU,float→Jt,int→nc,isInt→Yy,isStrOf→abh,isStrOf_shape→Zv,none→hg,ref→de,str→q4,type→wb
open PySem.W renaming Frag→a4,InitBack→Z4,InstAt→Ds,KeysLit→HK,Looks→I5,OpenLaw→V0,WalkO→ab8,any_some→zE,bind_fn→afS,callWith_K→xl,callWith_K0→RT,cellsFrom_some→adt,clsIn→ajx,cls_value→abl,codeIn→MT,emptyDict→i_,exmOne→Ab,findCls→X8,findIn→dB,fnOf→xS,handedIn→ahL,hasDictIn→zY,instObj→rB,isFn→Gn,keepIn→pJ,lookIn→zr,looks_clsIn→N5,looks_findIn→Ci,looks_mroIn→ah0,makesIn→YT,methodCall_KW→wh,methodObj→N1,method_cls→Yh,mroIn→xj,nsIn→ur,plainGet→HG,plainGet_of→Ni,plainOver→ahY,readsIn→acQ,set_plain→Xt,specialIn→tE,takerIn→Pl,takesIn→IZ,typeIn→T8
open PySem.W.KIN renaming signs_num→ab5
open PySem.W.Looks renaming here→ac',ld→alj
open PySem.W.WData renaming int→WN
open PySem.W.WShape renaming has→V_
open PySem.Walks renaming list→aiU
open PySem.Within renaming cons→aaC
open Std.Legacy.Range renaming forIn_eq_forIn_range'→alY
open Sum renaming inl→qk,inr→g9
open Sum.inr renaming inj→AI
open True renaming intro→ko
namespace L2
open PySem PySem.Spec PyProof.Rows
noncomputable abbrev Key:=Sum Int Str
noncomputable def uF:Key->Value->Bool
 | .inl k,v=>Yy k v
 | .inr x,v=>abh x v
noncomputable def aan (w:World):Key->Int
 | .inl k=>hashInt k
 | .inr x=>hashStr w x
theorem oS:∀ {k:Key} {v:Value},uF k v=true->(∃ i t,k=qk i/\v=nc i t)\/(∃ x t,k=g9 x/\v=q4 x t)
 | .inl i,v,h=>by
  obtain ⟨t,e⟩:=Value.isInt_shape (k:=i) (v:=v) h;exact .inl ⟨i,t,rfl,e⟩
 | .inr x,v,h=>by
  obtain ⟨t,e⟩:=Zv (x:=x) (v:=v) h;exact .inr ⟨x,t,rfl,e⟩
theorem Z3 (i:Int) (t:Tok):uF (.inl i) (.int i t)=true:=by simp [uF,Yy]
theorem acW (x:Str) (t:Tok):uF (.inr x) (.str x t)=true:=by simp [uF,abh]
theorem ag_ (a b:Int):decide ((qk a:Key)=qk b)=(a == b):=by
 by_cases e:a=b
 .subst e;simp
 .have h:¬ (qk a:Key)=qk b:=fun q=>e (Sum.inl.inj q)
  rw [decide_eq_false h];exact (beq_eq_false_iff_ne.mpr e).symm
theorem ajl (a b:Str):decide ((g9 a:Key)=g9 b)=decide (a=b):=by
 by_cases e:a=b
 .subst e;simp
 .have h:¬ (g9 a:Key)=g9 b:=fun q=>e (AI q)
  rw [decide_eq_false h,decide_eq_false e]
theorem YC (a:Int) (b:Str):decide ((qk a:Key)=g9 b)=false:=decide_eq_false (fun q=>nomatch q)
theorem WP (a:Str) (b:Int):decide ((g9 a:Key)=qk b)=false:=decide_eq_false (fun q=>nomatch q)
noncomputable def ig (prog:Program) (w:World):PySem.KeyKind prog w Key where
 is:=uF
 hash:=aan w
 inj:=fun v a b aO ab=>by
  rcases oS aO with ⟨i,t,rfl,rfl⟩ | ⟨x,t,rfl,rfl⟩
  .rcases oS ab with ⟨j,u,rfl,e⟩ | ⟨y,u,rfl,e⟩
   .injection e with aw _;rw [aw]
   .exact nomatch e
  .rcases oS ab with ⟨j,u,rfl,e⟩ | ⟨y,u,rfl,e⟩
   .exact nomatch e
   .injection e with aw _;rw [aw]
 byValue:=fun k v h=>by
  rcases oS h with ⟨i,t,rfl,rfl⟩ | ⟨x,t,rfl,rfl⟩ <;> rfl
 pyHash:=fun aU h=>by
  rcases oS aU with ⟨i,t,rfl,rfl⟩ | ⟨x,t,rfl,rfl⟩
  .exact wpAny_pyHash_int h
  .exact wpAny_pyHash_str h
 eqBool:=fun ba aU h=>by
  rcases oS ba with ⟨i,t,rfl,rfl⟩ | ⟨x,t,rfl,rfl⟩
  .rcases oS aU with ⟨j,u,rfl,rfl⟩ | ⟨y,u,rfl,rfl⟩
   .rw [ag_] at h;exact wpAny_eqBool_int h
   .rw [YC] at h;exact aeQ i t y u _ _ _ _ h
  .rcases oS aU with ⟨j,u,rfl,rfl⟩ | ⟨y,u,rfl,rfl⟩
   .rw [WP] at h;exact Yu x t j u _ _ _ _ h
   .rw [ajl] at h;exact wpAny_eqBool_str h
 «strs»:=fun k x t v h=>by
  rcases oS h with ⟨i,u,rfl,e⟩ | ⟨y,u,rfl,e⟩
  .exact nomatch e
  .injection e with aw _;subst aw;cases v <;> rfl
theorem VK (prog:Program) (w:World) (i:Int) (t:Tok):(ig prog w).is (.inl i) (.int i t)=true:=Z3 i t
theorem KB (prog:Program) (w:World) (x:Str) (t:Tok):(ig prog w).is (.inr x) (.str x t)=true:=acW x t
inductive V where
 | bT | bp (b:Bool) | int (i:Int) | str (x:Str) | j1 (b:Array UInt8) | tg (b:UInt64) | ref (a:Addr) | ty (n:String)
 deriving DecidableEq
noncomputable def bD:V->Value->Prop
 | .bT,u=>u=hg
 | .bp b,u=>u=kT b
 | .int i,u=>∃ t,u=nc i t
 | .str x,u=>∃ t,u=q4 x t
 | .j1 b,u=>∃ t,u=GU b t
 | .tg b,u=>∃ t,u=Jt b t
 | .ref a,u=>u=de a
 | .ty n,u=>u=wb n
noncomputable abbrev bN:List V->List Value->Prop:=Paired bD
theorem bN.length (r:bN xs us):xs.length=us.length:=Gm r
theorem bN.get:∀ {xs:List V} {us:List Value} {i:Nat} {x:V},bN xs us->xs[i]? = some x->∃ u,us[i]? = some u/\bD x u
 | _,_,_,_,.nil,e=>by simp at e
 | _,_,0,_,.cons r _,e=>by simp at e;subst e;exact ⟨_,rfl,r⟩
 | _,_,i + 1,x,.cons _ t,e=>by
  obtain ⟨u,af,ai⟩:=bN.get (i:=i) (x:=x) t (by simpa using e);exact ⟨u,by simpa using af,ai⟩
theorem bN.set {x:V} (r:bD x u):∀ {xs:List V} {us:List Value} (i:Nat),bN xs us->bN (xs.set i x) (us.set i u)
 | _,_,_,.nil=>.nil
 | _,_,0,.cons _ t=>.cons r t
 | _,_,i + 1,.cons q t=>.cons q (bN.set r i t)
theorem bN.append:∀ {xs ys:List V} {us ws:List Value},bN xs us->bN ys ws->bN (xs ++ ys) (us ++ ws)
 | _,_,_,_,.nil,s=>s
 | _,_,_,_,.cons r t,s=>.cons r (bN.append t s)
theorem bN.take:∀ {xs:List V} {us:List Value} (n:Nat),bN xs us->bN (xs.take n) (us.take n)
 | _,_,0,_=>.nil
 | _,_,_ + 1,.nil=>.nil
 | _,_,n + 1,.cons r t=>.cons r (bN.take n t)
theorem bN.drop:∀ {xs:List V} {us:List Value} (n:Nat),bN xs us->bN (xs.drop n) (us.drop n)
 | _,_,0,r=>r
 | _,_,_ + 1,.nil=>.nil
 | _,_,n + 1,.cons _ t=>bN.drop n t
noncomputable def hL:Option V->Option Value->Prop
 | some v,some u=>bD v u
 | none,none=>True
 | _,_=>False
noncomputable def hu {eY:Type}:List (eY × V)->List (eY × Value)->Prop:=Paired fun (p:eY × V) (q:eY × Value)=>p.1=q.1/\bD p.2 q.2
noncomputable def dO:Key->V
 | .inl i=>.int i
 | .inr x=>.str x
inductive ey where
  | lst (xs:List V)
  | tup (xs:List V)
  | dN (aE:List (Key × V)) | fU (aE:List (List Key × V))
  | set (S:Int->Bool) (n:Nat)
  | ins (C au:Addr) (aQ:List (Str × V))
  | own (x:Addr)
  | Ag (aQ:List (Str × V))
  | met (f x:Addr)
  | BB (lo aj:Int)
  | fe (o:Obj) (u:ey)
  | pn (ps:Array Value)
  | ext (sR:Heap->Prop)
noncomputable abbrev aq:=Addr->Option ey
noncomputable def upd (H:aq) (a:Addr) (o:ey):aq:=fun b=>if b=a then some o else H b
theorem aS:upd H a o a=some o:=by unfold upd;rw [if_pos rfl]
theorem aX (h:b ≠ a):upd H a o b=H b:=by unfold upd;rw [if_neg h]
theorem nk:upd (upd H a o) a u=upd H a u:=by
 funext b;unfold upd;split <;> rfl
theorem fb {H:aq} {a b:Addr} {o u:ey} (h:H a=some o) (h':H b=some u) (d:o ≠ u):a ≠ b:=by
 intro e;subst e;rw [h] at h';exact d (dj h')
theorem Db {H:aq} {a b:Addr} {o:ey} (h:H a=some o) (h':H b=none):a ≠ b:=by
 intro e;subst e;rw [h] at h';cases h'
section
variable (P:Program) (w:World)
noncomputable def dK (H:aq) (h:Heap) (a:Addr):ey->Prop
 | .lst xs=>xs.length <= sizeLine/\∃ (aI:List Value) (n:Nat),bN xs aI/\h.get? a=some { cls:=.type "list",data:=.seq aI.toArray n }
 | .tup xs=>(xs.length <= sizeLine/\∃ b2,h.get? a=some b2/\b2.dict=none)/\∃ aI:List Value,bN xs aI/\IsTup h a aI.toArray
 | .dN aE=>aE.length <= sizeLine/\(a == sysModules)=false/\∃ vs,hu aE vs/\h.DictOf (ig P w) a vs
 | .fU aE=>aE.length <= sizeLine/\(a == sysModules)=false/\∃ xs:List (List Key × Addr × Value),
   Paired (fun (p:List Key × V) (q:List Key × Addr × Value)=>p.1=q.1/\H q.2.1=some (.tup (p.1.map dO))/\bD p.2 q.2.2) aE xs /\
   ∃ o aF b5,h.get? a=some o/\o.ExactDict/\o.data=.dict aF b5/\aF.toList=xs.map (entryOfKey (tupleKind (ig P w)))/\(xs.map (·.1)).Nodup
 | .set S n=>h.SetOf (intKind P w) a S n
 | .ins C au aQ=>H au=some (.own a)/\aQ.length <= 1000/\au ≠ a/\h.get? a=some (rB C au) /\
   ∃ dt,h.Ns1 au dt/\(∀ f,hL (aQ.lookup f) (dt f))/\BR dt (aQ.map (·.1))
 | .own _=>∃ o,h.get? a=some o
 | .Ag aQ=>∃ dt,h.Ns1 a dt/\∀ f,hL (aQ.lookup f) (dt f)
 | .BB lo aj=>∃ t u v,h.get? a=some { cls:=.type "range",data:=.fields #[.int lo t,.int aj u,.int 1 v] }
 | .fe o u=>h.get? a=some o/\dK H h a u
 | .pn ps=>h.get? a=some { cls:=.none,data:=.fields ps }
 | .met f x=>h.get? a=some (N1 (.ref f) (.ref x))
 | .ext sR=>sR h/\(∃ o,h.get? a=some o)/\∀ af ai:Heap,sR af->(∀ o,af.get? a=some o->ai.get? a=some o)->sR ai
def dY (H:aq) (h:Heap):Prop:=∀ a o,H a=some o->dK P w H h a o
end
section
variable {P:Program} {w:World} {H I:aq} {h h':Heap} {a:Addr} {o:ey}
theorem dK.lt (x:dK P w H h a o):a < h.objs.size:=by
 cases o with
 | lst xs=>obtain ⟨_,_,_,_,e⟩:=x;exact cW e
 | tup xs=>obtain ⟨_,_,_,p⟩:=x;exact p.lt
 | dN aE=>obtain ⟨_,_,_,_,o,_,_,e,_⟩:=x;exact cW e
 | fU aE=>obtain ⟨_,_,_,_,o,_,_,e,_⟩:=x;exact cW e
 | set S n=>obtain ⟨o,_,_,_,e,_⟩:=x;exact cW e
 | ins C au aQ=>obtain ⟨_,_,_,e,_⟩:=x;exact cW e
 | own y=>obtain ⟨_,e⟩:=x;exact cW e
 | Ag aQ=>obtain ⟨_,⟨_,_,_,e,_⟩,_⟩:=x;exact cW e
 | BB lo aj=>obtain ⟨_,_,_,e⟩:=x;exact cW e
 | fe b2 u=>obtain ⟨e,_⟩:=x;exact cW e
 | pn ps=>exact cW (show h.get? a=some _ from x)
 | met f y=>exact cW (show h.get? a=some _ from x)
 | ext sR=>obtain ⟨_,⟨_,e⟩,_⟩:=x;exact cW e
theorem Paired.pf:∀ {l₁:List α} {l₂:List β},Paired F l₁ l₂->(∀ a b,F a b->G a b)->Paired G l₁ l₂
 | _,_,.nil,_=>.nil
 | _,_,.cons r t,f=>.cons (f _ _ r) (Paired.pf t f)
theorem dK.kG (x:dK P w H h a o) (k:∀ b u,(b=a\/H b=some (.own a))->h.get? b=some u->h'.get? b=some u)
  (aZ:∀ b,H b=some (.own a)->I b=some (.own a)) (cR:∀ b xs,H b=some (.tup xs)->I b=some (.tup xs)):dK P w I h' a o:=by
 induction o with
 | lst xs=>obtain ⟨z,aI,n,r,e⟩:=x;exact ⟨z,aI,n,r,k _ _ (.inl rfl) e⟩
 | tup xs=>obtain ⟨⟨z,ah6,agb,aa9⟩,aI,r,b2,e,c⟩:=x;exact ⟨⟨z,ah6,k _ _ (.inl rfl) agb,aa9⟩,aI,r,b2,k _ _ (.inl rfl) e,c⟩
 | dN aE=>obtain ⟨z,y,vs,r,b2,aF,b5,e,c⟩:=x;exact ⟨z,y,vs,r,b2,aF,b5,k _ _ (.inl rfl) e,c⟩
 | fU aE=>
  obtain ⟨z,y,xs,r,b2,aF,b5,e,c⟩:=x;exact ⟨z,y,xs,Paired.pf r fun p q z=>⟨z.1,cR _ _ z.2.1,z.2.2⟩,b2,aF,b5,k _ _ (.inl rfl) e,c⟩
 | set S n=>obtain ⟨b2,aF,b5,t,e,c⟩:=x;exact ⟨b2,aF,b5,t,k _ _ (.inl rfl) e,c⟩
 | ins C au aQ=>
  obtain ⟨d,z,ne,e,dt,⟨a',aF,b5,az,c⟩,r⟩:=x;exact ⟨aZ _ d,z,ne,k _ _ (.inl rfl) e,dt,⟨a',aF,b5,k _ _ (.inr d) az,c⟩,r⟩
 | own y=>obtain ⟨b2,e⟩:=x;exact ⟨b2,k _ _ (.inl rfl) e⟩
 | Ag aQ=>obtain ⟨dt,⟨a',aF,b5,e,c⟩,r⟩:=x;exact ⟨dt,⟨a',aF,b5,k _ _ (.inl rfl) e,c⟩,r⟩
 | BB lo aj=>obtain ⟨t,u,v,e⟩:=x;exact ⟨t,u,v,k _ _ (.inl rfl) e⟩
 | fe b2 u a_=>obtain ⟨e,q⟩:=x;exact ⟨k _ _ (.inl rfl) e,a_ q⟩
 | pn ps=>
  have e:h.get? a=some { cls:=.none,data:=.fields ps }:=x;show h'.get? a=some { cls:=.none,data:=.fields ps };exact k a _ (.inl rfl) e
 | met f y=>
  have e:h.get? a=some (N1 (.ref f) (.ref y)):=x;show h'.get? a=some (N1 (.ref f) (.ref y));exact k a _ (.inl rfl) e
 | ext sR=>obtain ⟨p,⟨o,e⟩,st⟩:=x;exact ⟨st _ _ p fun o q=>k _ _ (.inl rfl) q,⟨o,k _ _ (.inl rfl) e⟩,st⟩
theorem dY.lt (x:dY P w H h) (e:H a=some o):a < h.objs.size:=(x a o e).lt
theorem dY.fresh (x:dY P w H h) (e:h.objs.size <= a):H a=none:=by
 cases q:H a with
 | none=>rfl
 | some u=>exact absurd (h2 (x.lt q) e) (lM _)
theorem dY.kept (x:dY P w H h) (k:∀ b u,h.get? b=some u->h'.get? b=some u):dY P w H h':=fun a o e=>
 (x a o e).kG (fun b u _ q=>k b u q) (fun _ q=>q) fun _ _ q=>q
theorem dY.laid (x:dY P w H h) (k:∀ b u,h.get? b=some u->h'.get? b=some u) (ao:h.objs.size <= a) (new:dK P w (upd H a o) h' a o):dY P w (upd H a o) h':=fun b u e=>by
 have aH:=x.fresh ao;by_cases ab:b=a
 .subst ab;rw [aS] at e;cases e;exact new
 .rw [aX ab] at e;exact (x b u e).kG (fun c v _ q=>k c v q) (fun c q=>by rw [aX (Db q aH)];exact q) fun c xs q=>by rw [aX (Db q aH)];exact q
end
def lx (H:aq) (a:Addr) (u:ey):Prop:=H a=some u\/∃ o,H a=some (.fe o u)
theorem lx.ok {w:World} {h:Heap} (r:lx H a u) (x:dY P w H h):dK P w H h a u:=by
 rcases r with r | ⟨o,r⟩
 .exact x a u r
 .obtain ⟨_,q⟩:=x a _ r;exact q
noncomputable def lu:Option ey->Prop
 | some (.lst _)=>True
 | some (.dN _)=>True
 | some (.fU _)=>True
 | some (.set _ _)=>True
 | some (.ins _ _ _)=>True
 | some (.ext _)=>True
 | _=>False
section
variable {P:Program} {w:World} {H:aq} {h h':Heap} {x e:Addr} {cM:ey}
theorem dY.write (ok:dY P w H h) (eO:lu (H x)) (he:e=x\/H e=some (.own x)) (k:∀ b u,b ≠ e->h.get? b=some u->h'.get? b=some u) (s9:∃ u,h'.get? e=some u)
  (new:dK P w (upd H x cM) h' x cM):dY P w (upd H x cM) h':=fun b u q=>by
 have yM:∀ c y,H c=some (.own y)->c ≠ x:=fun c y r z=>by subst z;rw [r] at eO;exact eO
 have HP:∀ c xs,H c=some (.tup xs)->c ≠ x:=fun c xs r z=>by subst z;rw [r] at eO;exact eO
 by_cases ab:b=x
 .subst ab;rw [aS] at q;cases q;exact new
 .rw [aX ab] at q;by_cases q':b=e
  .have cS:H b=some (.own x):=by
    rcases he with z | z
    .exact absurd (q'.trans z) ab
    .rw [q'];exact z
   rw [q] at cS;cases cS;obtain ⟨v,aU⟩:=s9;exact ⟨v,by rw [q'];exact aU⟩
  .refine (ok b u q).kG (fun c v ar r=>k c v ?_ r) (fun c r=>by rw [aX (yM c b r)];exact r) fun c xs r=>by rw [aX (HP c xs r)];exact r
   rcases ar with rfl | ar
   .exact q'
   .rintro rfl;rcases he with z | z
    .exact yM c b ar z
    .rw [ar] at z;cases z;exact ab rfl
end
structure gq (aQ ex:List Addr) (H I:aq) (h h':Heap):Prop where
 keep:∀ b o,h.get? b=some o->H b=none->b ∉ aQ->b ∉ ex->h'.get? b=some o
 slot:∀ b o,h.get? b=some o->H b=none->b ∈ aQ->b ∉ ex->∃ bE,h'.get? b=some { o with slots:=bE }
 free:∀ b o,h.get? b=some o->H b=none->b ∉ ex->I b=none
 there:∀ b o,h.get? b=some o->b ∉ ex->∃ cM,h'.get? b=some cM
 lZ:∀ b xs,H b=some (.tup xs)->I b=some (.tup xs)
 ki:∀ b o u,H b=some (.fe o u)->I b=some (.fe o u)
 mc:∀ b ps,H b=some (.pn ps)->∃ more,I b=some (.pn (ps ++ more))
section
variable {aQ mZ ex ak3:List Addr} {H H1 ay:aq} {h af ai h':Heap} {a x e:Addr} {o:ey}
theorem gq.any (u:gq aQ ex H H1 h af) (q:h.get? b=some b2) (n:H b=none) (ak:b ∉ ex):∃ bE,af.get? b=some { b2 with slots:=bE }:=by
 by_cases ab:b ∈ aQ
 .exact u.slot b b2 q n ab ak
 .exact ⟨b2.slots,u.keep b b2 q n ab ak⟩
theorem gq.kept (k:∀ b u,h.get? b=some u->h'.get? b=some u):gq aQ ex H H h h':=
 ⟨fun b b2 q _ _ _=>k b b2 q,fun b b2 q _ _ _=>⟨b2.slots,k b b2 q⟩,fun _ _ _ n _=>n,fun b b2 q _=>⟨b2,k b b2 q⟩,fun _ _ q=>q,fun _ _ _ q=>q,fun _ ps q=>⟨#[],by rw [q];simp⟩⟩
theorem gq.refl:gq aQ ex H H h h:=gq.kept fun _ _ q=>q
theorem gq.laid (k:∀ b u,h.get? b=some u->h'.get? b=some u) (ao:h.objs.size <= a) (aH:H a=none):gq aQ ex H (upd H a o) h h' where
 keep:=fun b u q _ _ _=>k b u q
 slot:=fun b u q _ _ _=>⟨u.slots,k b u q⟩
 free:=fun b u q n _=>by rw [aX (eb (h2 (cW q) ao))];exact n
 there:=fun b u q _=>⟨u,k b u q⟩
 lZ:=fun b xs q=>by rw [aX (Db q aH)];exact q
 ki:=fun b u xs q=>by rw [aX (Db q aH)];exact q
 mc:=fun b ps q=>⟨#[],by rw [aX (Db q aH),q];simp⟩
theorem gq.write (eO:lu (H x)) (he:e=x\/H e=some (.own x)) (k:∀ b u,b ≠ e->h.get? b=some u->h'.get? b=some u) (s9:∃ u,h'.get? e=some u):gq aQ ex H (upd H x o) h h':=by
 have ak:∀ b,H b=none->b ≠ x:=fun b n z=>by subst z;rw [n] at eO;exact eO
 have ab:∀ b,H b=none->b ≠ e:=fun b n z=>by
  subst z;rcases he with r | r
  .exact ak b n r
  .rw [n] at r;cases r
 have hm:∀ b u,H b=some u->¬ lu (some u)->b ≠ x:=fun b u q nm z=>by subst z;rw [q] at eO;exact nm eO
 refine ⟨fun b u q n _ _=>k b u (ab b n) q,fun b u q n _ _=>⟨u.slots,k b u (ab b n) q⟩,fun b u q n _=>by rw [aX (ak b n)];exact n,fun b u q _=>?_,
  fun b xs q=>by rw [aX (hm b _ q fun z=>z)];exact q,fun b u xs q=>by rw [aX (hm b _ q fun z=>z)];exact q,fun b ps q=>⟨#[],by rw [aX (hm b _ q fun z=>z),q];simp⟩⟩
 by_cases q':b=e
 .subst q';exact s9
 .exact ⟨u,k b u q' q⟩
end
noncomputable def zX (h:Heap) (H:aq):List Addr:=(dW h.objs.size).filter fun a=>(H a).isSome
noncomputable def oA (h:Heap) (H:aq):Heap:=PySem.W.hideAll h (zX h H)
theorem WF (h:Heap) (H:aq):(oA h H).objs.size=h.objs.size:=PySem.W.hideAll_size _ _
theorem ahe {h:Heap} (e:h.get? b=some o) (n:H b=none):(oA h H).get? b=some o:=
 PySem.W.hideAll_get _ e fun hm=>by
  have q:(H b).isSome=true:=(k1.mp hm).2;rw [n] at q;simp at q
theorem aeb {h:Heap} (e:(oA h H).get? b=some o):h.get? b=some o/\H b=none:=by
 have cy:h.get? b=some o:=PySem.W.of_hideAll (zX h H) e;refine ⟨cy,?_⟩;cases q:H b with
 | none=>rfl
 | some x=>
  have hm:b ∈ zX h H:=k1.mpr ⟨hZ.mpr (cW cy),by simp [q]⟩;have z:(oA h H).get? b=none:=PySem.W.hideAll_none (zX h H) hm;rw [z] at e;cases e
noncomputable def aeT (g h:Heap) (L:Addr):List (Addr × Obj):=(dW h.objs.size).filterMap fun a=>if a=L\/(g.get? a).isSome=true then none else (h.get? a).map fun o=>(a,o)
noncomputable def rest (g h:Heap) (L d:Addr):List (Addr × Obj):=(aeT g h L).filter fun p=>decide (p.1 ≠ d)
structure Mod (K:a4) (ah:Str->Option Value) (base:Heap):Prop where
 o4:K.In base
 glob:base.Ns mainGlobals ah
 blt:∃ lb,base.Ns builtinsNs lb/\∀ x:Str,x ≠ "__name__" -> lb x=bootBuiltins x
 nolimit:base.NoLimit
structure aP where
 prog:Program
 w:World
 K:a4
 ah:Str->Option Value
 base:Heap
 A:Around
 N:List Str
 eA:Shared
 tC:aq
 env:Env
 outer:List Env
 stack:List Env
 ex:List Addr
 fn:Str->Bool
 calm:Bool
 h8:List (Addr × Obj)
 cK:Value->Shared->Prop
noncomputable def g_ (l:List Env):List Addr:=l.filterMap (·.frame)
noncomputable abbrev aP.aQ (X:aP):List Addr:=g_ X.outer
def w7 (sc:Scope) (x:Str):Prop:=sc.names.lookup x=some .local\/sc.names.lookup x=some .cell\/sc.names.lookup x=some .free
def Loc (sc:Scope) (x:Str):Prop:=sc.names.lookup x=some .local\/sc.names.lookup x=some .cell
def ab4 (env:Env) (h:Heap) (m:Str->Option Value) (x:Str) (u:Value):Prop:=
 (env.kindOf x=some .local/\m x=some u)\/((env.kindOf x=some .cell\/env.kindOf x=some .free)/\∃ c,env.cells.lookup x=some c/\h.IsCell c (some u))
structure aP.Ok (X:aP):Prop where
 mod:Mod X.K X.ah X.base
 kind:X.env.scope.kind=.function
 glob:X.env.globals=mainGlobals
 blt:X.env.builtins=builtinsNs
 above:X.eA.heap.objs.size <= X.env.locals
 inj:∀ x y c,X.env.cells.lookup x=some c->X.env.cells.lookup y=some c->x=y
 has:∀ x,(X.env.kindOf x=some .cell\/X.env.kindOf x=some .free)->∃ c,X.env.cells.lookup x=some c
 oz:∀ x c,X.fn x=true->X.env.cells.lookup x=some c->X.eA.heap.objs.size <= c
 hd:X.calm=true->X.A.handled=none
 frames:X.A.frames=some X.stack
 o3:X.stack=X.outer\/(X.stack=X.env :: X.outer/\X.env.frame=some X.env.locals)
 tN:∀ b ∈ X.ex,b ≠ X.env.locals/\∀ x c,X.env.cells.lookup x=some c->c ≠ b
 bs:∀ b o,X.base.get? b=some o->X.eA.heap.get? b=some o/\X.tC b=none
 jq:X.base.objs.size <= X.eA.heap.objs.size
 oF:∀ b o,X.base.get? b=some o->b ∉ X.ex
 nF:∀ b ∈ X.ex,b ∉ X.aQ
 iD:X.eA.heap.FunFrames X.base X.outer
 kc:∀ b ∈ X.aQ,X.tC b=none
structure Inv (X:aP) (aa:List (Addr × Obj)) (σ:List (Option V)) (H:aq) (s:Shared):Prop where
 ok:X.Ok
 os:s.os=X.eA.os
 bare:AllBare s.gens
 base:gq X.aQ X.ex X.tC H X.eA.heap s.heap
 loc:∃ m,s.heap.Ns X.env.locals m/\∀ (i:Nat) (x:Str) (v:V),X.N[i]? = some x->σ[i]? = some (some v)->w7 X.env.scope x->∃ u,bD v u/\ab4 X.env s.heap m x u
 cell:∀ x c,X.env.cells.lookup x=some c->∃ v,s.heap.IsCell c v
 free:H X.env.locals=none
 iK:∀ x c,X.env.cells.lookup x=some c->H c=none
 pin:∀ p ∈ X.h8 ++ aa,s.heap.get? p.1=some p.2/\H p.1=none/\p.1 ≠ X.env.locals/\p.1 ∉ X.aQ/\∀ v,p.2.data ≠ .cell v
 a6:dY X.prog X.w H s.heap
 len:σ.length=X.N.length
section
variable {X:aP} {aa:List (Addr × Obj)} {σ:List (Option V)} {H I:aq} {s:Shared} {h':Heap}
theorem aP.Ok.wJ (ok:X.Ok) (e:X.base.get? b=some o):b ∉ X.aQ:=fun ab=>by
 have:=(ok.iD.mem ab).1;rw [e] at this;cases this
theorem Inv.bs (J:Inv X aa σ H s):∀ b o,X.base.get? b=some o->s.heap.get? b=some o/\H b=none:=fun b o e=>
 ⟨J.base.keep b o (J.ok.bs b o e).1 (J.ok.bs b o e).2 (J.ok.wJ e) (J.ok.oF b o e),J.base.free b o (J.ok.bs b o e).1 (J.ok.bs b o e).2 (J.ok.oF b o e)⟩
theorem Inv.cq (J:Inv X aa σ H s):∀ b o,X.base.get? b=some o->s.heap.get? b=some o:=fun b o e=>(J.bs b o e).1
theorem Inv.mod (J:Inv X aa σ H s):Mod X.K X.ah X.base:=J.ok.mod
theorem Inv.ep (J:Inv X aa σ H s):X.K.In s.heap:=J.ok.mod.o4.keeps J.cq
theorem Inv.fr (J:Inv X aa σ H s):∃ m,Fr X.base X.env.locals s.heap m:=
 let ⟨m,aH,_⟩:=J.loc
 ⟨m,aH,J.cq,b8 J.ok.jq J.ok.above⟩
theorem Inv.lt (J:Inv X aa σ H s):X.env.locals < s.heap.objs.size:=let ⟨_,aH,_⟩:=J.loc;aH.lt
theorem Inv.gj (J:Inv X aa σ H s):X.eA.heap.objs.size <= s.heap.objs.size:=b8 J.ok.above (nu J.lt)
theorem Inv.Ie (J:Inv X aa σ H s) (h:s.heap.objs.size <= a):a ∉ X.aQ:=fun ab=>by
 obtain ⟨_,o,aZ,_⟩:=J.ok.iD.mem ab;exact absurd (h2 (cW aZ) (b8 J.gj h)) (lM _)
theorem Inv.oP (J:Inv X aa σ H s):∀ x c,X.env.cells.lookup x=some c->c ≠ X.env.locals:=fun x c e z=>by
 obtain ⟨v,o,aZ,hd⟩:=J.cell x c e;obtain ⟨m,⟨cM,aF,b5,oi,rC,_⟩,_⟩:=J.loc;rw [z,oi] at aZ;cases aZ;rw [rC] at hd;cases hd
theorem Inv.iD (J:Inv X aa σ H s):s.heap.FunFrames X.base X.outer:=by
 have all:∀ (l:List Env),(∀ b ∈ g_ l,b ∈ X.aQ)->X.eA.heap.FunFrames X.base l->s.heap.FunFrames X.base l:=by
  intro l
  induction l with
  | nil=>intro _ _;trivial
  | cons env r a_=>
   intro aG ax;obtain ⟨aJ,⟨L,o,hf,aH,aZ,hd⟩,av⟩:=ax;have iq:L ∈ X.aQ:=aG L (by unfold g_;rw [qT,hf];exact hH);obtain ⟨bE,e⟩:=J.base.slot L o aZ (J.ok.kc L iq) iq fun z=>J.ok.nF L z iq
   exact ⟨aJ,⟨L,_,hf,aH,e,hd⟩,a_ (fun b ab=>aG b (by unfold g_;rw [qT,hf];exact fk _ ab)) av⟩
 exact all X.outer (fun _ ab=>ab) J.ok.iD
theorem Inv.stack (J:Inv X aa σ H s):s.heap.FunFrames X.base X.stack:=by
 rcases J.ok.o3 with e | ⟨e,hf⟩
 .rw [e];exact J.iD
 .rw [e];obtain ⟨m,aH,_⟩:=J.loc;refine .cons (by rw [J.ok.kind];decide) hf aH ?_ J.iD;exact Q2 (b8 J.ok.jq J.ok.above)
theorem Inv.vK (J:Inv X aa σ H s):∀ b ∈ g_ X.stack,b ∈ X.env.locals :: X.aQ:=fun b ab=>by
 rcases J.ok.o3 with e | ⟨e,hf⟩
 .rw [e] at ab;exact fk _ ab
 .rw [e] at ab;unfold g_ at ab;rw [qT,hf] at ab;exact ab
theorem Inv.zc (J:Inv X aa σ H s):∀ b ∈ g_ X.stack,H b=none:=fun b ab=>by
 rcases cX.mp (J.vK b ab) with e | ab
 .rw [e];exact J.free
 .obtain ⟨_,o,aZ,_⟩:=J.ok.iD.mem ab;exact J.base.free b o aZ (J.ok.kc b ab) fun z=>J.ok.nF b z ab
theorem Inv.step {g':Array GenState} {t':Nat} {d':Drawn} {ch:List Addr} (J:Inv X aa σ H s)
  (nx:∀ b ∈ ch,(b ∈ X.ex\/X.eA.heap.objs.size <= b)/\b ≠ X.env.locals/\(∀ x c,X.env.cells.lookup x=some c->c ≠ b)/\∀ p ∈ X.h8 ++ aa,p.1 ≠ b)
  (keep:∀ b o,b ≠ X.env.locals->b ∉ X.aQ->b ∉ ch->s.heap.get? b=some o->H b=none->h'.get? b=some o)
  (slot:∀ b o,b ≠ X.env.locals->b ∈ X.aQ->b ∉ ch->s.heap.get? b=some o->H b=none->∃ bE,h'.get? b=some { o with slots:=bE }) (free:∀ b o,b ∉ ch->s.heap.get? b=some o->H b=none->I b=none)
  (there:∀ b o,b ∉ ch->s.heap.get? b=some o->∃ cM,h'.get? b=some cM)
  (lZ:∀ b xs,H b=some (.tup xs)->I b=some (.tup xs)) (ki:∀ b o u,H b=some (.fe o u)->I b=some (.fe o u)) (mc:∀ b ps,H b=some (.pn ps)->∃ more,I b=some (.pn (ps ++ more)))
  (ns:∀ m,s.heap.Ns X.env.locals m->h'.Ns X.env.locals m) (a6:dY X.prog X.w I h') (bj:AllBare g') :
  Inv X aa σ I { s with heap:=h',gens:=g',drawn:=d',toks:=t' }:=by
 have uP:∀ b o,X.eA.heap.get? b=some o->b ≠ X.env.locals:=fun b o e=>eb (h2 (cW e) J.ok.above)
 have Cz:∀ b o,X.eA.heap.get? b=some o->b ∉ X.ex->b ∉ ch:=fun b o e ak ab=>by
  rcases (nx b ab).1 with z | z
  .exact ak z
  .exact absurd (h2 (cW e) z) (lM _)
 have cellK:∀ x c,X.env.cells.lookup x=some c->∀ v,s.heap.IsCell c v->h'.IsCell c v:=fun x c e v ⟨o,aZ,hd⟩=>by
  have vD:c ∉ ch:=fun z=>(nx c z).2.2.1 x c e rfl
  by_cases ar:c ∈ X.aQ
  .obtain ⟨bE,q⟩:=slot c o (J.oP x c e) ar vD aZ (J.iK x c e);exact ⟨_,q,hd⟩
  .exact ⟨o,keep c o (J.oP x c e) ar vD aZ (J.iK x c e),hd⟩
 refine ⟨J.ok,J.os,bj,⟨fun b o e n ab ak=>?_,fun b o e n ab ak=>?_,fun b o e n ak=>?_,fun b o e ak=>?_,fun b xs e=>lZ b xs (J.base.lZ b xs e),fun b o xs e=>ki b o xs (J.base.ki b o xs e),fun b ps e=>?_⟩,?_,fun x c e=>?_,?_,fun x c e=>?_,fun p ao=>?_,a6,J.len⟩
 .exact keep b o (uP b o e) ab (Cz b o e ak) (J.base.keep b o e n ab ak) (J.base.free b o e n ak)
 .obtain ⟨bE,aw⟩:=J.base.slot b o e n ab ak;obtain ⟨z6,az⟩:=slot b _ (uP b o e) ab (Cz b o e ak) aw (J.base.free b o e n ak);exact ⟨z6,az⟩
 .obtain ⟨cM,aw⟩:=J.base.there b o e ak;exact free b cM (Cz b o e ak) aw (J.base.free b o e n ak)
 .obtain ⟨cM,aw⟩:=J.base.there b o e ak;exact there b cM (Cz b o e ak) aw
 .obtain ⟨qA,aw⟩:=J.base.mc b ps e;obtain ⟨tp,az⟩:=mc b _ aw;exact ⟨qA ++ tp,by rw [az,Array.append_assoc]⟩
 .obtain ⟨m,aH,ax⟩:=J.loc;refine ⟨m,ns m aH,fun i x v aw az bW=>?_⟩;obtain ⟨u,r,l⟩:=ax i x v aw az bW;refine ⟨u,r,?_⟩;rcases l with l | ⟨k,c,e,z⟩
  .exact .inl l
  .exact .inr ⟨k,c,e,cellK x c e _ z⟩
 .obtain ⟨v,z⟩:=J.cell x c e;exact ⟨v,cellK x c e v z⟩
 .obtain ⟨m,⟨o,_,_,aZ,_⟩,_⟩:=J.loc;exact free _ o (fun z=>(nx _ z).2.1 rfl) aZ J.free
 .obtain ⟨v,o,aZ,hd⟩:=J.cell x c e;exact free c o (fun z=>(nx c z).2.2.1 x c e rfl) aZ (J.iK x c e)
 .obtain ⟨e,n,ne,jL,d⟩:=J.pin p ao;have vD:p.1 ∉ ch:=fun z=>(nx p.1 z).2.2.2 p ao rfl
  exact ⟨keep p.1 p.2 ne jL vD e n,free p.1 p.2 vD e n,ne,jL,d⟩
theorem Inv.un {t':Nat} (J:Inv X aa σ H s) (u:gq X.aQ [] H I s.heap h') (a6:dY X.prog X.w I h'):Inv X aa σ I { s with heap:=h',toks:=t' }:=by
 obtain ⟨m,⟨o,aF,b5,aZ,r⟩,_⟩:=id J.loc;obtain ⟨bE,iq⟩:=u.any aZ J.free (by simp);exact J.step (g':=s.gens) (d':=s.drawn) (ch:=[]) (fun _ z=>nomatch z) (fun b o _ ab _ e n=>u.keep b o e n ab (by simp)) (fun b o _ ab _ e n=>u.slot b o e n ab (by simp)) (fun b o _ e n=>u.free b o e n (by simp)) (fun b o _ e=>u.there b o e (by simp)) u.lZ u.ki u.mc (fun c2 hm=>by
  obtain ⟨cM,FO,rK,oi,d1⟩:=hm;rw [aZ] at oi;cases oi;exact ⟨_,FO,rK,iq,d1⟩) a6 J.bare
theorem Inv.call {g':Array GenState} {t':Nat} {d':Drawn} {ch:List Addr} (J:Inv X aa σ H s) (u:gq (g_ X.stack) ch H I s.heap h') (a6:dY X.prog X.w I h') (bj:AllBare g')
  (nx:∀ b ∈ ch,(b ∈ X.ex\/X.eA.heap.objs.size <= b)/\b ≠ X.env.locals/\(∀ x c,X.env.cells.lookup x=some c->c ≠ b)/\∀ p ∈ X.h8 ++ aa,p.1 ≠ b) :
  Inv X aa σ I { s with heap:=h',gens:=g',drawn:=d',toks:=t' }:=by
 obtain ⟨m,⟨o,aF,b5,aZ,r⟩,_⟩:=id J.loc;obtain ⟨bE,iq⟩:=u.any aZ J.free fun z=>(nx _ z).2.1 rfl
 exact J.step (ch:=ch) nx (fun b o iq ab ar e n=>u.keep b o e n (fun z=>(cX.mp (J.vK b z)).elim iq ab) ar) (fun b o _ _ ar e n=>u.any e n ar) (fun b o ar e n=>u.free b o e n ar) (fun b o ar e=>u.there b o e ar) u.lZ u.ki u.mc (fun c2 hm=>by
  obtain ⟨cM,FO,rK,oi,d1⟩:=hm;rw [aZ] at oi;cases oi;exact ⟨_,FO,rK,iq,d1⟩) a6 bj
theorem Inv.turned {t':Nat} {it:Addr} (J:Inv X aa σ H s) (k:∀ b o,b ≠ it->s.heap.get? b=some o->h'.get? b=some o) (aH:H it=none) (iq:it ≠ X.env.locals)
  (af:it ∈ X.ex\/X.eA.heap.objs.size <= it) (ai:∀ x c,X.env.cells.lookup x=some c->c ≠ it) (br:∀ p ∈ X.h8 ++ aa,p.1 ≠ it):Inv X aa σ H { s with heap:=h',toks:=t' }:=by
 have wa:∀ b u,H b=some u->b ≠ it:=fun b u e z=>by rw [z,aH] at e;cases e
 refine J.step (g':=s.gens) (d':=s.drawn) (ch:=[it]) (fun b ab=>?_) (fun b o _ _ ar e _=>k b o (fun z=>ar (by simp [z])) e) (fun b o _ _ ar e _=>⟨o.slots,k b o (fun z=>ar (by simp [z])) e⟩) (fun _ _ _ _ n=>n)
  (fun b o ar e=>⟨o,k b o (fun z=>ar (by simp [z])) e⟩) (fun _ _ e=>e) (fun _ _ _ e=>e) (fun b ps e=>⟨#[],by rw [e];simp⟩) (fun m hm=>?_) (fun b u e=>?_) J.bare
 .have e:b=it:=by simpa using ab
  subst e;exact ⟨af,iq,ai,br⟩
 .obtain ⟨o,aF,b5,aZ,r⟩:=hm;exact ⟨o,aF,b5,k _ o (c7 iq) aZ,r⟩
 .refine (J.a6 b u e).kG (fun c v ar q=>k c v ?_ q) (fun _ q=>q) fun _ _ q=>q
  rcases ar with z | z
  .rw [z];exact wa b u e
  .exact wa c _ z
theorem Inv.tok (J:Inv X aa σ H s) (t:Nat):Inv X aa σ H { s with toks:=t }:=J.un (h':=s.heap) (t':=t) gq.refl J.a6
theorem Inv.kept (J:Inv X aa σ H s) (k:∀ b u,s.heap.get? b=some u->h'.get? b=some u):Inv X aa σ H { s with heap:=h',toks:=t' }:=J.un (gq.kept k) (J.a6.kept k)
theorem Inv.laid (J:Inv X aa σ H s) (k:∀ b u,s.heap.get? b=some u->h'.get? b=some u) (ao:s.heap.objs.size <= a) (new:dK X.prog X.w (upd H a o) h' a o) :
  Inv X aa σ (upd H a o) { s with heap:=h',toks:=t' }:=J.un (gq.laid k ao (J.a6.fresh ao)) (J.a6.laid k ao new)
theorem Inv.write {x e:Addr} {o:ey} {t':Nat} (J:Inv X aa σ H s) (eO:lu (H x)) (he:e=x\/H e=some (.own x)) (k:∀ b u,b ≠ e->s.heap.get? b=some u->h'.get? b=some u) (s9:∃ u,h'.get? e=some u)
  (new:dK X.prog X.w (upd H x o) h' x o):Inv X aa σ (upd H x o) { s with heap:=h',toks:=t' }:=J.un (gq.write eO he k s9) (J.a6.write eO he k s9 new)
theorem Inv.weak (J:Inv X aa σ H s) (ax:aL.length=σ.length) (w:∀ (i:Nat) v,aL[i]? = some (some v)->σ[i]? = some (some v)):Inv X aa aL H s:=
 ⟨J.ok,J.os,J.bare,J.base,let ⟨m,aH,Df⟩:=J.loc;⟨m,aH,fun i x v aw az bW=>Df i x v aw (w i v az) bW⟩,J.cell,J.free,J.iK,J.pin,J.a6,ax.trans J.len⟩
theorem Inv.p2 (J:Inv X aa σ H s) (h:∀ p ∈ pC,s.heap.get? p.1=some p.2/\H p.1=none/\p.1 ≠ X.env.locals/\p.1 ∉ X.aQ/\∀ v,p.2.data ≠ .cell v):Inv X pC σ H s:=
 ⟨J.ok,J.os,J.bare,J.base,J.loc,J.cell,J.free,J.iK,fun p ao=>(hB.mp ao).elim (fun z=>J.pin p (sM _ z)) (h p),J.a6,J.len⟩
theorem HR {N:List Str} (bx:N.Nodup) {i j:Nat} {x:Str} (a:N[i]? = some x) (b:N[j]? = some x):i=j:=by
 obtain ⟨af,aw⟩:=cV.mp a;obtain ⟨ai,az⟩:=cV.mp b;exact (ZG bx).mp (aw.trans az.symm)
theorem JU {M:Model} {A:Around} {E:Value->Shared->Prop} {i:Nat} {x:Str} {v:V} {u:Value} {Q:Unit->Shared->Prop} (J:Inv X aa σ H s) (bx:X.N.Nodup) (aj:X.N[i]? = some x) (ak:Loc X.env.scope x) (r:bD v u)
  (h:∀ s',Inv X aa (σ.set i (some v)) H s'->(∃ a,qd a s.heap s'.heap/\(a=X.env.locals\/X.env.cells.lookup x=some a))->Q () s') (hf:X.fn x=true\/X.env.scope.names.lookup x=some .local:=by first | exact .inl rfl | exact .inr rfl | assumption):wpAny M A (storeName X.env x u) Q E s:=by
 obtain ⟨m,aH,ax⟩:=id J.loc;have afO:(X.env.scope.kind == .class || (X.env.scope.kind == .module && X.env.locals != X.env.globals))=false:=by rw [J.ok.kind];rfl
 have vE:i < σ.length:=by rw [J.len];exact (cV.mp aj).1
 have oP:=J.oP;have tracked:∀ {a:Addr} {h':Heap},(∃ o,s.heap.get? a=some o/\H a=none)->qd a s.heap h'->dY X.prog X.w H h':=fun {a h'} aO aG b b2 e=>by
  obtain ⟨_,_,Mf⟩:=aO;refine (J.a6 b b2 e).kG (fun c dX ar q=>(aG.2 c ?_).trans q) (fun _ q=>q) fun _ _ q=>q
  rintro rfl;rcases ar with rfl | ar
  .rw [Mf] at e;cases e
  .rw [Mf] at ar;cases ar
 rcases ak with aJ | aJ
 .refine wpAny_storeName_local aJ aH (fun h' UB aG=>?_) afO;obtain ⟨aia,_,_,ai5,_⟩:=id aH;refine h _ ⟨J.ok,J.os,J.bare,⟨fun b o e n ab ak=>?_,fun b o e n ab ak=>?_,J.base.free,fun b o e ak=>?_,J.base.lZ,J.base.ki,J.base.mc⟩,⟨_,UB,fun j y nG aw az bW=>?_⟩,fun y c e=>?_,J.free,J.iK,fun p ao=>?_,tracked ⟨aia,ai5,J.free⟩ aG,by simpa using J.len⟩ ⟨_,aG,.inl rfl⟩
  .exact (aG.2 b (eb (h2 (cW e) J.ok.above))).trans (J.base.keep b o e n ab ak)
  .obtain ⟨bE,aw⟩:=J.base.slot b o e n ab ak;exact ⟨bE,(aG.2 b (eb (h2 (cW e) J.ok.above))).trans aw⟩
  .obtain ⟨cM,aw⟩:=J.base.there b o e ak;exact ⟨cM,(aG.2 b (eb (h2 (cW e) J.ok.above))).trans aw⟩
  .by_cases bf:j=i
   .subst bf;rw [aj] at aw;cases aw;rw [Js vE] at az;cases az;exact ⟨u,r,.inl ⟨aJ,by simp⟩⟩
   .rw [Jq (c7 bf)] at az;obtain ⟨gJ,d1,q⟩:=ax j y nG aw az bW;refine ⟨gJ,d1,?_⟩;rcases q with ⟨k,e⟩ | ⟨k,c,e,z⟩
    .refine .inl ⟨k,?_⟩;have:y ≠ x:=fun e=>bf (HR bx aw (e ▸ aj))
     simp [this,e]
    .exact .inr ⟨k,c,e,z.sameBut aG (oP y c e)⟩
  .obtain ⟨dX,z⟩:=J.cell y c e;exact ⟨dX,z.sameBut aG (oP y c e)⟩
  .obtain ⟨e,n,ne,jL,d⟩:=J.pin p ao;exact ⟨(aG.2 p.1 ne).trans e,n,ne,jL,d⟩
 .have Ey:X.fn x=true:=by
   rcases hf with z | z
   .exact z
   .rw [z] at aJ;cases aJ
  obtain ⟨c,ar⟩:=J.ok.has x (.inl aJ);obtain ⟨dX,z⟩:=J.cell x c ar;refine wpAny_storeName_cell J.ok.kind aJ ar z (fun h' l1 aG=>?_);obtain ⟨mT,An,aby⟩:=id z;refine h { s with heap:=h' } ⟨J.ok,J.os,J.bare,⟨fun b o e n ab ak=>?_,fun b o e n ab ak=>?_,J.base.free,fun b o e ak=>?_,J.base.lZ,J.base.ki,J.base.mc⟩,⟨m,aH.sameBut aG (c7 (oP x c ar)),fun j y nG aw az bW=>?_⟩,fun y dT e=>?_,J.free,J.iK,fun p ao=>?_,tracked ⟨mT,An,J.iK x c ar⟩ aG,by simpa using J.len⟩ ⟨c,aG,.inr ar⟩
  .exact (aG.2 b (eb (h2 (cW e) (J.ok.oz x c Ey ar)))).trans (J.base.keep b o e n ab ak)
  .obtain ⟨bE,aw⟩:=J.base.slot b o e n ab ak;exact ⟨bE,(aG.2 b (eb (h2 (cW e) (J.ok.oz x c Ey ar)))).trans aw⟩
  .obtain ⟨cM,aw⟩:=J.base.there b o e ak;exact ⟨cM,(aG.2 b (eb (h2 (cW e) (J.ok.oz x c Ey ar)))).trans aw⟩
  .by_cases bf:j=i
   .subst bf;rw [aj] at aw;cases aw;rw [Js vE] at az;cases az;exact ⟨u,r,.inr ⟨.inl aJ,c,ar,l1⟩⟩
   .rw [Jq (c7 bf)] at az;obtain ⟨gJ,d1,q⟩:=ax j y nG aw az bW;refine ⟨gJ,d1,?_⟩;rcases q with q | ⟨k,dT,e,dk⟩
    .exact .inl q
    .refine .inr ⟨k,dT,e,dk.sameBut aG ?_⟩;rintro rfl;exact bf (HR bx aw (J.ok.inj _ _ _ e ar ▸ aj))
  .by_cases T4:dT=c
   .subst T4;exact ⟨_,l1⟩
   .obtain ⟨c_,d5⟩:=J.cell y dT e;exact ⟨c_,d5.sameBut aG T4⟩
  .obtain ⟨e,n,ne,jL,d⟩:=J.pin p ao;refine ⟨(aG.2 p.1 ?_).trans e,n,ne,jL,d⟩;intro q;rw [q,An] at e;have cS:mT=p.2:=dj e;exact d dX (by rw [<- cS];exact aby)
theorem w1 {A:Around} {x:Str} (J:Inv X aa σ H s) (bx:X.N.Nodup) (aj:X.N[i]? = some x) (ak:Loc X.env.scope x) (r:bD v u)
  (h:∀ s',Inv X aa (σ.set i (some v)) H s'->Q () s') (hf:X.fn x=true\/X.env.scope.names.lookup x=some .local:=by first | exact .inl rfl | exact .inr rfl | assumption):wpAny M A (storeName X.env x u) Q E s:=
 JU J bx aj ak r (fun s' ib _=>h s' ib) hf
theorem Inv.p3 (J:Inv X aa σ H s) (aZ:s'.os=s.os) (u:gq (g_ X.stack) ch H I s.heap s'.heap) (a6:dY X.prog X.w I s'.heap) (bj:AllBare s'.gens)
  (nx:∀ b ∈ ch,(b ∈ X.ex\/X.eA.heap.objs.size <= b)/\b ≠ X.env.locals/\(∀ x c,X.env.cells.lookup x=some c->c ≠ b)/\∀ p ∈ X.h8 ++ aa,p.1 ≠ b):Inv X aa σ I s':=by
 obtain ⟨h',g',d',t',cM⟩:=s';have e:cM=s.os:=aZ;subst e;exact J.call (g':=g') (t':=t') (d':=d') u a6 bj nx
end
noncomputable abbrev cZ:=Value->Option Addr->aq->Prop
noncomputable abbrev St:=List (Option V)
noncomputable abbrev cc:=V->aq->Prop
noncomputable abbrev TE:=St->aq->cc->Prop
noncomputable abbrev TT:=St->aq->(Bool->aq->Prop)->Prop
noncomputable abbrev d2:=St->aq->(List V->aq->Prop)->Prop
structure gz where
 cg:St->aq->Prop
 kV:cc
 cq:St->aq->Prop:=fun _ _=>False
 e9:St->aq->Prop:=fun _ _=>False
noncomputable abbrev dz:=gz->St->aq->Prop
def fS (X:aP) (aa:List (Addr × Obj)) (σ:St) (Q:cc) (u:Value) (s':Shared):Prop:=∃ v I,Inv X aa σ I s'/\bD v u/\Q v I
theorem dG {X:aP} {aa:List (Addr × Obj)} {σ:St} {Q:cc} {u:Value} {s':Shared} {C:Prop} (h:fS X aa σ Q u s') (k:∀ v I,Inv X aa σ I s'->bD v u->Q v I->C):C:=by
 obtain ⟨v,I,J,r,q⟩:=h;exact k v I J r q
def Cf (X:aP) (aa:List (Addr × Obj)) (σ:St) (Q:Bool->aq->Prop) (b:Bool) (s':Shared):Prop:=∃ I,Inv X aa σ I s'/\Q b I
def ajH (X:aP) (aa:List (Addr × Obj)) (σ:St) (Q:List V->aq->Prop) (us:List Value) (s':Shared):Prop:=∃ vs I,Inv X aa σ I s'/\bN vs us/\Q vs I
def fi (X:aP) (aa:List (Addr × Obj)) (D:gz) (f:Flow) (s':Shared):Prop:=
 match f with
 | .next=>∃ aL I,Inv X aa aL I s'/\D.cg aL I
 | .brk=>∃ aL I,Inv X aa aL I s'/\D.cq aL I
 | .cont=>∃ aL I,Inv X aa aL I s'/\D.e9 aL I
 | .ret u=>∃ v aL I,Inv X aa aL I s'/\bD v u/\D.kV v I
def bk (X:aP) (e:Expr) (t:TE):Prop:=
 ∀ (aa:List (Addr × Obj)) (s:Shared) (σ:St) (H:aq) (Q:cc),Inv X aa σ H s->t σ H Q->wpAny (model X.prog X.w) X.A (eval e X.env) (fS X aa σ Q) X.cK s
def hi (X:aP) (e:Expr) (t:TT):Prop:=
 ∀ (aa:List (Addr × Obj)) (s:Shared) (σ:St) (H:aq) (Q:Bool->aq->Prop),Inv X aa σ H s->t σ H Q->wpAny (model X.prog X.w) X.A (isTrue e X.env (eval e X.env)) (Cf X aa σ Q) X.cK s
def gr (X:aP) (e:Expr) (t:TT):Prop:=
 ∀ (whole:Sem Value) (aa:List (Addr × Obj)) (s:Shared) (σ:St) (H:aq) (Q:Bool->aq->Prop),Inv X aa σ H s->t σ H Q->wpAny (model X.prog X.w) X.A (isTrue e X.env whole) (Cf X aa σ Q) X.cK s
theorem gr.pt {e:Expr} {t:TT} (h:gr X e t):hi X e t:=h _
def ei (X:aP) (aF:List Expr) (t:d2):Prop:=
 ∀ (pos:Pos) (aa:List (Addr × Obj)) (s:Shared) (σ:St) (H:aq) (Q:List V->aq->Prop),Inv X aa σ H s->t σ H Q->wpAny (model X.prog X.w) X.A (spliced (backTo pos (starEach aF X.env))) (ajH X aa σ Q) X.cK s
def e2 (X:aP) (st:Stmt) (t:dz):Prop:=
 ∀ (aa:List (Addr × Obj)) (s:Shared) (σ:St) (H:aq) (D:gz),Inv X aa σ H s->t D σ H->wpAny (model X.prog X.w) X.A (exec st X.env) (fi X aa D) X.cK s
def f_ (X:aP) (st:List Stmt) (t:dz):Prop:=
 ∀ (aa:List (Addr × Obj)) (s:Shared) (σ:St) (H:aq) (D:gz),Inv X aa σ H s->t D σ H->wpAny (model X.prog X.w) X.A (execs st X.env) (fi X aa D) X.cK s
theorem bq {t:Sem α} {A:Around} (h:wpAny M A t Q E s) (a5:∀ a s,Q a s->mU a s):wpAny M A t mU E s:=wpAny_mono h a5 fun _ _ x=>x
section
variable {X:aP}
noncomputable def qt (H:aq) (Q:cc):Option (Option V)->Prop
 | some (some v)=>Q v H
 | _=>False
theorem Qr (H:aq) (Q:cc) (v:V):qt H Q (some (some v))=Q v H:=rfl
theorem qt.out:∀ {o:Option (Option V)},qt H Q o->∃ v,o=some (some v)/\Q v H
 | some (some v),h=>⟨v,rfl,h⟩
 | some none,h=>h.elim
 | none,h=>h.elim
theorem ae6 (H:aq) (Q:cc) (o:Option (Option V)):qt H Q o = ∃ v,o=some (some v)/\Q v H:=propext ⟨qt.out,fun ⟨_,e,h⟩=>e ▸ h⟩
def fC (x:V) (k:Int->Prop):Prop:=match x with
 | .int i=>k i
 | _=>False
theorem TD (i:Int) (k:Int->Prop):fC (.int i) k=k i:=rfl
theorem fC.out {x:V} {k:Int->Prop} (h:fC x k):∃ i,x=.int i/\k i:=by
 cases x with
 | int i=>exact ⟨i,rfl,h⟩
 | _=>exact h.elim
theorem aec (x:V) (k:Int->Prop):fC x k = ∃ i,x=.int i/\k i:=propext ⟨fC.out,fun ⟨_,e,h⟩=>e ▸ h⟩
def j8 (x:V) (k:Bool->Prop):Prop:=match x with
 | .bp i=>k i
 | _=>False
theorem N0 (i:Bool) (k:Bool->Prop):j8 (.bp i) k=k i:=rfl
theorem j8.out {x:V} {k:Bool->Prop} (h:j8 x k):∃ i,x=.bp i/\k i:=by
 cases x with
 | bp i=>exact ⟨i,rfl,h⟩
 | _=>exact h.elim
theorem aeu (x:V) (k:Bool->Prop):j8 x k = ∃ i,x=.bp i/\k i:=propext ⟨j8.out,fun ⟨_,e,h⟩=>e ▸ h⟩
def eC (x:V) (k:Addr->Prop):Prop:=match x with
 | .ref i=>k i
 | _=>False
theorem Pf (i:Addr) (k:Addr->Prop):eC (.ref i) k=k i:=rfl
theorem eC.out {x:V} {k:Addr->Prop} (h:eC x k):∃ i,x=.ref i/\k i:=by
 cases x with
 | ref i=>exact ⟨i,rfl,h⟩
 | _=>exact h.elim
theorem XN (x:V) (k:Addr->Prop):eC x k = ∃ i,x=.ref i/\k i:=propext ⟨eC.out,fun ⟨_,e,h⟩=>e ▸ h⟩
def k' (xs:List V) (k:V->Prop):Prop:=match xs with
 | [y]=>k y
 | _=>False
theorem Nz (y:V) (k:V->Prop):k' [y] k=k y:=rfl
theorem k'.out:∀ {xs:List V} {k:V->Prop},k' xs k->∃ y,xs=[y]/\k y
 | [y],_,h=>⟨y,rfl,h⟩
 | [],_,h=>h.elim
 | _ :: _ :: _,_,h=>h.elim
theorem ac5 (xs:List V) (k:V->Prop):k' xs k = ∃ y,xs=[y]/\k y:=propext ⟨k'.out,fun ⟨_,e,h⟩=>e ▸ h⟩
noncomputable def y4 (i:Nat):TE:=fun σ H Q=>qt H Q σ[i]?
noncomputable def sj (v:V):TE:=fun _ H Q=>Q v H
theorem aiN {x:Str} (bx:X.N[i]? = some x) (aU:w7 X.env.scope x) (hd:(x == ("__debug__" : Str))=false:=by decide) (kL:(x == ("__classdict__" : Str))=false:=by decide):bk X (.Name x pos) (y4 i):=by
 intro aa s σ H Q J h;obtain ⟨v,e,h⟩:=qt.out h;obtain ⟨m,aH,ax⟩:=J.loc;obtain ⟨u,r,l⟩:=ax i x v bx e aU;have fin:fS X aa σ Q u s:=⟨v,H,J,r,h⟩;rcases l with ⟨aJ,hm⟩ | ⟨aJ,c,ar,ta⟩
 .exact wpAny_Name (wpAny_loadName_local J.ok.kind aJ aH hm fin) hd
 .rcases aJ with aJ | aJ
  .exact wpAny_Name (wpAny_loadName_cell J.ok.kind aJ ar ta fin) hd
  .exact wpAny_Name (wpAny_loadName_free J.ok.kind aJ ar ta fin kL) hd
theorem aR {i j pos}:bk X (.Constant (.int i) j pos) (sj (.int i)):=fun _ _ _ H _ J h=>wpAny_Constant_int ⟨.int i,H,J.tok _,⟨_,rfl⟩,h⟩
theorem mz {b j pos}:bk X (.Constant (.bool b) j pos) (sj (.bp b)):=fun _ _ _ H _ J h=>Constant_bool ⟨.bp b,H,J,rfl,h⟩
theorem jB {j pos}:bk X (.Constant .none j pos) (sj .bT):=fun _ _ _ H _ J h=>Constant_none ⟨.bT,H,J,rfl,h⟩
theorem cx {x j pos}:bk X (.Constant (.str x) j pos) (sj (.str x)):=fun _ _ _ H _ J h=>acD ⟨.str x,H,J.tok _,⟨_,rfl⟩,h⟩
def hn (X:aP) (x:Str):Prop:=X.env.kindOf x=some .globalImplicit
theorem nX {x:Str} (J:Inv X aa σ H s) (bj:hn X x) (hm:X.ah x=some u) (h:Q u s)
  (hd:(x == ("__debug__" : Str))=false:=by decide):wpAny (model X.prog X.w) X.A (eval (.Name x pos) X.env) Q E s:=
 ajM J.ok.kind bj (Calls.loadGlobal_global (by rw [J.ok.glob];exact J.mod.glob.keeps J.cq) hm h) hd
theorem pV {x:Str} (J:Inv X aa σ H s) (bj:hn X x) (hm:X.ah x=none) (aU:bootBuiltins x=some u) (h:Q u s)
  (aH:x ≠ "__name__" := by decide) (hd:(x == ("__debug__" : Str))=false:=by decide):wpAny (model X.prog X.w) X.A (eval (.Name x pos) X.env) Q E s:=by
 obtain ⟨lb,af,ai⟩:=J.mod.blt;exact ajM J.ok.kind bj (Calls.loadGlobal_builtin (by rw [J.ok.glob];exact J.mod.glob.keeps J.cq) hm (by rw [J.ok.blt];exact af.keeps J.cq) ((ai x aH).trans aU) h) hd
theorem jy {x:Str} (bj:hn X x) (hm:X.ah x=some u) (r:bD v u) (hd:(x == ("__debug__" : Str))=false:=by decide):bk X (.Name x pos) (sj v):=
 fun _ _ _ H _ J h=>nX J bj hm ⟨v,H,J,r,h⟩ hd
variable {a b:Expr} {aV ct:TE} {pos:Pos}
def y7 (X:aP) (op:CmpOp) (a b:Expr) (t:TE):Prop:=
 ∀ (aa:List (Addr × Obj)) (s:Shared) (σ:St) (H:aq) (Q:cc),Inv X aa σ H s->t σ H Q ->
  wpAny (model X.prog X.w) X.A (eval a X.env) (fun v cN=>wpAny (model X.prog X.w) X.A (eval b X.env) (fun u bP=>wpAny (model X.prog X.w) X.A (compareOp op v u) (fS X aa σ Q) X.cK bP) X.cK cN) X.cK s
theorem RC (b:Expr) (h:op ≠ .In) (ai:op ≠ .NotIn):behindInMarks op b=false:=by
 have aw:(op == CmpOp.In)=false:=by cases op <;> first | rfl | exact absurd rfl h
 have az:(op == X')=false:=by cases op <;> first | rfl | exact absurd rfl ai
 cases b <;> simp [behindInMarks,aw,az]
noncomputable def z0 (t:TE):TT:=fun σ H Q=>t σ H fun x H1=>j8 x fun c=>Q c H1
theorem M8 {t:TE} (h:y7 X op a b t) (af:behindInMarks op b=false:=by first | exact RC _ (by decide) (by decide) | rfl):bk X (.Compare a [op] [b] pos) t:=fun aa s σ H Q J hw=>wpAny_Compare1 (h aa s σ H Q J hw) af
theorem qV {t:TE} (h:y7 X op a b t) (af:behindInMarks op b=false:=by first | exact RC _ (by decide) (by decide) | rfl):hi X (.Compare a [op] [b] pos) (z0 t):=by
 intro aa s σ H Q J hw;refine wpAny_isTrue_Compare1 (bq (h aa s σ H _ J hw) fun v s1 af=>bq af fun u s2 ai=>bq ai fun c s3 b3=>dG b3 fun x H1 aK bR bF=>?_) af;obtain ⟨d,rfl,q⟩:=j8.out bF;cases bR;exact wpAny_truthy_bool ⟨H1,aK,q⟩
theorem mK {e:Expr} {t:TE} (h:bk X e t) (he:∀ whole,isTrue e X.env whole=(do let v <- whole;standAt e.pos;holding [v] (truthy v)):=by intro _;rfl):hi X e (z0 t):=by
 intro aa s σ H Q J hw;refine isTrue_plain (bq (h aa s σ H _ J hw) fun v s1 b3=>dG b3 fun x H1 aK bR bF=>?_) (he _);obtain ⟨d,rfl,q⟩:=j8.out bF;cases bR;exact wpAny_truthy_bool ⟨H1,aK,q⟩
variable {lH Ae:TT} {rest:List Expr}
noncomputable def GS (t u:TT):TT:=fun σ H Q=>t σ H fun c H1=>if c=true then u σ H1 Q else Q false H1
noncomputable def KJ (t u:TT):TT:=fun σ H Q=>t σ H fun c H1=>if c=true then Q true H1 else u σ H1 Q
noncomputable def Ja (t:TT):TT:=fun σ H Q=>t σ H fun c H1=>Q (!c) H1
theorem Ck (aO:hi X a lH):gr X (.BoolOp .And [a] pos) lH:=by
 intro xW aa s σ H Q J h;refine isTrue_and (bq (aO aa s σ H Q J h) fun c s1 e=>?_);cases c with
 | true=>exact isTrue_and_nil e
 | false=>exact e
theorem xK (aO:hi X a lH):gr X (.BoolOp .Or [a] pos) lH:=by
 intro xW aa s σ H Q J h;refine isTrue_or (bq (aO aa s σ H Q J h) fun c s1 e=>?_);cases c with
 | false=>exact isTrue_or_nil e
 | true=>exact e
theorem zi (aO:hi X a lH) (ab:gr X (.BoolOp .And (b :: rest) pos) Ae):gr X (.BoolOp .And (a :: b :: rest) pos) (GS lH Ae):=by
 intro xW aa s σ H Q J h;refine isTrue_and (bq (aO aa s σ H _ J h) fun c s1 b0=>?_);obtain ⟨H1,aK,bF⟩:=b0;cases c with
 | true=>exact ab xW aa s1 σ H1 Q aK bF
 | false=>exact ⟨H1,aK,bF⟩
theorem vN (aO:hi X a lH) (ab:gr X (.BoolOp .Or (b :: rest) pos) Ae):gr X (.BoolOp .Or (a :: b :: rest) pos) (KJ lH Ae):=by
 intro xW aa s σ H Q J h;refine isTrue_or (bq (aO aa s σ H _ J h) fun c s1 b0=>?_);obtain ⟨H1,aK,bF⟩:=b0;cases c with
 | true=>exact ⟨H1,aK,bF⟩
 | false=>exact ab xW aa s1 σ H1 Q aK bF
theorem tT (aO:hi X a lH):hi X (.UnaryOp .Not a pos) (Ja lH):=by
 intro aa s σ H Q J h;exact isTrue_not (aO aa s σ H (fun c H1=>Q (!c) H1) J h)
noncomputable def HH (aV ct:TE):TE:=fun σ H Q=>aV σ H fun x H1=>j8 x fun c=>if c=true then ct σ H1 Q else Q (.bp false) H1
noncomputable def Gb (aV ct:TE):TE:=fun σ H Q=>aV σ H fun x H1=>j8 x fun c=>if c=true then Q (.bp true) H1 else ct σ H1 Q
theorem rR {op} {t:TE} (h:bk X a t):bk X (.BoolOp op [a] pos) t:=fun aa s σ H Q J hw=>BoolOp_one (h aa s σ H Q J hw)
theorem Hl (aO:bk X a aV) (ab:bk X (.BoolOp .And (b :: rest) pos) ct):bk X (.BoolOp .And (a :: b :: rest) pos) (HH aV ct):=by
 intro aa s σ H Q J h;refine BoolOp_and (bq (aO aa s σ H _ J h) fun v s1 b3=>dG b3 fun x H1 aK bR bF=>?_);obtain ⟨c,rfl,gU⟩:=j8.out bF;cases bR;refine wpAny_truthy_bool ?_;cases c with
 | true=>exact ab aa s1 σ H1 Q aK gU
 | false=>exact ⟨.bp false,H1,aK,rfl,gU⟩
theorem BZ (aO:bk X a aV) (ab:bk X (.BoolOp .Or (b :: rest) pos) ct):bk X (.BoolOp .Or (a :: b :: rest) pos) (Gb aV ct):=by
 intro aa s σ H Q J h;refine BoolOp_or (bq (aO aa s σ H _ J h) fun v s1 b3=>dG b3 fun x H1 aK bR bF=>?_);obtain ⟨c,rfl,gU⟩:=j8.out bF;cases bR;refine wpAny_truthy_bool ?_;cases c with
 | false=>exact ab aa s1 σ H1 Q aK gU
 | true=>exact ⟨.bp true,H1,aK,rfl,gU⟩
noncomputable def Fh (t:TT) (aV ct:TE):TE:=fun σ H Q=>t σ H fun c H1=>if c=true then aV σ H1 Q else ct σ H1 Q
theorem BU (ar:hi X c lH) (aO:bk X a aV) (ab:bk X b ct):bk X (.IfExp c a b pos) (Fh lH aV ct):=by
 intro aa s σ H Q J h;refine wpAny_IfExp (bq (ar aa s σ H _ J h) fun d s1 b0=>?_);obtain ⟨H1,aK,bF⟩:=b0;cases d with
 | true=>exact aO aa s1 σ H1 Q aK bF
 | false=>exact ab aa s1 σ H1 Q aK bF
end
def aW (K:a4) (H:aq) (a:Addr) (xs:List V):Prop:=
 lx H a (.lst xs) \/
  ∃ (o:Obj) (aI:Array Value) (n:Nat),K.lookup a=some o/\o.cls=.type "list" /\ o.dict=none/\o.data=.seq aI n/\aI.size <= sizeLine/\bN xs aI.toList
def bY (K:a4) (H:aq) (a:Addr) (xs:List V):Prop:=
 lx H a (.tup xs) \/
  ∃ (o:Obj) (aI:Array Value) (n:Nat),K.lookup a=some o/\o.cls=.type "tuple" /\ o.data=.seq aI n/\aI.size <= sizeLine/\bN xs aI.toList
noncomputable def U6:Value->Option V
 | .none=>some .bT
 | .bool b=>some (.bp b)
 | .int i _=>some (.int i)
 | .str x _=>some (.str x)
 | .bytes b _=>some (.j1 b)
 | .float b _=>some (.tg b)
 | .ref a=>some (.ref a)
 | .type n=>some (.ty n)
 | _=>none
theorem bD.abs {x:V} (r:bD x u):U6 u=some x:=by
 cases x with
 | bT=>cases r;rfl
 | bp _=>cases r;rfl
 | int _=>obtain ⟨t,rfl⟩:=r;rfl
 | str _=>obtain ⟨t,rfl⟩:=r;rfl
 | j1 _=>obtain ⟨t,rfl⟩:=r;rfl
 | tg _=>obtain ⟨t,rfl⟩:=r;rfl
 | ref _=>cases r;rfl
 | ty _=>cases r;rfl
theorem bD.inj {x y:V} (r:bD x u) (q:bD y u):x=y:=dj (r.abs.symm.trans q.abs)
theorem bN.inj:∀ {xs ys:List V} {us:List Value},bN xs us->bN ys us->xs=ys
 | _,_,_,.nil,.nil=>rfl
 | _,_,_,.cons r t,.cons d1 t'=>by rw [r.inj d1,bN.inj t t']
section
variable {X:aP} {aa:List (Addr × Obj)} {σ:St} {H:aq} {s:Shared} {a:Addr} {xs ys:List V}
theorem aW.of {K:a4} (h:H a=some (.lst xs)):aW K H a xs:=.inl (.inl h)
theorem bY.of {K:a4} (h:H a=some (.tup xs)):bY K H a xs:=.inl (.inl h)
theorem Inv.list (J:Inv X aa σ H s) (h:aW X.K H a xs):∃ aI:List Value,bN xs aI/\PlainL s.heap a aI.toArray/\xs.length <= sizeLine:=by
 rcases h with h | ⟨o,aI,n,aJ,ar,hd,aG,aD,r⟩
 .obtain ⟨z,aI,n,r,e⟩:=h.ok J.a6;exact ⟨aI,r,⟨_,n,e,rfl,rfl,rfl⟩,z⟩
 .refine ⟨aI.toList,r,⟨o,n,J.ep a o aJ,ar,hd,by simpa using aG⟩,?_⟩;have e:=r.length;simp only [zP] at e;omega
theorem Inv.tuple (J:Inv X aa σ H s) (h:bY X.K H a xs):∃ aI:List Value,bN xs aI/\IsTup s.heap a aI.toArray/\xs.length <= sizeLine:=by
 rcases h with h | ⟨o,aI,n,aJ,ar,aG,aD,r⟩
 .obtain ⟨z,aI,r,p⟩:=h.ok J.a6;exact ⟨aI,r,p,z.1⟩
 .refine ⟨aI.toList,r,⟨o,J.ep a o aJ,ar,n,by simpa using aG⟩,?_⟩;have e:=r.length;simp only [zP] at e;omega
theorem Inv.CJ (J:Inv X aa σ H s) (h:aW X.K H a xs) (h':aW X.K H a ys):xs=ys:=by
 obtain ⟨aI,r,⟨o,n,e,_,_,d⟩,_⟩:=J.list h;obtain ⟨its',d1,⟨cM,h1,cy,_,_,d'⟩,_⟩:=J.list h';rw [e] at cy;cases cy;rw [d] at d';injection d' with dv _;have:aI=its':=by simpa using congrArg Wh dv
 subst this;exact r.inj d1
theorem Inv.Ua (J:Inv X aa σ H s) (h:bY X.K H a xs) (h':bY X.K H a ys):xs=ys:=by
 obtain ⟨aI,r,⟨o,e,_,n,d⟩,_⟩:=J.tuple h;obtain ⟨its',d1,⟨cM,cy,_,h1,d'⟩,_⟩:=J.tuple h';rw [e] at cy;cases cy;rw [d] at d';injection d' with dv _;have:aI=its':=by simpa using congrArg Wh dv
 subst this;exact r.inj d1
end
noncomputable abbrev aP.dV (X:aP) (E:Value->Shared->Prop):aP:={ X with cK:=E }
noncomputable abbrev aP.vo (X:aP):aP:=X.dV fun _ _=>False
theorem aP.Ok.dV {X:aP} (ok:X.Ok) (E:Value->Shared->Prop):(X.dV E).Ok:=
 ⟨ok.mod,ok.kind,ok.glob,ok.blt,ok.above,ok.inj,ok.has,ok.oz,ok.hd,ok.frames,ok.o3,ok.tN,ok.bs,ok.jq,ok.oF,ok.nF,ok.iD,ok.kc⟩
theorem aP.Ok.jO {X:aP} {E:Value->Shared->Prop} (ok:(X.dV E).Ok):X.Ok:=
 ⟨ok.mod,ok.kind,ok.glob,ok.blt,ok.above,ok.inj,ok.has,ok.oz,ok.hd,ok.frames,ok.o3,ok.tN,ok.bs,ok.jq,ok.oF,ok.nF,ok.iD,ok.kc⟩
section
variable {X:aP} {aa:List (Addr × Obj)} {σ:St} {H:aq} {s:Shared} {E:Value->Shared->Prop}
theorem Inv.dV (J:Inv X aa σ H s) (E:Value->Shared->Prop):Inv (X.dV E) aa σ H s:=⟨J.ok.dV E,J.os,J.bare,J.base,J.loc,J.cell,J.free,J.iK,J.pin,J.a6,J.len⟩
theorem Inv.jO (J:Inv (X.dV E) aa σ H s):Inv X aa σ H s:=⟨J.ok.jO,J.os,J.bare,J.base,J.loc,J.cell,J.free,J.iK,J.pin,J.a6,J.len⟩
theorem fi.jO (h:fi (X.dV E) aa D f s'):fi X aa D f s':=by
 cases f with
 | next=>obtain ⟨aL,I,J,q⟩:=h;exact ⟨aL,I,J.jO,q⟩
 | brk=>obtain ⟨aL,I,J,q⟩:=h;exact ⟨aL,I,J.jO,q⟩
 | cont=>obtain ⟨aL,I,J,q⟩:=h;exact ⟨aL,I,J.jO,q⟩
 | ret u=>obtain ⟨v,aL,I,J,r,q⟩:=h;exact ⟨v,aL,I,J.jO,r,q⟩
theorem f_.vo {st:List Stmt} {t:dz} (h:f_ X.vo st t):f_ X st t:=fun aa s σ H D J hw=>
 wpAny_mono (h aa s σ H D (J.dV _) hw) (fun _ _ q=>q.jO) fun _ _ z=>jI z
end
section
variable {X:aP} {st:Stmt} {rest:List Stmt} {t u:dz} {e:Expr} {bo:TE} {pos:Pos}
noncomputable def ft:dz:=fun D σ H=>D.cg σ H
noncomputable def Yr:Nat:=0
noncomputable def mg:Nat:=Yr
noncomputable def xT:Nat:=mg
noncomputable def KD:Nat:=xT
noncomputable def WE:Nat:=KD
noncomputable def Wt:Nat:=WE
noncomputable def ZH:Nat:=Wt
noncomputable def af8:Nat:=ZH
noncomputable def aas:Nat:=af8
noncomputable def Zz:Nat:=aas
noncomputable def Zc:Nat:=Zz
noncomputable def akm:Nat:=Zc
noncomputable def aeK:Nat:=akm
noncomputable def Jg (t u:dz):dz:=fun D σ H=>(fun _:Nat=>t { D with cg:=u D } σ H) aeK
theorem dd:f_ X [] ft:=fun _ _ σ H _ J h=>wpAny_execs_nil ⟨σ,H,J,h⟩
theorem aM (af:e2 X st t) (ai:f_ X rest u):f_ X (st :: rest) (Jg t u):=by
 intro aa s σ H D J h;refine wpAny_execs_cons (bq (af aa s σ H { D with cg:=u D } J h) fun f s1 q=>?_);cases f with
 | next=>
  obtain ⟨aL,I,ib,q⟩:=q;exact ai aa s1 aL I D ib q
 | ret v=>exact q
 | brk=>exact q
 | cont=>exact q
theorem a3 (af:e2 X st t):f_ X [st] t:=by
 intro aa s σ H D J h;refine wpAny_execs_cons (bq (af aa s σ H D J h) fun f s1 q=>?_);cases f with
 | next=>exact wpAny_execs_nil q
 | ret v=>exact q
 | brk=>exact q
 | cont=>exact q
theorem Inv.quiet (J:Inv X aa σ H s):interactive X.env=false:=by simp [interactive,J.ok.kind]
noncomputable def F4 (bo:TE):dz:=fun D σ H=>bo σ H fun _ H1=>D.cg σ H1
theorem fO (he:bk X e bo) (aG:swapsWith e none pos.line X.env=pure false:=by rfl):e2 X (.Expr e pos) (F4 bo):=by
 intro aa s σ H D J h;exact wpAny_Expr_any (bq (he aa s σ H _ J h) fun v s1 b3=>dG b3 fun x H1 aK bR bF=>⟨σ,H1,aK,bF⟩) J.quiet aG
noncomputable def Cr (bo:TE):dz:=fun D σ H=>bo σ H D.kV
theorem bX (he:bk X e bo):e2 X (.Return (some e) pos) (Cr bo):=by
 intro aa s σ H D J h;exact wpAny_Return_some (bq (he aa s σ H _ J h) fun v s1 b3=>dG b3 fun x H1 aK bR bF=>⟨x,σ,H1,aK,bR,bF⟩)
noncomputable def Hq:dz:=fun D _ H=>D.kV .bT H
theorem YA:e2 X (.Return none pos) Hq:=fun _ _ σ H _ J h=>wpAny_Return_none ⟨.bT,σ,H,J,rfl,h⟩
noncomputable def GI (c:TT) (t u:dz):dz:=fun D σ H=>c σ H fun b H1=>if b=true then t D σ H1 else u D σ H1
theorem c9 (ar:hi X c cu) (aO:f_ X a t) (ab:f_ X b u):e2 X (.If c a b pos) (GI cu t u):=by
 intro aa s σ H D J h;refine wpAny_If (bq (ar aa s σ H _ J h) fun d s1 b0=>?_);obtain ⟨H1,aK,bF⟩:=b0;cases d with
 | true=>exact aO aa s1 σ H1 D aK bF
 | false=>exact ab aa s1 σ H1 D aK bF
noncomputable def Fn:dz:=fun _ _ _=>False
theorem iJ:e2 X st Fn:=fun _ _ _ _ _ _ h=>h.elim
end
noncomputable abbrev e1:=V->St->aq->(St->aq->Prop)->Prop
noncomputable abbrev qQ:=List V->St->aq->(St->aq->Prop)->Prop
def lB (X:aP) (ny:Expr) (t:e1):Prop:=
 ∀ (aa:List (Addr × Obj)) (s:Shared) (σ:St) (H:aq) (v:V) (u:Value) (Q:St->aq->Prop),Inv X aa σ H s->bD v u->t v σ H Q ->
  wpAny (model X.prog X.w) X.A (assign ny X.env u) (fun _ s'=>∃ aL I,Inv X aa aL I s'/\Q aL I) X.cK s
def wi (X:aP) (g0:List Expr) (t:qQ):Prop:=
 ∀ (aa:List (Addr × Obj)) (s:Shared) (σ:St) (H:aq) (vs:List V) (us:List Value) (Q:St->aq->Prop),Inv X aa σ H s->bN vs us->t vs σ H Q ->
  wpAny (model X.prog X.w) X.A (assignInOrder ((assignEach g0 X.env).map (·.2)) us) (fun _ s'=>∃ aL I,Inv X aa aL I s'/\Q aL I) X.cK s
noncomputable abbrev wS:=V->V->V->aq->(aq->Prop)->Prop
def Lb (X:aP) (t:wS):Prop:=
 ∀ (aa:List (Addr × Obj)) (s:Shared) (σ:St) (H:aq) (o i v:V) (dx gX u:Value) (Q:aq->Prop),Inv X aa σ H s->bD o dx->bD i gX->bD v u->t o i v H Q ->
  wpAny (model X.prog X.w) X.A (setItem dx gX u) (fun _ s'=>∃ I,Inv X aa σ I s'/\Q I) X.cK s
noncomputable abbrev Dn:=V->V->aq->cc->Prop
def To (X:aP) (op:Operator) (t:Dn):Prop:=
 ∀ (aa:List (Addr × Obj)) (s:Shared) (σ:St) (H:aq) (x y:V) (v u:Value) (Q:cc),Inv X aa σ H s->bD x v->bD y u->t x y H Q ->
  wpAny (model X.prog X.w) X.A (inplaceOp op v u) (fS X aa σ Q) X.cK s
section
variable {X:aP} {pos:Pos}
noncomputable def hX (i:Nat):e1:=fun v σ H Q=>Q (σ.set i (some v)) H
theorem EM {x:Str} (bx:X.N.Nodup) (aj:X.N[i]? = some x) (ak:Loc X.env.scope x) (hf:X.fn x=true\/X.env.scope.names.lookup x=some .local:=by first | exact .inl rfl | exact .inr rfl | assumption):lB X (.Name x pos) (hX i):=by
 intro aa s σ H v u Q J r h;exact wpAny_assign_Name (w1 J bx aj ak r (fun s' ib=>⟨_,H,ib,h⟩) hf)
noncomputable def yq:qQ:=fun vs σ H Q=>vs=[]/\Q σ H
noncomputable def qF (t:e1) (u:qQ):qQ:=fun vs σ H Q=>∃ v r,vs=v :: r/\t v σ H fun aL I=>u r aL I Q
theorem f':wi X [] yq:=by
 intro aa s σ H vs us Q J r h;obtain ⟨e,h⟩:=h;subst e;cases r;exact assignInOrder_nil ⟨σ,H,J,h⟩
theorem c0 {e:Expr} {t:e1} (af:lB X e t) (ai:wi X aF u)
  (aG:(assignEach (e :: aF) X.env).map (·.2)=assign e X.env :: (assignEach aF X.env).map (·.2):=by rfl):wi X (e :: aF) (qF t u):=by
 intro aa s σ H vs us Q J r h;obtain ⟨v,ak5,aw,h⟩:=h;subst aw;cases r with
 | cons r i2=>
  rw [aG];refine assignInOrder_cons (bq (af aa s σ H _ _ _ J r h) fun _ s1 b0=>?_);obtain ⟨jt,H1,aK,bF⟩:=b0;exact ai aa s1 jt H1 _ _ Q aK i2 bF
noncomputable def t_ (K:a4) (n:Nat) (t:qQ):e1:=fun v σ H Q=>∃ a xs,v=.ref a/\bY K H a xs/\xs.length=n/\t xs σ H Q
theorem ZY {k:Nat} {t:qQ} (ar:X.calm=true) (h:wi X aF t)
  (aH:(assignEach aF X.env).length=n:=by rfl) (fE:(assignEach aF X.env).findIdx? (·.1)=none:=by rfl):lB X (.Tuple aF k pos) (t_ X.K n t):=by
 intro aa s σ H v u Q J r hw;obtain ⟨a,xs,aw,aB,ax,hw⟩:=hw;subst aw;cases r;obtain ⟨aI,bV,cR,aD⟩:=J.tuple aB;refine assign_Tuple_tuple (J.ok.hd ar) cR (by simp [aH,<- ax,bV.length]) fE fun h' ak=>?_
 have aK:Inv X aa σ H { s with heap:=h' }:=J.kept (t':=s.toks) fun b o e=>ak b o (eb (cW e)) e
 exact h aa _ σ H xs _ Q aK (by simpa using bV) hw
noncomputable def FK (to qm:TE) (t:wS):e1:=fun v σ H Q=>to σ H fun o H1=>qm σ H1 fun i ay=>t o i v ay fun bA=>Q σ bA
theorem X5 {to qm:TE} {t:wS} (aZ:bk X o to) (aj:bk X i qm) (aG:Lb X t)
  (aO:∀ v,assign (.Subscript o i pos) X.env v=(do
   let dx <- holding [v] (eval o X.env)
   let gX <- holding [v,dx] (eval i X.env)
   standAt pos
   holding [v,dx,gX] (setItem dx gX v)
   release [v,dx,gX] []):=by intro _;rfl):lB X (.Subscript o i pos) (FK to qm t):=by
 intro aa s σ H v u Q J r h;rw [aO];refine wpAny_bind (wpAny_holding (bq (aZ aa s σ H _ J h) fun dx s1 b3=>dG b3 fun x H1 aK bR bF=>?_));refine wpAny_bind (wpAny_holding (bq (aj aa s1 σ H1 _ aK bF) fun gX s2 b3=>dG b3 fun y ay bl cw cA=>?_));refine wpAny_bind (wpAny_standAt (wpAny_bind (wpAny_holding (bq (aG aa s2 σ ay x y v dx gX u _ bl bR cw r cA) fun _ s3 b0=>?_))));obtain ⟨bA,dA,eV⟩:=b0;exact wpAny_release ⟨σ,bA,dA,eV⟩
noncomputable def pI (bo:TE) (g:e1):dz:=fun D σ H=>bo σ H fun x H1=>g x σ H1 D.cg
theorem ni {cz e:Expr} (he:bk X e bo) (bj:lB X cz g) (aG:swapsWithSole [cz] e pos.line X.env=pure false:=by rfl) (hw:swappedStores [cz] e X.env=pure none:=by rfl)
  (af:(assignEach [cz] X.env).map (·.2)=[assign cz X.env]:=by rfl):e2 X (.Assign [cz] e pos) (pI bo g):=by
 intro aa s σ H D J h;refine wpAny_Assign_stores (bq (he aa s σ H _ J h) fun v s1 b3=>dG b3 fun x H1 aK bR bF=>?_) aG hw;rw [af];exact bq (bj aa s1 σ H1 x v _ aK bR bF) fun _ s2 q=>q
theorem BG {x:Str} {e:Expr} (bx:X.N.Nodup) (aj:X.N[i]? = some x) (ak:Loc X.env.scope x) (he:bk X e bo) (aG:swapsWith e (some (.Name x pos')) pos.line X.env=pure false:=by rfl) (hf:X.fn x=true\/X.env.scope.names.lookup x=some .local:=by first | exact .inl rfl | exact .inr rfl | assumption) :
  e2 X (.Assign [.Name x pos'] e pos) (pI bo (hX i)):=by
 intro aa s σ H D J h;refine wpAny_Assign_Name (bq (he aa s σ H _ J h) fun v s1 b3=>dG b3 fun y H1 aK bR bF=>?_) aG;exact w1 aK bx aj ak bR (fun s2 bl=>⟨_,H1,bl,bF⟩) hf
noncomputable def G_ (i:Nat) (bo:TE) (qm:Dn):dz:=fun D σ H=>∃ x,σ[i]? = some (some x)/\bo σ H fun y H1=>qm x y H1 fun z ay=>D.cg (σ.set i (some z)) ay
theorem Ra {x:Str} {e:Expr} (bx:X.N.Nodup) (aj:X.N[i]? = some x) (ak:Loc X.env.scope x) (he:bk X e bo) (aZ:To X op qm) (hf:X.fn x=true\/X.env.scope.names.lookup x=some .local:=by first | exact .inl rfl | exact .inr rfl | assumption) :
  e2 X (.AugAssign (.Name x pos') op e pos) (G_ i bo qm):=by
 intro aa s σ H D J h;obtain ⟨v,aw,h⟩:=h;obtain ⟨m,aH,ax⟩:=J.loc;have aeo:w7 X.env.scope x:=by rcases ak with k | k;exact .inl k;exact .inr (.inl k)
 obtain ⟨u,r,l⟩:=ax i x v aj aw aeo;refine wpAny_AugAssign_Name ?_;have go:wpAny (model X.prog X.w) X.A (eval e X.env) (fun w bP=>wpAny (model X.prog X.w) X.A (inplaceOp op u w) (fun r gv=>wpAny (model X.prog X.w) X.A (storeName X.env x r) (fun _=>fi X aa D .next) X.cK gv) X.cK bP) X.cK s:=by
  refine bq (he aa s σ H _ J h) fun w s1 b3=>dG b3 fun y H1 aK bR bF=>?_
  refine bq (aZ aa s1 σ H1 v y u w _ aK r bR bF) fun z s2 b3=>dG b3 fun alB ay bl cw cA=>?_
  exact w1 bl bx aj ak cw (fun s3 dA=>⟨_,ay,dA,cA⟩) hf
 rcases l with ⟨aJ,hm⟩ | ⟨aJ,c,ar,ta⟩
 .exact wpAny_loadName_local J.ok.kind aJ aH hm go
 .rcases aJ with aJ | aJ
  .exact wpAny_loadName_cell J.ok.kind aJ ar ta go
  .rcases ak with k | k
   .have:X.env.scope.names.lookup x=some .free:=aJ;rw [k] at this;cases this
   .have:X.env.scope.names.lookup x=some .free:=aJ;rw [k] at this;cases this
noncomputable def abw (f:Int->Int->Int):Dn:=fun x y H Q=>∃ i j,x=.int i/\y=.int j/\Q (.int (f i j)) H
theorem Qp:To X .Add (abw fun i j=>i + j):=by
 intro aa s σ H x y v u Q J bR cw h;obtain ⟨i,j,aw,az,q⟩:=h;subst aw;subst az;obtain ⟨t,rfl⟩:=bR;obtain ⟨t',rfl⟩:=cw;exact iadd_int ⟨.int _,H,J.tok _,⟨_,rfl⟩,q⟩
noncomputable def afN (c:TT) (ct:dz):dz:=fun D σ H=>∃ W:Nat->St->aq->Prop,(∃ m,W m σ H)/\∀ m σ H,W m σ H ->
 c σ H fun b H1=>if b=true then ∃ N:St->aq->Prop,(∀ aL I,N aL I->∃ c2,c2 < m/\W c2 aL I)/\ct { D with cg:=N,e9:=N,cq:=D.cg } σ H1 else D.cg σ H1
theorem CE (ao:PassesOwn (model X.prog X.w) X.A X.env X.cK) (ar:hi X c cu) (ab:f_ X body ct):e2 X (.While c body [] pos) (afN cu ct):=by
 intro aa s σ H D J h;obtain ⟨W,⟨m0,hY⟩,turn⟩:=h;refine wpAny_While (codeAny_whileLoop (fun n s'=>∃ aL I,Inv X aa aL I s'/\W n aL I) ?_ m0 ⟨σ,H,J,hY⟩);rintro n s1 ⟨jt,H1,aK,cL⟩;refine wpAny_passesOwn ao (bq (ar aa s1 jt H1 _ aK (turn n jt H1 cL)) fun b s2 b0=>?_);obtain ⟨ay,bl,cA⟩:=b0;cases b with
 | true=>
  obtain ⟨N,bx,cA⟩:=cA;rw [if_pos rfl];refine wpAny_passesOwn ao (bq (ab aa s2 jt ay _ bl cA) fun f s3 eV=>?_);cases f with
  | next=>
   obtain ⟨jF,bA,dA,df⟩:=eV;obtain ⟨c2,hm,gR⟩:=bx jF bA df;exact ⟨c2,hm,jF,bA,dA,gR⟩
  | cont=>
   obtain ⟨jF,bA,dA,df⟩:=eV;obtain ⟨c2,hm,gR⟩:=bx jF bA df;exact ⟨c2,hm,jF,bA,dA,gR⟩
  | brk=>exact eV
  | ret v=>exact eV
 | false=>
  rw [if_neg fh];exact wpAny_execs_nil ⟨jt,ay,bl,cA⟩
end
structure hJ where
 go:Nat->aq->Prop
 pN:Nat->aq->V->aq->Prop
 stop:Nat->aq->Prop
def gm (X:aP) (aa:List (Addr × Obj)) (H:aq) (b:Addr):Prop:=
 H b=none/\b ≠ X.env.locals/\b ∉ X.aQ/\(b ∈ X.ex\/X.eA.heap.objs.size <= b)/\(∀ x c,X.env.cells.lookup x=some c->c ≠ b)/\∀ p ∈ X.h8 ++ aa,p.1 ≠ b
theorem Inv.jc (J:Inv X aa σ H s) (ab:s.heap.objs.size <= b) (aH:I b=none):gm X aa I b:=by
 refine ⟨aH,sU (h2 J.lt ab),J.Ie ab,.inr (b8 J.gj ab),fun x c e z=>?_,fun p ao z=>?_⟩
 .obtain ⟨v,q⟩:=J.cell x c e;exact absurd (h2 q.lt (by rw [z];exact ab)) (lM _)
 .exact absurd (h2 (cW (J.pin p ao).1) (by rw [z];exact ab)) (lM _)
structure l6 (P:Program) (w:World) (K:a4) (cz:Expr) (b4:hJ) (a9:List Addr) (it:Addr) (du:Nat->Heap->Prop):Prop where
 mem:it ∈ a9
 obj:∀ i h,du i h->∀ b ∈ a9,∃ o,h.get? b=some o/\∀ v,o.data ≠ .cell v
 keep:∀ i h h',du i h->(∀ b ∈ a9,∀ o,h.get? b=some o->h'.get? b=some o)->du i h'
 item:∀ (X:aP),X.prog=P->X.w=w->X.K=K->X.calm=true->∀ (i:Nat) (aa:List (Addr × Obj)) (s:Shared) (σ:St) (H:aq) (E:Value->Shared->Prop),Inv X aa σ H s->(∀ b ∈ a9,gm X aa H b)->du i s.heap->b4.go i H ->
  wpAny (model P w) X.A (pyNext (.ref it)) (fun r s1=>∃ u,r=some u /\
   wpAny (model P w) X.A (letOwnedTupleGo cz (.ref it) u) (fun _ s2=>∃ x I,Inv X aa σ I s2/\bD x u/\b4.pN i H x I/\du (i + 1) s2.heap/\∀ b ∈ a9,I b=none) E s1) E s
 done:∀ (X:aP),X.prog=P->X.w=w->X.K=K->X.calm=true->∀ (i:Nat) (aa:List (Addr × Obj)) (s:Shared) (σ:St) (H:aq) (E:Value->Shared->Prop),Inv X aa σ H s->(∀ b ∈ a9,gm X aa H b)->du i s.heap->b4.stop i H ->
  wpAny (model P w) X.A (pyNext (.ref it)) (fun r s1=>r=none/\Inv X aa σ H s1) E s
 self:∀ (A:Around) (i:Nat) (s:Shared) (Q:Value->Shared->Prop) (E:Value->Shared->Prop),du i s.heap->Q (.ref it) s->wpAny (model P w) A (pyIter (.ref it)) Q E s
noncomputable abbrev TI:=St->aq->(hJ->aq->Prop)->Prop
def L9 (X:aP) (aa:List (Addr × Obj)) (σ:St) (cz:Expr) (R:hJ->aq->Prop) (wo:Value) (s2:Shared):Prop:=
 ∃ (it:Addr) (a9:List Addr) (du:Nat->Heap->Prop) (b4:hJ) (I:aq),wo=.ref it/\Inv X aa σ I s2/\l6 X.prog X.w X.K cz b4 a9 it du/\du 0 s2.heap/\(∀ b ∈ a9,gm X aa I b)/\R b4 I
def kA (X:aP) (cz iter:Expr) (ek:TI):Prop:=
 ∀ (aa:List (Addr × Obj)) (s:Shared) (σ:St) (H:aq) (R:hJ->aq->Prop),Inv X aa σ H s->ek σ H R ->
  wpAny (model X.prog X.w) X.A (eval iter X.env) (fun v s1=>wpAny (model X.prog X.w) X.A (pyIter v) (L9 X aa σ cz R) X.cK s1) X.cK s
theorem vC {A:Around} {it:Addr} (aZ:s.heap.get? it=some o) (ar:o.cls=.type n) (hd:o.data=.fields vs)
    (aH:["enumerate","zip","dict_itemiterator","dict_reverseitemiterator","odict_iterator","itertools.zip_longest","itertools.pairwise"].contains n=false) (a5:Q () s):wpAny M A (letOwnedTupleGo cz (.ref it) u) Q E s:=by
  unfold letOwnedTupleGo;cases cz <;> first
    | exact wpAny_pure a5
    | (cases u <;> first
        | exact wpAny_pure a5
        | (refine wpAny_bind (wpAny_load aZ ?_)
           rw [ar,hd];show wpAny M A (if (["enumerate","zip","dict_itemiterator","dict_reverseitemiterator","odict_iterator","itertools.zip_longest","itertools.pairwise"].contains n && vs[0]? == some (rawInt _))=true then _ else _) Q E s;rw [if_neg (by intro h;rw [aH,tR] at h;cases h)];exact wpAny_pure a5))
noncomputable def lr (K:a4) (a:Addr):hJ:=
 ⟨fun i H=>∃ xs x,aW K H a xs/\xs[i]? = some x,fun i H x I=>I=H/\∀ xs,aW K H a xs->xs[i]? = some x,fun i H=>∃ xs,aW K H a xs/\xs.length <= i⟩
noncomputable def zw (K:a4) (a:Addr):hJ:=
 ⟨fun i H=>∃ xs x,bY K H a xs/\xs[i]? = some x,fun i H x I=>I=H/\∀ xs,bY K H a xs->xs[i]? = some x,fun i H=>∃ xs,bY K H a xs/\xs.length <= i⟩
noncomputable def jJ (lo:Int) (n:Nat):hJ:=⟨fun i _=>i < n,fun i H x I=>I=H/\x=.int (lo + i),fun i _=>n <= i⟩
theorem ajq {w:World} {K:a4} (a it:Addr):l6 P w K cz (lr K a) [it] it (fun i h=>h.IsListIter it a i) where
 mem:=by simp
 obj:=fun i h st b ab=>by
  have e:b=it:=by simpa using ab
  subst e;obtain ⟨o,e,c,d⟩:=st;exact ⟨o,e,fun v z=>by rw [d] at z;cases z⟩
 keep:=fun i h h' st k=>st.at fun o e=>k it (by simp) o e
 item:=by
  intro X dC hw d0 ar i aa s σ H E J hf st bj;subst dC hw d0;obtain ⟨xs,x,aB,ak⟩:=bj;obtain ⟨aI,bV,p,aD⟩:=J.list aB;obtain ⟨u,ba,dD⟩:=bV.get ak;obtain ⟨f0,f1,f2,d3,f4,el⟩:=hf it (by simp);refine wpAny_pyNext_list_item st p.isList (x:=u) (by simpa using ba) fun h' j3 gV=>?_
  have aK:Inv X aa σ H { s with heap:=h' }:=J.turned (t':=s.toks) (fun b o ab e=>(gV.2 b ab).trans e) f0 f1 d3 f4 el;obtain ⟨o,e,c,d⟩:=id j3;exact ⟨u,rfl,vC (s:={ s with heap:=h' }) e c d (by decide) ⟨x,H,aK,dD,⟨rfl,fun ys aT=>by rw [J.CJ aT aB];exact ak⟩,j3,fun b ab=>(hf b ab).1⟩⟩
 done:=by
  intro X dC hw d0 ar i aa s σ H E J hf st bj;subst dC hw d0;obtain ⟨xs,aB,ak⟩:=bj;obtain ⟨aI,bV,p,aD⟩:=J.list aB;obtain ⟨f0,f1,f2,d3,f4,el⟩:=hf it (by simp);have ax:=bV.length;exact wpAny_pyNext_list_end (J.ok.hd ar) st p.isList (by simp;omega) fun h' ef=>⟨rfl,J.turned (t':=s.toks) (fun b o ab e=>ef b o ab e) f0 f1 d3 f4 el⟩
 self:=fun _ _ _ _ _ st h=>wpAny_pyIter_listiter st h
theorem VP {w:World} {K:a4} (a it:Addr):l6 P w K cz (zw K a) [it] it (fun i h=>h.IsTupleIter it a i) where
 mem:=by simp
 obj:=fun i h st b ab=>by
  have e:b=it:=by simpa using ab
  subst e;obtain ⟨o,e,c,d⟩:=st;exact ⟨o,e,fun v z=>by rw [d] at z;cases z⟩
 keep:=fun i h h' st k=>st.at fun o e=>k it (by simp) o e
 item:=by
  intro X dC hw d0 ar i aa s σ H E J hf st bj;subst dC hw d0;obtain ⟨xs,x,aB,ak⟩:=bj;obtain ⟨aI,bV,p,aD⟩:=J.tuple aB;obtain ⟨u,ba,dD⟩:=bV.get ak;obtain ⟨f0,f1,f2,d3,f4,el⟩:=hf it (by simp);refine wpAny_pyNext_tuple_item st (show s.heap.IsTuple a aI.toArray from p) (x:=u) (by simpa using ba) fun h' j3 gV=>?_
  have aK:Inv X aa σ H { s with heap:=h' }:=J.turned (t':=s.toks) (fun b o ab e=>(gV.2 b ab).trans e) f0 f1 d3 f4 el;obtain ⟨o,e,c,d⟩:=id j3;exact ⟨u,rfl,vC (s:={ s with heap:=h' }) e c d (by decide) ⟨x,H,aK,dD,⟨rfl,fun ys aT=>by rw [J.Ua aT aB];exact ak⟩,j3,fun b ab=>(hf b ab).1⟩⟩
 done:=by
  intro X dC hw d0 ar i aa s σ H E J hf st bj;subst dC hw d0;obtain ⟨xs,aB,ak⟩:=bj;obtain ⟨aI,bV,p,aD⟩:=J.tuple aB;obtain ⟨f0,f1,f2,d3,f4,el⟩:=hf it (by simp);have ax:=bV.length;exact wpAny_pyNext_tuple_end (J.ok.hd ar) st (show s.heap.IsTuple a aI.toArray from p) (by simp;omega) fun h' ef=>⟨rfl,J.turned (t':=s.toks) (fun b o ab e=>ef b o ab e) f0 f1 d3 f4 el⟩
 self:=fun _ _ _ _ _ st h=>wpAny_pyIter_tupleiter st h
theorem ajr {w:World} {K:a4} (it:Addr) (lo:Int) (n:Nat):l6 P w K cz (jJ lo n) [it] it (fun i h=>IsRangeIter h it (lo + (i:Nat) * 1) ((n:Int) - (i:Nat)) 1) where
 mem:=by simp
 obj:=fun i h st b ab=>by
  have e:b=it:=by simpa using ab
  subst e;exact ⟨_,st,fun v z=>by
   have dk:H6 _=yw v:=z;cases dk⟩
 keep:=fun i h h' st k=>k it (by simp) _ st
 item:=by
  intro X dC hw d0 ar i aa s σ H E J hf st bj;subst dC hw d0;obtain ⟨f0,f1,f2,d3,f4,el⟩:=hf it (by simp);have W:=Walks.range (prog:=X.prog) (w:=X.w) (J.ok.hd ar) it lo 1 n;refine W.item i s _ _ bj st fun v h' cG aU j3 nB=>?_
  obtain ⟨t,rfl⟩:=aU;have aK:Inv X aa σ H { s with heap:=h',toks:=cG }:=J.turned (fun b o ab e=>nB b o (by simpa using ab) e) f0 f1 d3 f4 el;refine ⟨_,rfl,vC (s:={ s with heap:=h',toks:=cG }) (n := "range_iterator") j3 rfl rfl (by decide) ⟨.int (lo + i),H,aK,⟨t,?_⟩,⟨rfl,rfl⟩,j3,fun b ab=>(hf b ab).1⟩⟩;rw [Int.mul_one]
 done:=by
  intro X dC hw d0 ar i aa s σ H E J hf st bj;subst dC hw d0;obtain ⟨f0,f1,f2,d3,f4,el⟩:=hf it (by simp);exact wpAny_pyNext_range_end (J.ok.hd ar) st (by have:n <= i:=bj;omega) fun h' ef=>⟨rfl,J.turned (t':=s.toks) (fun b o ab e=>ef b o ab e) f0 f1 d3 f4 el⟩
 self:=fun _ _ _ _ _ st h=>wpAny_pyIter_rangeiter st h
section
variable {X:aP} {cz:Expr}
noncomputable def Jo (K:a4) (dp:TE):TI:=fun σ H R=>dp σ H fun x H1=>eC x fun a=>(∃ xs,aW K H1 a xs)/\R (lr K a) H1
noncomputable def Ju (K:a4) (dp:TE):TI:=fun σ H R=>dp σ H fun x H1=>eC x fun a=>(∃ xs,bY K H1 a xs)/\R (zw K a) H1
theorem iP (ax:bk X l dp):kA X cz l (Jo X.K dp):=by
 intro aa s σ H R J h;refine bq (ax aa s σ H _ J h) fun v s1 b3=>dG b3 fun x H1 aK bR bF=>?_
 obtain ⟨a,e,⟨xs,aB⟩,q⟩:=eC.out bF;subst e;cases bR;obtain ⟨aI,bV,p,aD⟩:=aK.list aB;refine wpAny_pyIter_list p.isList ?_;refine ⟨s1.heap.objs.size,[s1.heap.objs.size],_,_,H1,rfl,aK.kept (t':=s1.toks) fun b o e=>c6 _ e,ajq a _,⟨_,en _ rfl,rfl,rfl⟩,fun b ab=>?_,q⟩;have e:b=s1.heap.objs.size:=by simpa using ab
 subst e;exact aK.jc (bu _) (aK.a6.fresh (bu _))
theorem TO (ax:bk X l dp):kA X cz l (Ju X.K dp):=by
 intro aa s σ H R J h;refine bq (ax aa s σ H _ J h) fun v s1 b3=>dG b3 fun x H1 aK bR bF=>?_
 obtain ⟨a,e,⟨xs,aB⟩,q⟩:=eC.out bF;subst e;cases bR;obtain ⟨aI,bV,p,aD⟩:=aK.tuple aB;refine wpAny_pyIter_tuple (show s1.heap.IsTuple a aI.toArray from p) ?_;refine ⟨s1.heap.objs.size,[s1.heap.objs.size],_,_,H1,rfl,aK.kept (t':=s1.toks) fun b o e=>c6 _ e,VP a _,⟨_,en _ rfl,rfl,rfl⟩,fun b ab=>?_,q⟩;have e:b=s1.heap.objs.size:=by simpa using ab
 subst e;exact aK.jc (bu _) (aK.a6.fresh (bu _))
theorem L5 {aa:List (Addr × Obj)} {σ:St} {H:aq} {s:Shared} {R:hJ->aq->Prop} {E:Value->Shared->Prop} {lo aj:Int} {t u v:Tok} {cG:Nat} (J:Inv X aa σ H s) (af:-(2 ^ 62) <= lo) (ai:lo < 2 ^ 62) (br:-(2 ^ 62) <= aj) (cm:aj < 2 ^ 62)
  (q:R (jJ lo (aj - lo).toNat) H):wpAny (model X.prog X.w) X.A (pyIter (.ref s.heap.objs.size)) (L9 X aa σ cz R) E { s with heap:=s.heap.push { cls:=.type "range",data:=.fields #[.int lo t,.int aj u,.int 1 v] },toks:=cG }:=by
 refine wpAny_pyIter_range (IsRange.new ..) (small_one af ai br cm) ?_;have aK:Inv X aa σ H { s with heap:=s.heap.push { cls:=.type "range",data:=.fields #[.int lo t,.int aj u,.int 1 v] },toks:=cG }:=J.kept fun b o e=>c6 _ e
 refine ⟨(s.heap.push { cls:=.type "range",data:=.fields #[.int lo t,.int aj u,.int 1 v] }).objs.size,[(s.heap.push { cls:=.type "range",data:=.fields #[.int lo t,.int aj u,.int 1 v] }).objs.size],_,_,H,rfl,
  aK.kept (t':=cG) fun b o e=>c6 _ e,ajr _ lo (aj - lo).toNat,?_,fun b ab=>?_,q⟩
 .have aw:lo + ((0:Nat):Int) * 1=lo:=by simp
  have az:(((aj - lo).toNat:Nat):Int) - ((0:Nat):Int)=ali lo aj 1:=by rw [rangeSize_one];split <;> omega
  show IsRangeIter _ _ (lo + ((0:Nat):Int) * 1) ((((aj - lo).toNat:Nat):Int) - ((0:Nat):Int)) 1;rw [aw,az];exact en _ rfl
 .have e:b=(s.heap.push { cls:=.type "range",data:=.fields #[.int lo t,.int aj u,.int 1 v] }).objs.size:=by simpa using ab
  subst e;exact aK.jc (bu _) (aK.a6.fresh (bu _))
noncomputable def SI (aV:d2):TI:=fun σ H R=>aV σ H fun vs H1=>k' vs fun x=>fC x fun j=>-(2 ^ 62) <= j/\j < 2 ^ 62/\R (jJ 0 j.toNat) H1
noncomputable def N2 (aV:d2):TI:=fun σ H R=>aV σ H fun vs H1=>∃ i j:Int,vs=[.int i,.int j]/\(-(2 ^ 62) <= i/\i < 2 ^ 62/\-(2 ^ 62) <= j/\j < 2 ^ 62)/\R (jJ i (j - i).toNat) H1
theorem mV {a:Expr} {aV:d2} {p pos:Pos} (bj:hn X "range") (hm:X.ah "range"=none) (aO:ei X [a] aV) (aG:starEach [a] X.env=[(false,eval a X.env)]:=by rfl):kA X cz (.Call (.Name "range" p) [a] [] pos) (SI aV):=by
 intro aa s σ H R J h;refine Call_ (pV J bj hm boot_range (v' (bq (aO pos aa s σ H _ J h) fun us s1 b0=>?_) aG rfl));obtain ⟨vs,H1,aK,bR,bF⟩:=b0;obtain ⟨XT,Zy,gU⟩:=k'.out bF;obtain ⟨j,Pt,acG,cA,q⟩:=fC.out gU;have e:=Zy.trans (congrArg (fun z=>[z]) Pt);subst e;cases bR with
 | cons r i2=>
  cases i2;obtain ⟨t,rfl⟩:=r;exact call_range_1 (L5 aK (by omega) (by omega) acG cA (by simpa using q))
theorem L_ {p pos:Pos} (bj:hn X "range") (hm:X.ah "range"=none) (aO:ei X [a,b] aV) (aG:starEach [a,b] X.env=[(false,eval a X.env),(false,eval b X.env)]:=by rfl) (fN:starEach [b] X.env=[(false,eval b X.env)]:=by rfl) :
  kA X cz (.Call (.Name "range" p) [a,b] [] pos) (N2 aV):=by
 intro aa s σ H R J h;refine Call_ (pV J bj hm boot_range (v' (bq (aO pos aa s σ H _ J h) fun us s1 b0=>?_) (by rw [aG,fN]) (by rw [fN];rfl)));obtain ⟨vs,H1,aK,bR,bF⟩:=b0;obtain ⟨i,j,e,⟨bF,cA,eV,lX⟩,q⟩:=bF;subst e;cases bR with
 | cons r i2=>
  cases i2 with
  | cons d1 i2=>
   cases i2;obtain ⟨t,rfl⟩:=r;obtain ⟨t',rfl⟩:=d1;exact call_range_2 (L5 aK bF cA eV lX q)
noncomputable def FS (ek:TI) (g:e1) (ct:dz):dz:=fun D σ H=>ek σ H fun b4 H1=>∃ W:Nat->Nat->St->aq->Prop,(∃ m,W 0 m σ H1)/\∀ i m σ H,W i m σ H ->
 (b4.stop i H/\D.cg σ H)\/(b4.go i H/\∃ N:St->aq->Prop,(∀ aL I,N aL I->∃ c2,c2 < m/\W (i + 1) c2 aL I)/\∀ x I,b4.pN i H x I->g x σ I fun c4 ay=>ct { D with cg:=N,e9:=N,cq:=D.cg } c4 ay)
noncomputable def tL (a9:List Addr) (h:Heap):List (Addr × Obj):=a9.filterMap fun b=>(h.get? b).map fun o=>(b,o)
theorem tS {h:Heap} (ab:b ∈ a9) (e:h.get? b=some o):(b,o) ∈ tL a9 h:=Hk.mpr ⟨b,ab,by rw [e];rfl⟩
theorem acN {h:Heap} {p:Addr × Obj} (ao:p ∈ tL a9 h):p.1 ∈ a9/\h.get? p.1=some p.2:=by
 obtain ⟨b,ab,e⟩:=Hk.mp ao;cases q:h.get? b with
 | none=>rw [q] at e;cases e
 | some o=>
  rw [q] at e;have cy:(b,o)=p:=dj e;subst cy;exact ⟨ab,q⟩
theorem Inv.pinned (J:Inv X aa σ H s) (hf:∀ b ∈ a9,gm X aa H b) (aZ:∀ b ∈ a9,∃ o,s.heap.get? b=some o/\∀ v,o.data ≠ .cell v):Inv X (aa ++ tL a9 s.heap) σ H s:=
 J.p2 fun p ao=>(hB.mp ao).elim (fun z=>J.pin p (jP _ z)) fun z=>by
  obtain ⟨ab,e⟩:=acN z;obtain ⟨f0,f1,f2,_⟩:=hf p.1 ab;obtain ⟨o,cy,d⟩:=aZ p.1 ab;rw [e] at cy;cases cy;exact ⟨e,f0,f1,f2,d⟩
theorem Inv.wU (J:Inv X (aa ++ pl) σ H s):Inv X aa σ H s:=J.p2 fun p ao=>J.pin p (jP _ (sM _ ao))
theorem ho (ao:PassesOwn (model X.prog X.w) X.A X.env X.cK) (ar:X.calm=true) (aj:kA X cz iter ek) (bj:lB X cz g) (ab:f_ X body ct)
  (aG:∀ x,foldedSetIterable iter X.env x=pure x:=by intro _;rfl):e2 X (.For cz iter body [] pos) (FS ek g ct):=by
 intro aa s σ H D J h;refine wpAny_For (bq (aj aa s σ H _ J h) fun v s1 af=>bq af fun wo s2 ai=>?_) aG;obtain ⟨it,a9,du,b4,ay,e,bl,T,kp,f2,W,⟨m0,hY⟩,turn⟩:=ai;subst e;have stat:∀ {I:aq},(∀ b ∈ a9,I b=none)->∀ b ∈ a9,gm X aa I b:=fun aH b ab=>⟨aH b ab,(f2 b ab).2⟩
 refine codeAny_forLoop_any (fun n s'=>∃ i aL I,Inv X aa aL I s'/\du i s'.heap/\(∀ b ∈ a9,I b=none)/\W i n aL I) ?_ m0 ⟨0,σ,ay,bl,kp,fun b ab=>(f2 b ab).1,hY⟩;rintro n s3 ⟨i,jF,bA,dA,Mz,Rx,gR⟩;rcases turn i n jF bA gR with ⟨stop,rV⟩ | ⟨go,N,bx,step⟩
 .refine wpAny_passesOwn ao (bq (T.done X rfl rfl rfl ar i aa s3 jF bA X.cK dA (stat Rx) Mz stop) fun r s4 b0=>?_);obtain ⟨av,fT⟩:=b0;subst av;exact wpAny_execs_nil ⟨jF,bA,fT,rV⟩
 .refine wpAny_passesOwn ao (bq (T.item X rfl rfl rfl ar i aa s3 jF bA X.cK dA (stat Rx) Mz go) fun r s4 b0=>?_);obtain ⟨u,av,cm⟩:=b0;subst av;refine wpAny_passesOwn ao (bq cm fun _ s5 b0=>?_);obtain ⟨x,fY,rk,oQ,yl,mL,yN⟩:=b0;have vr:=rk.pinned (stat yN) (T.obj _ _ mL);refine wpAny_passesOwn ao (bq (bj _ s5 jF fY x u _ vr oQ (step x fY yl)) fun _ e5 b0=>?_);obtain ⟨mw,la,kx,px⟩:=b0;refine wpAny_passesOwn ao (bq (ab _ e5 mw la _ kx px) fun f hD jZ=>?_);have again:∀ {kC:St} {hb:aq},Inv X (aa ++ tL a9 s5.heap) kC hb hD->N kC hb->∃ m,m < n/\∃ i aL I,Inv X aa aL I hD/\du i hD.heap/\(∀ b ∈ a9,I b=none)/\W i m aL I:=fun {kC hb} h_ m1=>by
   obtain ⟨c2,hm,lV⟩:=bx kC hb m1;refine ⟨c2,hm,i + 1,kC,hb,h_.wU,T.keep _ _ _ mL fun b ab o e=>(h_.pin (b,o) (jP _ (jP _ (tS ab e)))).1,fun b ab=>?_,lV⟩;obtain ⟨o,e,d⟩:=T.obj _ _ mL b ab;exact (h_.pin (b,o) (jP _ (jP _ (tS ab e)))).2.1
  cases f with
  | next=>obtain ⟨kC,hb,h_,m1⟩:=jZ;exact again h_ m1
  | cont=>obtain ⟨kC,hb,h_,m1⟩:=jZ;exact again h_ m1
  | brk=>obtain ⟨kC,hb,h_,jZ⟩:=jZ;exact ⟨kC,hb,h_.wU,jZ⟩
  | ret v=>obtain ⟨iX,kC,hb,h_,Dp,jZ⟩:=jZ;exact ⟨iX,kC,hb,h_.wU,Dp,jZ⟩
end
theorem X6 {K:a4} {a:Addr} {xs:List V} {g:e1} {ct:dz} {D:gz} {σ:St} {H:aq} (Pv:Nat->St->aq->Prop) (h0:Pv 0 σ H) (ax:∀ i σ H,i <= xs.length->Pv i σ H->aW K H a xs)
  (aG:∀ i x σ H,xs[i]? = some x->Pv i σ H->g x σ H fun c4 ay=>ct { D with cg:=Pv (i + 1),e9:=Pv (i + 1),cq:=D.cg } c4 ay) (hd:∀ σ H,Pv xs.length σ H->D.cg σ H) :
  ∃ W:Nat->Nat->St->aq->Prop,(∃ m,W 0 m σ H)/\∀ i m σ H,W i m σ H ->
   ((lr K a).stop i H/\D.cg σ H)\/((lr K a).go i H/\∃ N:St->aq->Prop,(∀ aL I,N aL I->∃ c2,c2 < m/\W (i + 1) c2 aL I)/\∀ x I,(lr K a).pN i H x I->g x σ I fun c4 ay=>ct { D with cg:=N,e9:=N,cq:=D.cg } c4 ay):=by
 refine ⟨fun i m σ H=>m=xs.length - i/\i <= xs.length/\Pv i σ H,⟨xs.length,by simp,fL _,h0⟩,?_⟩;rintro i m σ H ⟨rfl,aj,p⟩;have q:=ax i σ H aj p;by_cases cH:i < xs.length
 .refine .inr ⟨⟨xs,xs[i],q,by simp [cH]⟩,Pv (i + 1),fun aL I iu=>⟨xs.length - (i + 1),by omega,rfl,cH,iu⟩,fun x I y=>?_⟩;obtain ⟨e,y⟩:=y;subst e;exact aG i x σ _ (y xs q) p
 .have e:i=xs.length:=by omega
  subst e;exact .inl ⟨⟨xs,q,bu _⟩,hd σ H p⟩
theorem aaw {lo:Int} {n:Nat} {g:e1} {ct:dz} {D:gz} {σ:St} {H:aq} (Pv:Nat->St->aq->Prop) (h0:Pv 0 σ H)
  (aG:∀ i σ H,i < n->Pv i σ H->g (.int (lo + i)) σ H fun c4 ay=>ct { D with cg:=Pv (i + 1),e9:=Pv (i + 1),cq:=D.cg } c4 ay) (hd:∀ σ H,Pv n σ H->D.cg σ H) :
  ∃ W:Nat->Nat->St->aq->Prop,(∃ m,W 0 m σ H)/\∀ i m σ H,W i m σ H ->
   ((jJ lo n).stop i H/\D.cg σ H)\/((jJ lo n).go i H/\∃ N:St->aq->Prop,(∀ aL I,N aL I->∃ c2,c2 < m/\W (i + 1) c2 aL I)/\∀ x I,(jJ lo n).pN i H x I->g x σ I fun c4 ay=>ct { D with cg:=N,e9:=N,cq:=D.cg } c4 ay):=by
 refine ⟨fun i m σ H=>m=n - i/\i <= n/\Pv i σ H,⟨n,by simp,fL _,h0⟩,?_⟩;rintro i m σ H ⟨rfl,aj,p⟩;by_cases cH:i < n
 .refine .inr ⟨cH,Pv (i + 1),fun aL I iu=>⟨n - (i + 1),by omega,rfl,cH,iu⟩,fun x I y=>?_⟩;obtain ⟨e,y⟩:=y;subst e y;exact aG i σ _ cH p
 .have e:i=n:=by omega
  subst e;exact .inl ⟨bu _,hd σ H p⟩
noncomputable abbrev ez:=V->V->aq->cc->Prop
def gQ (X:aP) (f:Value->Value->Sem Value) (r:ez):Prop:=
 ∀ (aa:List (Addr × Obj)) (s:Shared) (σ:St) (H:aq) (x y:V) (v u:Value) (Q:cc),Inv X aa σ H s->bD x v->bD y u->r x y H Q ->
  wpAny (model X.prog X.w) X.A (f v u) (fS X aa σ Q) X.cK s
def EF (X:aP) (f:Value->Sem Value) (r:V->aq->cc->Prop):Prop:=
 ∀ (aa:List (Addr × Obj)) (s:Shared) (σ:St) (H:aq) (x:V) (v:Value) (Q:cc),Inv X aa σ H s->bD x v->r x H Q ->
  wpAny (model X.prog X.w) X.A (f v) (fS X aa σ Q) X.cK s
def jK (X:aP) (f:Value) (r:List V->aq->cc->Prop):Prop:=
 ∀ (aa:List (Addr × Obj)) (s:Shared) (σ:St) (H:aq) (xs:List V) (us:List Value) (Q:cc),Inv X aa σ H s->bN xs us->r xs H Q ->
  wpAny (model X.prog X.w) X.A (call f us) (fS X aa σ Q) X.cK s
def ajA (X:aP) (r:V->aq->(Bool->aq->Prop)->Prop):Prop:=
 ∀ (aa:List (Addr × Obj)) (s:Shared) (σ:St) (H:aq) (x:V) (v:Value) (Q:Bool->aq->Prop),Inv X aa σ H s->bD x v->r x H Q ->
  wpAny (model X.prog X.w) X.A (truthy v) (Cf X aa σ Q) X.cK s
noncomputable def sa (r:ez) (aV ct:TE):TE:=fun σ H Q=>aV σ H fun x H1=>ct σ H1 fun y ay=>r x y ay Q
noncomputable def Fi (r:V->aq->cc->Prop) (aV:TE):TE:=fun σ H Q=>aV σ H fun x H1=>r x H1 Q
noncomputable def tk (C:Int->Int->Prop) (g:Int->Int->V):ez:=fun x y H Q=>fC x fun i=>fC y fun j=>C i j/\Q (g i j) H
noncomputable def p4 (g:Int->Int->V):ez:=fun x y H Q=>fC x fun i=>fC y fun j=>Q (g i j) H
noncomputable def z4 (g:Int->V):V->aq->cc->Prop:=fun x H Q=>fC x fun i=>Q (g i) H
section
variable {X:aP} {a b c:Expr} {aV ct cu:TE} {pos:Pos}
theorem Gv (aO:bk X a aV) (ab:bk X b ct) {aa:List (Addr × Obj)} {s:Shared} {σ:St} {H:aq} {R:V->V->aq->Prop} (J:Inv X aa σ H s)
  (h:aV σ H fun x H1=>ct σ H1 fun y ay=>R x y ay) {Q:Value->Shared->Prop} {f:Value->Value->Sem Value}
  (hf:∀ v u s2 x y ay,Inv X aa σ ay s2->bD x v->bD y u->R x y ay->wpAny (model X.prog X.w) X.A (f v u) Q X.cK s2) :
  wpAny (model X.prog X.w) X.A (eval a X.env) (fun v cN=>wpAny (model X.prog X.w) X.A (eval b X.env) (fun u bP=>wpAny (model X.prog X.w) X.A (f v u) Q X.cK bP) X.cK cN) X.cK s:=by
 refine bq (aO aa s σ H _ J h) fun v s1 b3=>dG b3 fun x H1 aK bR bF=>?_
 refine bq (ab aa s1 σ H1 _ aK bF) fun u s2 b3=>dG b3 fun y ay bl cw cA=>?_
 exact hf v u s2 x y ay bl bR cw cA
theorem bS {op:Operator} {r:ez} (aZ:gQ X (binaryOp op) r) (aO:bk X a aV) (ab:bk X b ct):bk X (.BinOp a op b pos) (sa r aV ct):=by
 intro aa s σ H Q J h;exact wpAny_BinOp (Gv aO ab J h fun v u s2 x y ay bl bg bw q=>aZ aa s2 σ ay x y v u Q bl bg bw q)
theorem Oa (aZ:EF X (unaryOp op) r) (aO:bk X a aV):bk X (.UnaryOp op a pos) (Fi r aV):=by
 intro aa s σ H Q J h;exact UnaryOp_ (bq (aO aa s σ H _ J h) fun v s1 b3=>dG b3 fun x H1 aK bR bF=>aZ aa s1 σ H1 x v Q aK bR bF)
theorem Hc {f:Value->Value->Sem Value} {C:Int->Int->Prop} {g:Int->Int->Int}
  (rule:∀ (i j:Int) (t u:Tok) (s:Shared) (Q:Value->Shared->Prop) (E:Value->Shared->Prop),C i j->Q (.int (g i j) s.toks) { s with toks:=s.toks + 1 }->wpAny (model X.prog X.w) X.A (f (.int i t) (.int j u)) Q E s) :
  gQ X f (tk C fun i j=>.int (g i j)):=by
 intro aa s σ H x y v u Q J bg bw h;obtain ⟨i,rfl,gf⟩:=fC.out h;obtain ⟨j,rfl,ar,q⟩:=fC.out gf;obtain ⟨t,rfl⟩:=bg;obtain ⟨t',rfl⟩:=bw;exact rule i j t t' s _ _ ar ⟨.int (g i j),H,J.tok _,⟨_,rfl⟩,q⟩
theorem Ue {f:Value->Value->Sem Value} {g:Int->Int->Int}
  (rule:∀ (i j:Int) (t u:Tok) (s:Shared) (Q:Value->Shared->Prop) (E:Value->Shared->Prop),Q (.int (g i j) s.toks) { s with toks:=s.toks + 1 }->wpAny (model X.prog X.w) X.A (f (.int i t) (.int j u)) Q E s) :
  gQ X f (p4 fun i j=>.int (g i j)):=by
 intro aa s σ H x y v u Q J bg bw h;obtain ⟨i,rfl,gf⟩:=fC.out h;obtain ⟨j,rfl,q⟩:=fC.out gf;obtain ⟨t,rfl⟩:=bg;obtain ⟨t',rfl⟩:=bw;exact rule i j t t' s _ _ ⟨.int (g i j),H,J.tok _,⟨_,rfl⟩,q⟩
theorem S3 {f:Value->Value->Sem Value} {g:Int->Int->Bool}
  (rule:∀ (i j:Int) (t u:Tok) (s:Shared) (Q:Value->Shared->Prop) (E:Value->Shared->Prop),Q (.bool (g i j)) s->wpAny (model X.prog X.w) X.A (f (.int i t) (.int j u)) Q E s) :
  gQ X f (p4 fun i j=>.bp (g i j)):=by
 intro aa s σ H x y v u Q J bg bw h;obtain ⟨i,rfl,gf⟩:=fC.out h;obtain ⟨j,rfl,q⟩:=fC.out gf;obtain ⟨t,rfl⟩:=bg;obtain ⟨t',rfl⟩:=bw;exact rule i j t t' s _ _ ⟨.bp (g i j),H,J,rfl,q⟩
def OO (i j:Int):Prop:=0 < j/\j < 1073741824
def qZ (i j:Int):Prop:=(-(2 ^ 64) < i/\i < 2 ^ 64)\/(-(2 ^ 64) < j/\j < 2 ^ 64)
theorem qZ.ok (h:qZ i j):IntMulOk i j:=by
 rcases h with ⟨af,ai⟩ | ⟨af,ai⟩
 .exact .of_left (intBits_le_64 af ai)
 .exact .of_right (intBits_le_64 af ai)
theorem dJ:gQ X (binaryOp .Add) (p4 fun i j=>.int (i + j)):=Ue fun _ _ _ _ _ _ _ q=>add_int q
theorem oH:gQ X (binaryOp .Sub) (p4 fun i j=>.int (i - j)):=Ue fun _ _ _ _ _ _ _ q=>sub_int q
theorem kf:gQ X (binaryOp .Mult) (tk qZ fun i j=>.int (i * j)):=Hc fun _ _ _ _ _ _ _ ar q=>mul_int q ar.ok
theorem O':gQ X (binaryOp .FloorDiv) (tk OO fun i j=>.int (i / j)):=Hc fun i j _ _ _ _ _ ar q=>by
 have af:(0:Int) < j:=ar.1;have ai:j < 1073741824:=ar.2;exact floordiv_int (by omega) (by rw [Int.fdiv_eq_ediv_of_nonneg i (by omega)];exact q) (.inl (PyProof.noPylong_small (by omega)))
theorem lQ:gQ X (binaryOp .Mod) (tk (fun _ j=>0 < j) fun i j=>.int (i % j)):=Hc fun i j _ _ _ _ _ ar q=>by
 have af:(0:Int) < j:=ar;exact mod_int' (by omega) (by rw [Int.fmod_eq_emod_of_nonneg i (by omega)];exact q)
theorem Yo {f:Value->Sem Value} {g:Int->Int}
  (rule:∀ (i:Int) (t:Tok) (s:Shared) (Q:Value->Shared->Prop) (E:Value->Shared->Prop),Q (.int (g i) s.toks) { s with toks:=s.toks + 1 }->wpAny (model X.prog X.w) X.A (f (.int i t)) Q E s) :
  EF X f (z4 fun i=>.int (g i)):=by
 intro aa s σ H x v Q J bg h;obtain ⟨i,rfl,q⟩:=fC.out h;obtain ⟨t,rfl⟩:=bg;exact rule i t s _ _ ⟨.int (g i),H,J.tok _,⟨_,rfl⟩,q⟩
theorem NJ:EF X (unaryOp .USub) (z4 fun i=>.int (-i)):=Yo fun _ _ _ _ _ q=>neg_int q
end
noncomputable def HN:V->V->Bool
 | .bT,.bT=>true | .bT,.int _=>true | .int _,.bT=>true | .bT,.bp _=>true | .bp _,.bT=>true | .bT,.str _=>true | .str _,.bT=>true
 | .int _,.int _=>true | .bp _,.bp _=>true | .str _,.str _=>true | .j1 _,.j1 _=>true
 | .int _,.str _=>true | .str _,.int _=>true | .bp _,.str _=>true | .str _,.bp _=>true
 | _,_=>false
noncomputable def Dk:ez:=fun x y H Q=>HN x y=true/\Q (.bp (decide (x=y))) H
noncomputable def C0:ez:=fun x y H Q=>HN x y=true/\Q (.bp (!decide (x=y))) H
theorem Qi:decide (V.int i=V.int j)=(i == j):=by
 rw [oE];simp
theorem Lc:decide (V.bp i=V.bp j)=(i == j):=by
 rw [oE];simp
theorem L1:decide (V.str i=V.str j)=(i == j):=by
 rw [oE];simp
theorem ME:decide (V.j1 i=V.j1 j)=(i.toList == j.toList):=by
 rw [oE];cases i;cases j;simp
section
variable {X:aP} {a b c:Expr} {aV ct cu:TE} {pos:Pos}
theorem eK {k MX:Bool} (J:Inv X aa σ H s) (q:Q (.bp k) H) (e:k=MX):fS X aa σ Q (.bool MX) s:=by
 subst e;exact ⟨.bp k,H,J,rfl,q⟩
theorem fw:gQ X (compareOp .Eq) Dk:=by
 intro aa s σ H x y v u Q J bg bw h;obtain ⟨aG,q⟩:=h;cases x with
 | bT=>
  cases bg;cases y with
  | bT=>cases bw;exact ak_ (eK J q (by simp))
  | bp j=>cases bw;exact amo (eK J q (by simp))
  | int j=>obtain ⟨t',rfl⟩:=bw;exact akT (eK J q (by simp))
  | str j=>obtain ⟨t',rfl⟩:=bw;exact alM (eK J q (by simp))
  | _=>exact absurd (show false=true from aG) fh
 | bp i=>
  cases bg;cases y with
  | bT=>cases bw;exact alI (eK J q (by simp))
  | bp j=>cases bw;exact eq_bool (eK J q Lc)
  | str j=>obtain ⟨t',rfl⟩:=bw;exact als (eK J q (by simp))
  | _=>exact absurd (show false=true from aG) fh
 | int i=>
  obtain ⟨t,rfl⟩:=bg;cases y with
  | bT=>cases bw;exact alu (eK J q (by simp))
  | int j=>obtain ⟨t',rfl⟩:=bw;exact eq_int (eK J q Qi)
  | str j=>obtain ⟨t',rfl⟩:=bw;exact am0 (eK J q (by simp))
  | _=>exact absurd (show false=true from aG) fh
 | str i=>
  obtain ⟨t,rfl⟩:=bg;cases y with
  | bT=>cases bw;exact amX (eK J q (by simp))
  | bp j=>cases bw;exact ams (eK J q (by simp))
  | int j=>obtain ⟨t',rfl⟩:=bw;exact alc (eK J q (by simp))
  | str j=>obtain ⟨t',rfl⟩:=bw;exact eq_str (eK J q L1)
  | _=>exact absurd (show false=true from aG) fh
 | j1 i=>
  obtain ⟨t,rfl⟩:=bg;cases y with
  | j1 j=>obtain ⟨t',rfl⟩:=bw;exact PySem.W.eq_bytes (eK J q ME)
  | _=>exact absurd (show false=true from aG) fh
 | _=>cases y <;> exact absurd (show false=true from aG) fh
theorem l5:gQ X (compareOp .NotEq) C0:=by
 intro aa s σ H x y v u Q J bg bw h;obtain ⟨aG,q⟩:=h;cases x with
 | bT=>
  cases bg;cases y with
  | bT=>cases bw;exact alD (eK J q (by simp))
  | bp j=>cases bw;exact alE (eK J q (by simp))
  | int j=>obtain ⟨t',rfl⟩:=bw;exact amO (eK J q (by simp))
  | str j=>obtain ⟨t',rfl⟩:=bw;exact akU (eK J q (by simp))
  | _=>exact absurd (show false=true from aG) fh
 | bp i=>
  cases bg;cases y with
  | bT=>cases bw;exact al_ (eK J q (by simp))
  | bp j=>cases bw;exact ne_bool (eK J q (congrArg not Lc))
  | str j=>obtain ⟨t',rfl⟩:=bw;exact alU (eK J q (by simp))
  | _=>exact absurd (show false=true from aG) fh
 | int i=>
  obtain ⟨t,rfl⟩:=bg;cases y with
  | bT=>cases bw;exact alK (eK J q (by simp))
  | int j=>obtain ⟨t',rfl⟩:=bw;exact ne_int (eK J q (congrArg not Qi))
  | str j=>obtain ⟨t',rfl⟩:=bw;exact ak1 (eK J q (by simp))
  | _=>exact absurd (show false=true from aG) fh
 | str i=>
  obtain ⟨t,rfl⟩:=bg;cases y with
  | bT=>cases bw;exact amn (eK J q (by simp))
  | bp j=>cases bw;exact ala (eK J q (by simp))
  | int j=>obtain ⟨t',rfl⟩:=bw;exact alf (eK J q (by simp))
  | str j=>obtain ⟨t',rfl⟩:=bw;exact ne_str (eK J q (congrArg not L1))
  | _=>exact absurd (show false=true from aG) fh
 | j1 i=>
  obtain ⟨t,rfl⟩:=bg;cases y with
  | j1 j=>obtain ⟨t',rfl⟩:=bw;exact PySem.W.ne_bytes (eK J q (congrArg not ME))
  | _=>exact absurd (show false=true from aG) fh
 | _=>cases y <;> exact absurd (show false=true from aG) fh
theorem sh:gQ X (compareOp .Lt) (p4 fun i j=>.bp (decide (i < j))):=S3 fun _ _ _ _ _ _ _ q=>lt_int q
theorem qM:gQ X (compareOp .Gt) (p4 fun i j=>.bp (decide (j < i))):=S3 fun _ _ _ _ _ _ _ q=>gt_int q
theorem abJ:gQ X (compareOp .In) (fun x y H Q=>∃ i j,x=.str i/\y=.str j/\Q (.bp (!(mn j i 0 j.length 1).isEmpty)) H):=by
 intro aa s σ H x y v u Q J bg bw h;obtain ⟨i,j,rfl,rfl,q⟩:=h;obtain ⟨t,rfl⟩:=bg;obtain ⟨t',rfl⟩:=bw;exact in_str (eK J q rfl)
theorem Jb:gQ X (compareOp .Is) (fun x y H Q=>y=.bT/\Q (.bp (decide (x=.bT))) H):=by
 intro aa s σ H x y v u Q J bg bw h;obtain ⟨rfl,q⟩:=h;cases bw;refine is_none_gen (eK J q ?_);cases x <;> first
  | (cases bg;rfl)
  | (obtain ⟨t,rfl⟩:=bg;rfl)
theorem Gd:gQ X (compareOp .IsNot) (fun x y H Q=>y=.bT/\Q (.bp (!decide (x=.bT))) H):=by
 intro aa s σ H x y v u Q J bg bw h;obtain ⟨rfl,q⟩:=h;cases bw;refine isnot_none_gen (eK J q ?_);cases x <;> first
  | (cases bg;rfl)
  | (obtain ⟨t,rfl⟩:=bg;rfl)
theorem lc (b:Expr) (h:op ≠ .In:=by decide) (ai:op ≠ .NotIn:=by decide):behindInMarks op b=false:=by
 have aw:(op == CmpOp.In)=false:=by cases op <;> first | rfl | exact absurd rfl h
 have az:(op == X')=false:=by cases op <;> first | rfl | exact absurd rfl ai
 cases b <;> simp [behindInMarks,aw,az]
theorem iH (aZ:gQ X (compareOp op) r) (aO:bk X a aV) (ab:bk X b ct) (hm:behindInMarks op b=false):bk X (.Compare a [op] [b] pos) (sa r aV ct):=by
 intro aa s σ H Q J h;exact wpAny_Compare1 (Gv aO ab J h fun v u s2 x y ay bl bg bw q=>aZ aa s2 σ ay x y v u Q bl bg bw q) hm
noncomputable def FC (t:TE):TT:=fun σ H Q=>t σ H fun x I=>j8 x fun k=>Q k I
theorem cU (aZ:gQ X (compareOp op) r) (aO:bk X a aV) (ab:bk X b ct) (hm:behindInMarks op b=false):hi X (.Compare a [op] [b] pos) (FC (sa r aV ct)):=by
 intro aa s σ H Q J h;refine wpAny_isTrue_Compare1 (bq (aO aa s σ H _ J h) fun v s1 b3=>dG b3 fun x H1 aK bR bF=>bq (ab aa s1 σ H1 _ aK bF) fun u s2 ⟨y,ay,bl,cw,cA⟩=>
  bq (aZ aa s2 σ ay x y v u _ bl bR cw cA) fun c s3 b3=>dG b3 fun z bA dA mB gU=>?_) hm
 obtain ⟨k,e,eV⟩:=j8.out gU;subst e;cases mB;exact wpAny_truthy_bool ⟨bA,dA,eV⟩
def PZ (K:a4) (x:V) (H:aq) (k:Bool):Prop:=
 match x with
 | .bT=>k=false
 | .bp b=>k=b
 | .int i=>k=(i != 0)
 | .str y=>y.length <= sizeLine/\k=((y.length:Int) != 0)
 | .j1 y=>y.size <= sizeLine/\k=((y.size:Int) != 0)
 | .ref p=>(∃ xs,aW K H p xs/\k = !xs.isEmpty)\/(∃ xs,bY K H p xs/\k = !xs.isEmpty)\/∃ aE,H p=some (.dN aE)/\k = !aE.isEmpty
 | _=>False
theorem acP (r:hu aE vs):(!vs.isEmpty) = !aE.isEmpty:=by
 cases r <;> rfl
theorem Rg {aI:List Value} (r:bN xs aI):(!aI.toArray.isEmpty) = !xs.isEmpty:=by
 cases r <;> simp
theorem r4:(sizeLine:Nat) < 2 ^ 63:=by rw [sizeLine_eq];decide
theorem Wx:ajA X (fun x H Q=>∃ k,PZ X.K x H k/\Q k H):=by
 intro aa s σ H x v Q J bg h;obtain ⟨k,e,q⟩:=h;have ax:=r4;have aG:sizeLine=16777216:=sizeLine_eq;cases x with
 | bT=>
  cases bg;have cy:k=false:=e;subst cy;exact truthy_none ⟨H,J,q⟩
 | bp b=>
  cases bg;have cy:k=b:=e;subst cy;exact wpAny_truthy_bool ⟨H,J,q⟩
 | int i=>
  obtain ⟨t,rfl⟩:=bg;have cy:k=(i != 0):=e;subst cy;exact PySem.P.truthy_int ⟨H,J,q⟩
 | str y=>
  obtain ⟨t,rfl⟩:=bg;obtain ⟨aT,cy⟩:y.length <= sizeLine/\k=((y.length:Int) != 0):=e;subst cy;exact PySem.P.truthy_str (by omega) ⟨H,J.tok _,q⟩
 | j1 y=>
  obtain ⟨t,rfl⟩:=bg;obtain ⟨aT,cy⟩:y.size <= sizeLine/\k=((y.size:Int) != 0):=e;subst cy;exact PySem.W.truthy_bytes (by omega) ⟨H,J.tok _,q⟩
 | ref p=>
  cases bg;have cy:(∃ xs,aW X.K H p xs/\k = !xs.isEmpty)\/(∃ xs,bY X.K H p xs/\k = !xs.isEmpty)\/∃ aE,H p=some (.dN aE)/\k = !aE.isEmpty:=e;rcases cy with ⟨xs,ak,cy⟩ | ⟨xs,ak,cy⟩ | ⟨aE,ak,cy⟩
  .subst cy;obtain ⟨aI,r,pl,aD⟩:=J.list ak;have hlen:=r.length;exact wpAny_truthy_list pl.isList (by simp only [eg];omega) ⟨H,J.tok _,by rw [Rg r];exact q⟩
  .subst cy;obtain ⟨aI,r,pl,aD⟩:=J.tuple ak;have hlen:=r.length;exact truthy_tuple pl (by simp only [eg];omega) ⟨H,J.tok _,by rw [Rg r];exact q⟩
  .subst cy;obtain ⟨aD,gW,vs,r,m⟩:aE.length <= sizeLine/\(p == sysModules)=false/\∃ vs,hu aE vs/\s.heap.DictOf (ig X.prog X.w) p vs:=J.a6 p _ ak;have hlen:aE.length=vs.length:=Gm r;exact wpAny_truthy_dict gW m (by omega) ⟨H,J.tok _,by rw [acP r];exact q⟩
 | _=>exact (show False from e).elim
theorem TF (aO:bk X a aV) (he:∀ whole,isTrue a X.env whole=(do let v <- whole;standAt a.pos;holding [v] (truthy v))) :
  hi X a (fun σ H Q=>aV σ H fun x I=>∃ k,PZ X.K x I k/\Q k I):=by
 intro aa s σ H Q J h;exact isTrue_plain (bq (aO aa s σ H _ J h) fun v s1 b3=>dG b3 fun x H1 aK bR bF=>Wx aa s1 σ H1 x v Q aK bR bF) (he _)
theorem mr:gQ X (binaryOp .Add) (fun x y H Q=>∃ i j,x=.str i/\y=.str j/\i.length + j.length <= sizeLine/\Q (.str (i ++ j)) H):=by
 intro aa s σ H x y v u Q J bg bw h;obtain ⟨i,j,rfl,rfl,aD,q⟩:=h;obtain ⟨t,rfl⟩:=bg;obtain ⟨t',rfl⟩:=bw;exact add_str (fun t' cG=>⟨.str (i ++ j),H,J.tok _,⟨_,rfl⟩,q⟩) aD
theorem Op {x:V} (r:bN [x] us):∃ u,us=[u]/\bD x u:=by
 cases r with
 | cons bR cw=>cases cw;exact ⟨_,rfl,bR⟩
theorem C8 {x y:V} (r:bN [x,y] us):∃ u dX,us=[u,dX]/\bD x u/\bD y dX:=by
 cases r with
 | cons bR cw=>
  cases cw with
  | cons mB yD=>cases yD;exact ⟨_,_,rfl,bR,mB⟩
theorem OH (ar:X.calm=true):jK X (.builtin "max") (fun xs H Q=>∃ i j,xs=[.int i,.int j]/\Q (.int (if j > i then j else i)) H):=by
 intro aa s σ H xs us Q J r h;obtain ⟨i,j,rfl,q⟩:=h;obtain ⟨u,dX,rfl,⟨t,rfl⟩,⟨t',rfl⟩⟩:=C8 r;refine max_two_ints (J.ok.hd ar) fun h' cG k=>⟨_,H,J.kept k,?_,q⟩
 by_cases bf:j > i
 .rw [if_pos bf,if_pos bf];exact ⟨_,rfl⟩
 .rw [if_neg bf,if_neg bf];exact ⟨_,rfl⟩
theorem ado (ar:X.calm=true):jK X (.builtin "min") (fun xs H Q=>∃ i j,xs=[.int i,.int j]/\Q (.int (if j < i then j else i)) H):=by
 intro aa s σ H xs us Q J r h;obtain ⟨i,j,rfl,q⟩:=h;obtain ⟨u,dX,rfl,⟨t,rfl⟩,⟨t',rfl⟩⟩:=C8 r;refine min_two_ints (J.ok.hd ar) fun h' cG k=>⟨_,H,J.kept k,?_,q⟩
 by_cases bf:j < i
 .rw [if_pos bf,if_pos bf];exact ⟨_,rfl⟩
 .rw [if_neg bf,if_neg bf];exact ⟨_,rfl⟩
theorem Uf:jK X (.type "str") (fun xs H Q=>∃ i,xs=[.int i]/\i.natAbs.log2 < 1920/\Q (.str (toString i)) H):=by
 intro aa s σ H xs us Q J r h;obtain ⟨i,rfl,aD,q⟩:=h;obtain ⟨u,rfl,t,rfl⟩:=Op r;exact PySem.P.str_of_int aD ⟨.str _,H,J.tok _,⟨_,rfl⟩,q⟩
end
structure rf (h:Heap) (x au C:Addr) (dt:Str->Option Value):Prop where
 obj:h.get? x=some (rB C au)
 ns:h.Ns1 au dt
 ne:au ≠ x
theorem NN {h:Heap} (n:h.Ns1 au dt):∃ a',h.get? au=some a'/\∀ name,zr name a'=some (dt name):=by
 obtain ⟨o,aF,b5,aZ,hd,aJ,_,hm⟩:=n;refine ⟨o,aZ,fun name=>?_⟩;have e:=hm name;unfold nsFind findBy at e;rw [<- afw] at e;unfold zr;rw [hd];dsimp only;split
 .rename_i y q;rw [q] at e;exact congrArg some e
 .rename_i q;rw [q] at e;have a:aF.toList.any (·.refKey)=false:=by
   rw [UY];intro y aT;obtain ⟨z,t,abL⟩:=aJ y (Kz.mp aT);simp [DictEntry.refKey,abL]
  have t4:¬ aF.toList.any (·.refKey)=true:=by rw [a];exact fh
  rw [if_neg t4];exact congrArg some e
theorem rf.look {h:Heap} {x au C:Addr} (J:rf h x au C dt):∃ a',Ds h x (rB C au) C (some a')/\∀ name,zr name a'=some (dt name):=
 let ⟨a',aZ,ax⟩:=NN J.ns
 ⟨a',⟨J.obj,rfl,rfl,aZ⟩,ax⟩
section
variable {prog:Program} {w:World} {A:Around} {E:Value->Shared->Prop} {s:Shared} {K:a4} {x au C f:Addr} {dt:Str->Option Value} {name:Str} {v:Value}
theorem VN (X:K.In s.heap) (J:rf s.heap x au C dt) (bj:HG K C name=true) (cQ:zY K C=true)
  (aO:dB K (.ref C) name=some none) (aU:dt name=some v) (Et:ahL v=true) (h:Q v { s with toks:=s.toks + 1 }) :
  wpAny (model prog w) A (getAttr (.ref x) name expr) Q E s:=by
 obtain ⟨a',b4,ax⟩:=J.look;exact PySem.W.get_value X b4 (Ni bj).1 (PySem.W.findObj_own cQ aO rfl (by rw [ax,aU])) Et h
theorem Xv (X:K.In s.heap) (J:rf s.heap x au C dt) (bj:HG K C name=true)
  (hf:dB K (.ref C) name=some (some (.ref f))) (cR:Gn K (.ref f)=true) (aU:dt name=none) (h:Q (.ref f,[.ref x]) s) :
  wpAny (model prog w) A (getMethod (.ref x) name pl) Q E s:=by
 obtain ⟨a',b4,ax⟩:=J.look;exact PySem.W.method_fn X b4 (Ni bj).1 (Ni bj).2 hf (beq_iff_eq.mp cR) (by show (zr name a').map (·.isSome)=some false;rw [ax,aU];rfl) h
theorem adI {ns:List Str} (X:K.In s.heap) (J:rf s.heap x au C dt)
  (aG:dB K (.ref C) "__setattr__"=some (some (.builtin "object.__setattr__"))) (ao:ahY K C=true) (cR:Pl K C name=some none) (cQ:zY K C=true)
  (hw:BR dt ns) (hsz:ns.length <= sizeLine)
  (h:∀ h',rf h' x au C (fun y=>if y=name then some v else dt y)->qd au s.heap h'->Q () { s with heap:=h',toks:=s.toks + 2 }) :
  wpAny (model prog w) A (setAttr (.ref x) name v) Q E s:=by
 obtain ⟨a',b4,ax⟩:=J.look;refine Xt X b4 aG (PySem.W.osa_open (s:={ s with toks:=s.toks + 1 }) (r:=none) X b4 ao cR fun b=>?_);obtain ⟨cd,ar,rC⟩:=zE cQ;have ak:s.heap.get? x=some ⟨.ref C,some au,.plain,#[]⟩:=J.obj;refine wpAny_bind (wpAny_pure (wpAny_bind (wpAny_bind (wpAny_loadPart ak (wpAny_bind (ac' (s:={ s with toks:=s.toks + 1 }) (N5 X ar) ?_))))));rw [rC];refine wpAny_pure (a:=some au) (wpAny_bind (wpAny_pure (wpAny_bind ?_)));refine wpAny_nsSet1 (s:={ s with toks:=s.toks + 1 }) J.ns fun h' o' fN=>?_
 obtain ⟨aiB,XM,abm,FH,G2,HW⟩:=o'.count (aaC name v hw);refine wpAny_bind (wpAny_lookBehind FH (by rw [G2];exact pastItsLine_dict (b8 HW (by rw [dr];omega))) ?_);exact wpAny_pure (h _ ⟨(fN.2 _ (c7 J.ne)).trans J.obj,o',J.ne⟩ fN)
theorem ads (X:K.In s.heap) (hm:YT K C=true)
  (aj:dB K (.ref C) "__init__"=some (some (.ref f))) (hf:T8 K (.ref f)=some (.type "function"))
  (h:codeAny (model prog w) (A.under (.builtin "type.__call__" ⟨.ref C :: vs,kw⟩)) (.call (.ref f) ⟨.ref (s.heap.objs.size + 1) :: vs,kw⟩) (Z4 (s.heap.objs.size + 1) R)
   { s with heap:=(s.heap.push i_).push (rB C s.heap.objs.size) }) :
  codeAny (model prog w) A (.call (.ref C) ⟨vs,kw⟩) R s:=by
 obtain ⟨cQ,g,d,t,os⟩:=s;exact PySem.W.make_core (PySem.W.makes_of X hm) (Ci X aj) (fun self=>afS X self hf) (.inl rfl) h
end
noncomputable def Tk (f:Str) (v:V):List (Str × V)->List (Str × V)
 | []=>[(f,v)]
 | (g,x) :: r=>if g=f then (g,v) :: r else (g,x) :: Tk f v r
theorem Ou (f g:Str) (v:V):∀ aQ:List (Str × V),(Tk f v aQ).lookup g=if g=f then some v else aQ.lookup g
 | []=>by
  show nj g [(f,v)]=_;by_cases h:g=f
  .have ab:(g == f)=true:=beq_iff_eq.mpr h;simp only [nj,ab,if_pos h]
  .have ab:(g == f)=false:=beq_eq_false_iff_ne.mpr h;simp only [nj,ab,if_neg h]
 | (k,x) :: r=>by
  have a_:=Ou f g v r;rw [show Tk f v ((k,x) :: r)=(if k=f then (k,v) :: r else (k,x) :: Tk f v r) from rfl];by_cases aJ:k=f
  .rw [if_pos aJ];by_cases h:g=k
   .have ab:(g == k)=true:=beq_iff_eq.mpr h;simp only [nj,ab,if_pos (h.trans aJ)]
   .have ab:(g == k)=false:=beq_eq_false_iff_ne.mpr h;simp only [nj,ab,if_neg (fun e:g=f=>h (e.trans aJ.symm))]
  .rw [if_neg aJ];by_cases h:g=k
   .have ab:(g == k)=true:=beq_iff_eq.mpr h;simp only [nj,ab,if_neg (fun e:g=f=>aJ (h.symm.trans e))]
   .have ab:(g == k)=false:=beq_eq_false_iff_ne.mpr h;simp only [nj,ab];exact a_
theorem G0 (f:Str) (v:V):∀ aQ:List (Str × V),f ∈ (Tk f v aQ).map (·.1)/\∀ g,g ∈ aQ.map (·.1)->g ∈ (Tk f v aQ).map (·.1)
 | []=>⟨by simp [Tk],fun g h=>by simp at h⟩
 | (k,x) :: r=>by
  obtain ⟨es,je⟩:=G0 f v r;rw [show Tk f v ((k,x) :: r)=(if k=f then (k,v) :: r else (k,x) :: Tk f v r) from rfl];by_cases aJ:k=f
  .rw [if_pos aJ];subst aJ;exact ⟨by simp,fun g h=>by simpa using h⟩
  .rw [if_neg aJ];refine ⟨?_,fun g h=>?_⟩
   .rw [dR];exact fk _ es
   .rw [dR] at h ⊢;rcases cX.mp h with e | e
    .exact cX.mpr (.inl e)
    .exact fk _ (je g e)
theorem No (f:Str) (v:V):∀ aQ:List (Str × V),(Tk f v aQ).length <= aQ.length + 1
 | []=>by simp [Tk]
 | (k,x) :: r=>by
  have a_:=No f v r;rw [show Tk f v ((k,x) :: r)=(if k=f then (k,v) :: r else (k,x) :: Tk f v r) from rfl];by_cases aJ:k=f
  .rw [if_pos aJ,dr,dr];omega
  .rw [if_neg aJ,dr,dr];omega
theorem hL.some_of (r:hL (some v) o):∃ u,o=some u/\bD v u:=by
 cases o with
 | none=>exact (show False from r).elim
 | some u=>exact ⟨u,rfl,r⟩
theorem hL.none_of (r:hL none o):o=none:=by
 cases o with
 | none=>rfl
 | some u=>exact (show False from r).elim
theorem N8 (r:bD v u):ahL u=true:=by
 cases v with
 | bT=>cases (show u=hg from r);rfl
 | bp b=>cases (show u=kT b from r);rfl
 | int i=>obtain ⟨t,e⟩:=(show ∃ t,u=nc i t from r);cases e;rfl
 | str x=>obtain ⟨t,e⟩:=(show ∃ t,u=q4 x t from r);cases e;rfl
 | j1 b=>obtain ⟨t,e⟩:=(show ∃ t,u=GU b t from r);cases e;rfl
 | tg b=>obtain ⟨t,e⟩:=(show ∃ t,u=Jt b t from r);cases e;rfl
 | ref a=>cases (show u=de a from r);rfl
 | ty n=>cases (show u=wb n from r);rfl
section
variable {P:Program} {w:World} {H I:aq} {h h':Heap} {a C au:Addr} {aQ mZ:List (Str × V)}
theorem xF (a6:dY P w H h) (e:H a=some (.ins C au aQ)):∃ dt,rf h a au C dt/\(∀ f,hL (aQ.lookup f) (dt f))/\BR dt (aQ.map (·.1))/\aQ.length <= 1000/\H au=some (.own a):=by
 obtain ⟨d,z,ne,b2,dt,n,r,q⟩:=(show dK P w H h a (.ins C au aQ) from a6 a _ e);exact ⟨dt,⟨b2,n,ne⟩,r,q,z,d⟩
end
structure et (K:a4) (C:Addr):Prop where
 aeB:HG K C rx=true
 hd:zY K C=true
 po:ahY K C=true
 qe:dB K (.ref C) "__setattr__"=some (some (.builtin "object.__setattr__"))
theorem et.get {K:a4} (c:et K C) (f:Str):HG K C f=true:=c.aeB
def bz (K:a4) (C:Addr) (f:Str):Prop:=dB K (.ref C) f=some none
theorem bz.ahi {K:a4} (n:bz K C f):Pl K C f=some none:=by
 unfold Pl;rw [show dB K (.ref C) f=some none from n];rfl
structure ak0 (K:a4) (C:Addr) (f:Str) (v:V) (u:Value):Prop where
 at_:dB K (.ref C) f=some (some u)
 rel:bD v u
 get:tE K u "__get__"=some none
 amg:PySem.W.copiedNames.contains f=false
structure ed (K:a4) (C:Addr) (m:Str) (f:Addr):Prop where
 at_:dB K (.ref C) m=some (some (.ref f))
 fn:Gn K (.ref f)=true
 bh:pJ K (.ref f)=true
section
variable {X:aP} {aa:List (Addr × Obj)} {σ:St} {H:aq} {s:Shared} {a C au:Addr} {aQ:List (Str × V)} {f:Str} {v:V} {A:Around} {E:Value->Shared->Prop}
theorem nw (J:Inv X aa σ H s) (e:H a=some (.ins C au aQ)) (c:et X.K C) (n:bz X.K C f) (l:aQ.lookup f=some v)
  (h:∀ u s',Inv X aa σ H s'->bD v u->Q u s'):wpAny (model X.prog X.w) A (getAttr (.ref a) f b) Q E s:=by
 obtain ⟨dt,O,r,_,_,_⟩:=xF J.a6 e;obtain ⟨u,ba,dD⟩:=hL.some_of (v:=v) (o:=dt f) (by rw [<- l];exact r f);exact VN J.ep O (c.get f) c.hd n ba (N8 dD) (h u _ (J.tok _) dD)
theorem ze (J:Inv X aa σ H s) (e:H a=some (.ins C au aQ)) (c:et X.K C) (k:ed X.K C m g) (l:aQ.lookup m=none)
  (h:Q (.ref g,[.ref a]) s):wpAny (model X.prog X.w) A (getMethod (.ref a) m pl) Q E s:=by
 obtain ⟨dt,O,r,_,_,_⟩:=xF J.a6 e;have aH:dt m=none:=hL.none_of (by rw [<- l];exact r m);exact Xv J.ep O (c.get m) k.at_ k.fn aH h
theorem Sd (J:Inv X aa σ H s) (e:H a=some (.ins C au aQ)) (c:et X.K C) (n:bz X.K C f) (ax:aQ.length < 1000) (bw:bD y u)
  (h:∀ s',Inv X aa σ (upd H a (.ins C au (Tk f y aQ))) s'->Q () s'):wpAny (model X.prog X.w) A (setAttr (.ref a) f u) Q E s:=by
 obtain ⟨dt,O,r,ek,_,aZ⟩:=xF J.a6 e;have aD:(aQ.map (·.1)).length <= sizeLine:=by rw [bb,sizeLine_eq];omega
 refine adI J.ep O c.qe c.po n.ahi c.hd ek aD fun h' IP gV=>h _ ?_
 have hd:∃ o,h'.get? au=some o:=let ⟨o,_,_,cy,_⟩:=IP.ns;⟨o,cy⟩;refine J.write (x:=a) (e:=au) (by rw [e];exact ko) (.inr aZ) (fun b q ab z=>(gV.2 b ab).trans z) hd ?_;refine ⟨by rw [aX O.ne];exact aZ,?_,O.ne,IP.obj,_,IP.ns,fun g=>?_,fun g bj=>?_⟩
 .have:=No f y aQ;omega
 .show hL ((Tk f y aQ).lookup g) (if g=f then some u else dt g);rw [Ou];by_cases q:g=f
  .rw [if_pos q,if_pos q];exact bw
  .rw [if_neg q,if_neg q];exact r g
 .by_cases q:g=f
  .rw [q];exact (G0 f y aQ).1
  .refine (G0 f y aQ).2 g (ek g fun z=>bj ?_);show (if g=f then some u else dt g)=none;rw [if_neg q];exact z
theorem Inv.made (J:Inv X aa σ H s):Inv X aa σ (upd (upd H s.heap.objs.size (.own (s.heap.objs.size + 1))) (s.heap.objs.size + 1) (.ins C s.heap.objs.size []))
  { s with heap:=(s.heap.push i_).push (rB C s.heap.objs.size) }:=by
 have aw:(s.heap.push i_).get? s.heap.objs.size=some i_:=en s.heap rfl;have az:((s.heap.push i_).push (rB C s.heap.objs.size)).get? (s.heap.objs.size + 1)=some (rB C s.heap.objs.size):=by
  have:=en (s.heap.push i_) (o:=rB C s.heap.objs.size) rfl;rwa [wV] at this
 have bW:(s.heap.push i_).Ns s.heap.objs.size (fun _=>none):=⟨i_,#[],_,aw,rfl,(fun e he=>absurd he (by simp)),fun _=>rfl⟩;have aK:=J.laid (a:=s.heap.objs.size) (o:=.own (s.heap.objs.size + 1)) (h':=s.heap.push i_) (t':=s.toks) (fun b u q=>c6 _ q) (bu _) ⟨_,aw⟩;refine aK.laid (a:=s.heap.objs.size + 1) (o:=.ins C s.heap.objs.size []) (t':=s.toks) (fun b u q=>c6 _ q) (BI (wV _ _)) ?_;have ne:s.heap.objs.size ≠ s.heap.objs.size + 1:=eb (xv _);refine ⟨by rw [aX ne,aS],fL _,ne,az,fun _=>none,(afp bW).at fun o q=>c6 _ q,fun _=>ko,fun y aT=>absurd rfl aT⟩
theorem PO {prog:Program} {w:World} {env:Env} {e:Expr} (ab:attributeBase e f env (eval e env)=eval e env)
  (h:wpAny (model prog w) A (eval e env) (fun o cN=>wpAny (model prog w) A (getAttr o f true) Q E cN) E s):wpAny (model prog w) A (eval (.Attribute e f pos) env) Q E s:=
 Attribute_any_ h (by rw [arm_eval_Attribute,ab])
end
def io (K:a4) (H:aq) (a:Addr) (f:Str) (v:V):Prop:=∃ C au aQ,H a=some (.ins C au aQ)/\et K C/\bz K C f/\aQ.lookup f=some v
noncomputable def DP (K:a4) (aV:TE) (f:Str):TE:=fun σ H Q=>aV σ H fun x H1=>eC x fun a=>∃ v,io K H1 a f v/\Q v H1
noncomputable def Tv (K:a4) (aV fj:TE) (f:Str):dz:=fun D σ H=>fj σ H fun y H1=>aV σ H1 fun x ay=>eC x fun a=>∃ C au aQ,ay a=some (.ins C au aQ)/\et K C/\bz K C f/\aQ.length < 1000 /\
 D.cg σ (upd ay a (.ins C au (Tk f y aQ)))
def QS (X:aP) (op:Operator) (fg:V->V->aq->cc->Prop):Prop:=
 ∀ (aa:List (Addr × Obj)) (s:Shared) (σ:St) (H:aq) (x y:V) (u v:Value) (Q:cc),Inv X aa σ H s->bD x u->bD y v->fg x y H Q->wpAny (model X.prog X.w) X.A (inplaceOp op u v) (fS X aa σ Q) X.cK s
noncomputable def Pc (K:a4) (aV fj:TE) (fg:V->V->aq->cc->Prop) (f:Str):dz:=fun D σ H=>aV σ H fun x H1=>∃ a C au aQ v,x=.ref a/\H1 a=some (.ins C au aQ)/\et K C/\bz K C f/\aQ.lookup f=some v /\
 fj σ H1 fun y ay=>fg v y ay fun z bA=>∃ hG mZ,bA a=some (.ins C hG mZ)/\mZ.length < 1000/\D.cg σ (upd bA a (.ins C hG (Tk f z mZ)))
section
variable {X:aP} {o e value:Expr} {f:Str} {pos pos' rt:Pos} {aV fj:TE}
theorem c1 (he:bk X e aV) (ab:attributeBase e f X.env (eval e X.env)=eval e X.env):bk X (.Attribute e f pos) (DP X.K aV f):=by
 intro aa s σ H Q J h;refine PO ab (bq (he aa s σ H _ J h) fun u s1 b3=>dG b3 fun x H1 aK bg gU=>?_);obtain ⟨a,ex,v,⟨C,au,aQ,cP,c,n,l⟩,q⟩:=eC.out gU;subst ex;obtain rfl:u=de a:=bg;exact nw aK cP c n l fun gJ s2 bl dD=>⟨v,H1,bl,dD,q⟩
theorem g8 (aO:bk X o aV) (aU:bk X value fj) (aG:swapsWith value (some (.Attribute o f pos')) pos.line X.env=pure false):e2 X (.Assign [.Attribute o f pos'] value pos) (Tv X.K aV fj f):=by
 intro aa s σ H D J h;refine plainObj_wpAny_Assign_Attribute (bq (aU aa s σ H _ J h) fun u s1 b3=>dG b3 fun y H1 aK bw q=>bq (aO aa s1 σ H1 _ aK q) fun dx s2 b3=>dG b3 fun x ay bl bg gU=>?_) aG;obtain ⟨a,ex,C,au,aQ,cP,c,n,l,cA⟩:=eC.out gU;subst ex;obtain rfl:dx=de a:=bg;exact Sd bl cP c n l bw fun s3 dA=>⟨σ,_,dA,cA⟩
theorem abu {fg:V->V->aq->cc->Prop} (aO:bk X o aV) (aU:bk X value fj) (abQ:QS X op fg):e2 X (.AugAssign (.Attribute o f rt) op value pos) (Pc X.K aV fj fg f):=by
 intro aa s σ H D J h;refine wpAny_AugAssign_AttributeAny (bq (aO aa s σ H _ J h) fun dx s1 b0=>?_);obtain ⟨x,H1,aK,bg,a,C,au,aQ,v,ex,cP,c,n,l,q⟩:=b0;subst ex;obtain rfl:dx=de a:=bg;refine nw aK cP c n l fun u s2 bl dD=>bq (aU aa s2 σ H1 _ bl q) fun gR s3 b3=>dG b3 fun y ay dA bw eV=>bq (abQ aa s3 σ ay v y u gR _ dA dD bw eV) fun alW s4 b0=>?_
 obtain ⟨z,bA,fT,afo,hG,mZ,EN,ia,lX⟩:=b0;exact Sd fT EN c n ia afo fun s5 rk=>⟨σ,_,rk,lX⟩
noncomputable def Fb:V->V->aq->cc->Prop:=fun x y H Q=>∃ i j,x=.int i/\y=.int j/\Q (.int (i + j)) H
theorem Vh:QS X .Add Fb:=by
 rintro aa s σ H x y u v Q J bg bw ⟨i,j,rfl,rfl,q⟩;obtain ⟨t,rfl⟩:=(show ∃ t,u=nc i t from bg);obtain ⟨t',rfl⟩:=(show ∃ t',v=nc j t' from bw);exact al6 ⟨.int (i + j),H,J.tok _,⟨_,rfl⟩,q⟩
end
section
variable {X:aP} {aa:List (Addr × Obj)} {σ:St} {H:aq} {s:Shared} {A:Around} {E:Value->Shared->Prop} {Q:Value->Shared->Prop} {c:Value} {b:Bool}
inductive my (K:a4) (H:aq):V->Value->Prop where
 | bT:my K H .bT (.type "NoneType")
 | bp (x:Bool):my K H (.bp x) (.type "bool")
 | int (i:Int):my K H (.int i) (.type "int")
 | str (x:Str):my K H (.str x) (.type "str")
 | tg (x:UInt64):my K H (.tg x) (.type "float")
 | lst {a:Addr} {xs:List V} (e:H a=some (.lst xs)):my K H (.ref a) (.type "list")
 | fe {a:Addr} {o:Obj} {xs:List V} (e:H a=some (.fe o (.lst xs))):my K H (.ref a) (.type "list")
 | tup {a:Addr} {xs:List V} (e:H a=some (.tup xs)):my K H (.ref a) (.type "tuple")
 | dN {a:Addr} {aE:List (Key × V)} (e:H a=some (.dN aE)):my K H (.ref a) (.type "dict")
 | fU {a:Addr} {aE:List (List Key × V)} (e:H a=some (.fU aE)):my K H (.ref a) (.type "dict")
 | ins {a C au:Addr} {aQ:List (Str × V)} (e:H a=some (.ins C au aQ)) (cl:et K C) (aO:dB K (.ref C) "__class__"=some (some (.builtin "object.__class__")))
   (aH:tE K (.builtin "object.__class__") "__get__"=some (some (.builtin "getset_descriptor.__get__"))) (C2:IZ K (.builtin "object.__class__")=some true)
   (hm:xj K C (.type "object")=some true):my K H (.ref a) (.ref C)
end
structure eh (k:Nat) (A:Around):Prop where
 hd:A.handled=none
 xx:A.depth + 3 * k + 5 < recursionLimit
 un:A.units + 16 * k + 200 < cLine
theorem eh.mono {j k:Nat} {A:Around} (r:eh k A) (h:j <= k):eh j A:=⟨r.hd,by have:=r.xx;omega,by have:=r.un;omega⟩
theorem eh.deeper {k:Nat} {A:Around} (r:eh (k + 1) A) (env:Env):eh k (A.deeper env):=
 ⟨r.hd,by have:=r.xx;show A.depth + 1 + 3 * k + 5 < _;omega,by have:=r.un;show A.units + 3 + 16 * k + 200 < _;omega⟩
theorem GE {A:Around}:(A.under (.builtin "type.__call__" ⟨.ref C :: us,kw⟩)).depth=A.depth + 1:=by
 first | rfl | simp [QE,Code.weight,Code.isCreation,Code.isGuard,Code.isCaller,WG,SU,guardIds]
theorem acx {A:Around}:(A.under (.builtin "type.__call__" ⟨.ref C :: us,kw⟩)).units=A.units + 1:=by
 first | rfl | simp [QE,Code.cUnits,WG,SU]
theorem eh.make {k:Nat} {A:Around} (r:eh (k + 1) A) (C:Addr) (us:List Value) (kw:List (Str × Value)):eh k (A.under (.builtin "type.__call__" ⟨.ref C :: us,kw⟩)):=
 ⟨r.hd,by have:=r.xx;rw [GE];omega,by have:=r.un;rw [acx];omega⟩
theorem eh.depth {k:Nat} {A:Around} (r:eh k A):A.depth < recursionLimit:=by have:=r.xx;omega
theorem eh.units {k:Nat} {A:Around} (r:eh k A):A.units + 64 < cLine:=by have:=r.un;omega
noncomputable def tU:d2:=fun _ H Q=>Q [] H
noncomputable def HZ (aV:TE) (h5:d2):d2:=fun σ H Q=>aV σ H fun x H1=>h5 σ H1 fun xs ay=>Q (x :: xs) ay
section
variable {X:aP} {e:Expr} {aF:List Expr} {bo:TE} {t:d2} {pos:Pos}
theorem aA:ei X [] tU:=fun _ _ _ _ H Q J h=>Calls.spliced_nil ⟨[],H,J,.nil,h⟩
theorem ae (aO:bk X e bo) (av:ei X aF t) (aG:starEach (e :: aF) X.env=(false,eval e X.env) :: starEach aF X.env:=by rfl):ei X (e :: aF) (HZ bo t):=by
 intro pos aa s σ H Q J h;rw [aG];show wpAny _ _ (spliced ((false,eval e X.env) :: backTo pos (starEach aF X.env))) _ _ s;refine Calls.spliced_cons (bq (aO aa s σ H _ J h) fun u s1 b3=>dG b3 fun x H1 aK bR bF=>?_);exact bq (av pos aa s1 σ H1 _ aK bF) fun us s2 ⟨xs,ay,bl,cw,cA⟩=>⟨x :: xs,ay,bl,.cons bR cw,cA⟩
noncomputable def HF (t:d2):TE:=fun σ H Q=>t σ H fun xs H1=>xs.length <= sizeLine/\∀ p,H1 p=none->Q (.ref p) (upd H1 p (.tup xs))
noncomputable def HO (t:d2):TE:=fun σ H Q=>t σ H fun xs H1=>xs.length <= sizeLine/\∀ p,H1 p=none->Q (.ref p) (upd H1 p (.lst xs))
theorem eL {Cm} (h:ei X aF t):bk X (.Tuple aF Cm pos) (HF t):=by
 intro aa s σ H Q J aB;refine wpAny_Tuple_spliced (bq (h pos aa s σ H _ J aB) fun us s1 ⟨xs,H1,aK,r,z,q⟩=>⟨by rw [<- r.length];exact z,?_⟩);have hf:H1 s1.heap.objs.size=none:=aK.a6.fresh (bu _);refine ⟨.ref s1.heap.objs.size,upd H1 s1.heap.objs.size (.tup xs),aK.laid (t':=s1.toks) (fun b u e=>c6 _ e) (bu _) ?_,rfl,q _ hf⟩;exact ⟨⟨z,_,en _ rfl,rfl⟩,us,r,⟨_,en _ rfl,rfl,_,rfl⟩⟩
theorem gO (h:ei X aF t):bk X (.List aF pos) (HO t):=by
 intro aa s σ H Q J aB;refine wpAny_List_spliced (bq (h pos aa s σ H _ J aB) fun us s1 ⟨xs,H1,aK,r,z,q⟩=>⟨by rw [<- r.length];exact z,?_⟩);have hf:H1 s1.heap.objs.size=none:=aK.a6.fresh (bu _);refine ⟨.ref s1.heap.objs.size,upd H1 s1.heap.objs.size (.lst xs),aK.laid (t':=s1.toks) (fun b u e=>c6 _ e) (bu _) ?_,rfl,q _ hf⟩;exact ⟨z,us,0,r,en _ rfl⟩
end
noncomputable abbrev bI:=List V->aq->cc->cZ->Prop
noncomputable abbrev hF:=List Env->aq->Shared->cZ->Value->Shared->Prop
structure m7 (P:Program) (w:World) (K:a4) (ah:Str->Option Value) (base:Heap) (A:Around) (outer:List Env) (s:Shared) (H:aq):Prop where
 frames:A.frames=some outer
 mod:Mod K ah base
 bs:∀ b o,base.get? b=some o->s.heap.get? b=some o/\H b=none
 jq:base.objs.size <= s.heap.objs.size
 iD:s.heap.FunFrames base outer
 kc:∀ b ∈ g_ outer,H b=none
 a6:dY P w H s.heap
 bare:AllBare s.gens
def EX (outer:List Env) (P:Program) (w:World) (H:aq) (s:Shared) (Q:cc) (u:Value) (s':Shared):Prop:=
 ∃ v I,s'.os=s.os/\AllBare s'.gens/\gq (g_ outer) [] H I s.heap s'.heap/\dY P w I s'.heap/\bD v u/\Q v I
def LO (CX:hF) (outer:List Env) (P:Program) (w:World) (H:aq) (s:Shared) (Q:cc) (E:cZ) (r:Result) (s':Shared):Prop:=
 match r with
 | .ok (.ret u)=>EX outer P w H s Q u s'
 | .ok _=>False
 | .error e=>CX outer H s E e s'
structure bt (P:Program) (w:World) (K:a4) (ah:Str->Option Value) (base:Heap) (CX:hF) (k:Nat) (f:Addr) (fd:FuncData) (ps:List Str) (sp:bI):Prop where
 len:∀ vs H Q E,sp vs H Q E->vs.length=ps.length
 run:∀ (A:Around) (outer:List Env) (s:Shared) (H:aq) (args:Args) (us:List Value) (vs:List V) (Q:cc) (E:cZ),eh k A->m7 P w K ah base A outer s H->BindsTo s fd args (ps.zip us)->bN vs us->sp vs H Q E ->
  codeAny (model P w) A (.call (.ref f) args) (LO CX outer P w H s Q E) s
theorem bt.mono {w:World} {K:a4} {ah:Str->Option Value} {base:Heap} {j k:Nat} {fd:FuncData} (F:bt P w K ah base CX j f fd ps sp) (h:j <= k) :
  bt P w K ah base CX k f fd ps sp:=⟨F.len,fun A outer s H args us vs Q E av=>F.run A outer s H args us vs Q E (av.mono h)⟩
theorem m7.make {w:World} {K:a4} {ah:Str->Option Value} {base:Heap} {A:Around} {outer:List Env} (e:m7 P w K ah base A outer s H) (C:Addr) (us:List Value) (kw:List (Str × Value)) :
  m7 P w K ah base (A.under (.builtin "type.__call__" ⟨.ref C :: us,kw⟩)) outer s H:=⟨by first | exact e.frames | (simpa [QE,Code.envs,SU,pushEnvs] using e.frames),e.mod,e.bs,e.jq,e.iD,e.kc,e.a6,e.bare⟩
section
variable {X:aP} {aa:List (Addr × Obj)} {σ:St} {H:aq} {s s':Shared}
theorem Inv.AW (J:Inv X aa σ H s):m7 X.prog X.w X.K X.ah X.base X.A X.stack s H:=
 ⟨J.ok.frames,J.ok.mod,J.bs,b8 J.ok.jq J.gj,J.stack,J.zc,J.a6,J.bare⟩
theorem Inv.after (J:Inv X aa σ H s) (h:EX X.stack X.prog X.w H s Q u s'):fS X aa σ Q u s':=by
 obtain ⟨v,I,os,bare,un,a6,r,q⟩:=h;obtain ⟨cQ,g,d,t,KA⟩:=s';obtain rfl:KA=s.os:=os;exact ⟨v,I,J.call (h':=cQ) (g':=g) (d':=d) (t':=t) (ch:=[]) un a6 bare (fun b z=>absurd z (by simp)),r,q⟩
end
noncomputable def vW (sp:bI) (dvs:List V) (E:cZ) (t:d2):TE:=fun σ H Q=>t σ H fun vs H1=>sp (vs ++ dvs) H1 Q E
noncomputable def Ij (C:Addr) (m:Str) (sp:bI) (dvs:List V) (E:cZ) (aV:TE) (t:d2):TE:=fun σ H Q=>aV σ H fun x H1=>eC x fun a=>∃ au aQ,H1 a=some (.ins C au aQ)/\aQ.lookup m=none /\
 t σ H1 fun vs ay=>sp (x :: (vs ++ dvs)) ay Q E
noncomputable def E7 (C:Addr) (sp:bI) (dvs:List V) (E:cZ) (t:d2):TE:=fun σ H Q=>t σ H fun vs H1=>∀ x au,H1 x=none->H1 au=none->au ≠ x ->
 sp (.ref x :: (vs ++ dvs)) (upd (upd H1 au (.own x)) x (.ins C au [])) (fun v ay=>v=.bT/\Q (.ref x) ay) E
def bZ (K:a4) (fd:FuncData) (ps:List Str) (ds:List Value):Prop:=
 ∀ (s:Shared) (us:List Value),K.In s.heap->(us ++ ds).length=ps.length->BindsTo s fd ⟨us,[]⟩ (ps.zip (us ++ ds))
theorem bZ.all {K:a4} {fd:FuncData} (h:∀ us:List Value,us.length=ps.length->bindArgs fd ⟨us,[]⟩=pure (ps.zip us)):bZ K fd ps []:=fun s us _ ax=>by
 rw [me] at ax ⊢;exact .of_eq (h us ax)
def ly (CX:hF) (X:aP) (E:cZ):Prop:=∀ (aa:List (Addr × Obj)) (σ:St) (H:aq) (s:Shared) (e:Value) (s':Shared),Inv X aa σ H s->CX X.stack H s E e s'->X.cK e s'
section
variable {X:aP} {CX:hF} {k:Nat} {f C:Addr} {fd:FuncData} {ps:List Str} {sp:bI} {dvs:List V} {ds:List Value} {E:cZ} {x m:Str} {p pos eB:Pos} {e o:Expr} {aF:List Expr} {aV:TE} {t:d2}
theorem vA (F:bt X.prog X.w X.K X.ah X.base CX k f fd ps sp) (av:eh k X.A) (ab:bZ X.K fd ps ds) (hd:bN dvs ds) (ak:ly CX X E)
  (J:Inv X aa σ H s) (r:bN vs us) (h:sp (vs ++ dvs) H Q E):wpAny (model X.prog X.w) X.A (call (.ref f) us) (fS X aa σ Q) X.cK s:=by
 have cw:bN (vs ++ dvs) (us ++ ds):=r.append hd;have ax:(us ++ ds).length=ps.length:=by rw [<- cw.length];exact F.len _ _ _ _ h
 refine wpAny_call (codeAny_mono (F.run X.A X.stack s H ⟨us,[]⟩ (us ++ ds) (vs ++ dvs) Q E av J.AW (ab s us J.ep ax) cw h) fun r s' aB=>?_);cases r with
 | error e=>exact ak aa σ H s e s' J aB
 | ok cb=>
  cases cb with
  | ret u=>exact J.after aB
  | next=>exact jI aB
  | brk=>exact jI aB
  | cont=>exact jI aB
theorem E9 (F:bt X.prog X.w X.K X.ah X.base CX k f fd ps sp) (av:eh k X.A) (bj:hn X x) (hm:X.ah x=some (.ref f)) (aJ:pJ X.K (.ref f)=true) (ab:bZ X.K fd ps ds) (hd:bN dvs ds) (ak:ly CX X E)
  (aO:ei X (e :: aF) t) (fc:(x == ("__debug__" : Str))=false:=by decide) (he:starEach (e :: aF) X.env=(false,eval e X.env) :: starEach aF X.env:=by rfl) (eE:(backTo pos (starEach aF X.env)).any (·.1)=false:=by rfl) :
  bk X (.Call (.Name x p) (e :: aF) [] pos) (vW sp dvs E t):=by
 intro aa s σ H Q J h;refine wpAny_Call_Name_kw (nX J bj hm ?_ fc);refine xl (h₀:=X.base) J.ok.mod.o4 aJ (bq (aO pos aa s σ H _ J h) fun us s1 ⟨vs,H1,aK,r,q⟩=>⟨aK.ep,?_⟩) he eE;exact vA F av ab hd ak aK r q
theorem e3 (he:bk X o aV) (c:et X.K C) (hm:ed X.K C m f) (F:bt X.prog X.w X.K X.ah X.base CX k f fd ps sp) (av:eh k X.A) (ab:bZ X.K fd ps ds) (hd:bN dvs ds) (ak:ly CX X E) (aO:ei X (e :: aF) t)
  (fE:starEach (e :: aF) X.env=(false,eval e X.env) :: starEach aF X.env:=by rfl) (eE:(backTo pos (starEach aF X.env)).any (·.1)=false:=by rfl)
  (cR:eval (.Call (.Attribute o m eB) (e :: aF) [] pos) X.env=(do
   let dx <- eval o X.env
   standAt eB.atName
   let (f,first) <- holding [dx] (getMethod dx m pl)
   callWith pos f first (backTo pos (starEach (e :: aF) X.env)) (backToKw pos (keywordEach [] X.env))):=by rfl) :
  bk X (.Call (.Attribute o m eB) (e :: aF) [] pos) (Ij C m sp dvs E aV t):=by
 intro aa s σ H Q J h;refine wh (pl:=pl) (bq (he aa s σ H _ J h) fun u s1 b3=>dG b3 fun x H1 aK bg gU=>?_) cR;obtain ⟨a,ex,au,aQ,cP,l,q⟩:=eC.out gU;subst ex;obtain rfl:u=de a:=bg;refine ze aK cP c hm l ?_;refine xl (first:=[.ref a]) (h₀:=X.base) J.ok.mod.o4 hm.bh (bq (aO pos aa s1 σ H1 _ aK q) fun us s2 ⟨vs,ay,bl,r,cA⟩=>⟨bl.ep,?_⟩) fE eE;exact vA (us:=.ref a :: us) (vs:=.ref a :: vs) F av ab hd ak bl (.cons rfl r) cA
theorem mM (he:bk X o aV) (c:et X.K C) (hm:ed X.K C m f) (F:bt X.prog X.w X.K X.ah X.base CX k f fd ps sp) (av:eh k X.A) (ab:bZ X.K fd ps ds) (hd:bN dvs ds) (ak:ly CX X E)
  (cR:eval (.Call (.Attribute o m eB) [] [] pos) X.env=(do
   let dx <- eval o X.env
   standAt eB.atName
   let (f,first) <- holding [dx] (getMethod dx m pl)
   callWith pos f first (backTo pos (starEach [] X.env)) (backToKw pos (keywordEach [] X.env))):=by rfl) :
  bk X (.Call (.Attribute o m eB) [] [] pos) (Ij C m sp dvs E aV tU):=by
 intro aa s σ H Q J h;refine wh (pl:=pl) (bq (he aa s σ H _ J h) fun u s1 b3=>dG b3 fun x H1 aK bg gU=>?_) cR;obtain ⟨a,ex,au,aQ,cP,l,q⟩:=eC.out gU;subst ex;obtain rfl:u=de a:=bg;refine ze aK cP c hm l ?_;exact RT (first:=[.ref a]) aK.ep hm.bh (vA (us:=[.ref a]) (vs:=[.ref a]) F av ab hd ak aK (.cons rfl .nil) q)
structure iW (K:a4) (C f:Addr):Prop where
 makes:YT K C=true
 init:dB K (.ref C) "__init__"=some (some (.ref f))
 fn:Gn K (.ref f)=true
 bh:pJ K (.ref C)=true
theorem Nc (M:iW X.K C f) (F:bt X.prog X.w X.K X.ah X.base CX k f fd ps sp) (av:eh (k + 1) X.A) (ab:bZ X.K fd ps ds) (hd:bN dvs ds)
  (ak:ly CX X E) (J:Inv X aa σ H s) (r:bN vs us)
  (h:∀ x au,H x=none->H au=none->au ≠ x->sp (.ref x :: (vs ++ dvs)) (upd (upd H au (.own x)) x (.ins C au [])) (fun v ay=>v=.bT/\Q (.ref x) ay) E) :
  wpAny (model X.prog X.w) X.A (call (.ref C) us) (fS X aa σ Q) X.cK s:=by
 have aB:=h (s.heap.objs.size + 1) s.heap.objs.size (J.a6.fresh (vb _)) (J.a6.fresh (bu _)) (eb (xv _));have bl:=Inv.made (C:=C) J;have cw:bN (V.ref (s.heap.objs.size + 1) :: (vs ++ dvs)) (de (s.heap.objs.size + 1) :: (us ++ ds)):=.cons rfl (r.append hd);have ax:(de (s.heap.objs.size + 1) :: us ++ ds).length=ps.length:=by
  have e:=cw.length;rw [F.len _ _ _ _ aB] at e;exact e.symm
 refine wpAny_call (ads (f:=f) J.ep M.makes M.init (beq_iff_eq.mp M.fn) (codeAny_mono (F.run _ X.stack _ _ ⟨de (s.heap.objs.size + 1) :: us,[]⟩ (de (s.heap.objs.size + 1) :: (us ++ ds)) _ _ E (av.make C us [])
  (bl.AW.make C us []) (ab _ (de (s.heap.objs.size + 1) :: us) bl.ep ax) cw aB) fun r s' oW=>?_))
 cases r with
 | error e=>exact ak aa σ _ _ e s' bl oW
 | ok cb=>
  cases cb with
  | ret u=>
   obtain ⟨v,I,dA,bV,ev,eV⟩:=bl.after oW;subst ev;exact ⟨bV,⟨V.ref (s.heap.objs.size + 1),I,dA,rfl,eV⟩⟩
  | next=>exact jI oW
  | brk=>exact jI oW
  | cont=>exact jI oW
theorem p' (M:iW X.K C f) (F:bt X.prog X.w X.K X.ah X.base CX k f fd ps sp) (av:eh (k + 1) X.A) (bj:hn X x) (hm:X.ah x=some (.ref C)) (ab:bZ X.K fd ps ds) (hd:bN dvs ds) (ak:ly CX X E)
  (aO:ei X (e :: aF) t) (fc:(x == ("__debug__" : Str))=false:=by decide) (he:starEach (e :: aF) X.env=(false,eval e X.env) :: starEach aF X.env:=by rfl) (eE:(backTo pos (starEach aF X.env)).any (·.1)=false:=by rfl) :
  bk X (.Call (.Name x p) (e :: aF) [] pos) (E7 C sp dvs E t):=by
 intro aa s σ H Q J h;refine wpAny_Call_Name_kw (nX J bj hm ?_ fc);refine xl (h₀:=X.base) J.ok.mod.o4 M.bh (bq (aO pos aa s σ H _ J h) fun us s1 ⟨vs,H1,aK,r,q⟩=>⟨aK.ep,?_⟩) he eE;exact Nc M F av ab hd ak aK r q
theorem sK (M:iW X.K C f) (F:bt X.prog X.w X.K X.ah X.base CX k f fd ps sp) (av:eh (k + 1) X.A) (bj:hn X x) (hm:X.ah x=some (.ref C)) (ab:bZ X.K fd ps ds) (hd:bN dvs ds) (ak:ly CX X E)
  (fc:(x == ("__debug__" : Str))=false:=by decide):bk X (.Call (.Name x p) [] [] pos) (E7 C sp dvs E tU):=by
 intro aa s σ H Q J h;refine wpAny_Call_Name_kw (nX J bj hm ?_ fc);exact RT J.ep M.bh (Nc (us:=[]) M F av ab hd ak J .nil h)
end
section
variable {X:aP} {CX:hF} {k:Nat} {f C:Addr} {fd:FuncData} {ps bB:List Str} {sp:bI} {E:cZ} {x m:Str} {p pos eB ami:Pos} {e o:Expr} {aF:List Expr} {amZ:List Keyword} {bo aV:TE} {t cG:d2} {nm:Option Str}
structure amS (K:a4) (fd:FuncData) (ps bB:List Str) (g:List Value->List Value->List Value) (O_:List V->List V->List V):Prop where
 to:∀ (s:Shared) (us ws:List Value),K.In s.heap->(g us ws).length=ps.length->BindsTo s fd ⟨us,bB.zip ws⟩ (ps.zip (g us ws))
 rel:∀ {vs:List V} {us:List Value} {zs:List V} {ws:List Value},bN vs us->bN zs ws->bN (O_ vs zs) (g us ws)
variable {g:List Value->List Value->List Value} {O_:List V->List V->List V}
end
structure b9 (N P:List Str) (sc:Scope):Prop where
 kind:sc.kind=.function
 co:sc.isCoroutine=false
 gen:sc.isGenerator=false
 aC:N.Nodup
 pre:N.take P.length=P
 par:∀ x ∈ P,sc.names.lookup x=some .local\/sc.names.lookup x=some .cell
 Yb:∀ y ∈ sc.names,y.2 ≠ .free
theorem K9 {kindOf:Str->Option NameKind} {x:Str}:∀ {binds:List (Str × Value)} {m:Str->Option Value},(∀ v,(x,v) ∉ binds)->bindL kindOf binds m x=m x
 | [],_,_=>rfl
 | (n,v) :: r,m,h=>by
  unfold bindL;rw [K9 fun w hw=>h w (fk _ hw)];split
  .have:x ≠ n:=by rintro rfl;exact h v hH
   simp [this]
  .rfl
theorem Tx {kindOf:Str->Option NameKind} {x:Str}:∀ {binds:List (Str × Value)} {m:Str->Option Value},(∀ v,(x,v) ∉ binds)->bindC kindOf binds m x=m x
 | [],_,_=>rfl
 | (n,v) :: r,m,h=>by
  unfold bindC;rw [Tx fun w hw=>h w (fk _ hw)];split
  .rfl
  .have:x ≠ n:=by rintro rfl;exact h v hH
   simp [this]
theorem OK {kindOf:Str->Option NameKind} {x:Str} {v:Value}:∀ {P:List Str} {vs:List Value} {i:Nat} {m:Str->Option Value},P.Nodup->P[i]? = some x->vs[i]? = some v->kindOf x=some .local ->
  bindL kindOf (P.zip vs) m x=some v
 | [],_,_,_,_,h,_,_=>by simp at h
 | _ :: _,[],_,_,_,_,h,_=>by simp at h
 | p :: P,w :: vs,0,m,aC,af,ai,aJ=>by
  simp at af ai;subst af;subst ai;show bindL kindOf ((p,w) :: P.zip vs) m p=_;unfold bindL;rw [K9 fun v aU=>(iM.mp aC).1 (OR aU).1,if_pos aJ];simp
 | p :: P,w :: vs,i + 1,m,aC,af,ai,aJ=>by
  show bindL kindOf ((p,w) :: P.zip vs) m x=_;unfold bindL;exact OK (i:=i) (iM.mp aC).2 (by simpa using af) (by simpa using ai) aJ
theorem S' {kindOf:Str->Option NameKind} {x:Str} {v:Value}:∀ {P:List Str} {vs:List Value} {i:Nat} {m:Str->Option Value},P.Nodup->P[i]? = some x->vs[i]? = some v->kindOf x ≠ some .local ->
  bindC kindOf (P.zip vs) m x=some v
 | [],_,_,_,_,h,_,_=>by simp at h
 | _ :: _,[],_,_,_,_,h,_=>by simp at h
 | p :: P,w :: vs,0,m,aC,af,ai,aJ=>by
  simp at af ai;subst af;subst ai;show bindC kindOf ((p,w) :: P.zip vs) m p=_;unfold bindC;rw [Tx fun v aU=>(iM.mp aC).1 (OR aU).1,if_neg aJ];simp
 | p :: P,w :: vs,i + 1,m,aC,af,ai,aJ=>by
  show bindC kindOf ((p,w) :: P.zip vs) m x=_;unfold bindC;exact S' (i:=i) (iM.mp aC).2 (by simpa using af) (by simpa using ai) aJ
noncomputable def start (N:List Str) (vs:List V):St:=vs.map some ++ F9 (N.length - vs.length) none
noncomputable def mE (CX:hF) (P:Program) (w:World) (K:a4) (ah:Str->Option Value) (base:Heap) (N:List Str) (qual:Str) (scope:Scope) (f:Addr) (cd:Value) (A:Around) (outer:List Env) (s:Shared) (H:aq) (E:cZ):aP where
 prog:=P
 w:=w
 K:=K
 ah:=ah
 base:=base
 A:=A.deeper (envOfC qual scope s.heap.objs.size f cd)
 N:=N
 eA:=s
 tC:=H
 env:=envOfC qual scope s.heap.objs.size f cd
 outer:=outer
 stack:=envOfC qual scope s.heap.objs.size f cd :: outer
 ex:=[]
 calm:=true
 fn:=fun _=>true
 h8:=[]
 cK:=fun e s'=>wpAny (model P w) (A.deeper (envOfC qual scope s.heap.objs.size f cd)) (leaving (envOfC qual scope s.heap.objs.size f cd) e) (fun _ oM=>CX outer H s E e oM) (fun cy oM=>CX outer H s E cy oM) s'
theorem PS {sc:Scope} {n:Nat} {x:Str} (h:sc.names.lookup x=some .cell):∃ c,(cellsFrom n sc.names []).lookup x=some c:=by
 have q:=adt sc.names n [] (.inl h);exact abK.mp q
theorem ZD {CX:hF} {P:Program} {w:World} {K:a4} {ah:Str->Option Value} {base:Heap} {N ps:List Str} {qual:Str} {scope:Scope} {f:Addr} {cd:Value} {A:Around} {outer:List Env} {s s1:Shared} {H:aq} {E:cZ} {us:List Value} {vs:List V}
  (S:b9 N ps scope) (hd:A.handled=none) (eu:m7 P w K ah base A outer s H) (ax:vs.length=ps.length) (r:bN vs us)
  (x:InCallC s s.heap.objs.size (bindL (envOfC qual scope s.heap.objs.size f cd).kindOf (ps.zip us) fun _=>none) (cellsFrom (s.heap.objs.size + 1) scope.names []) (bindC (envOfC qual scope s.heap.objs.size f cd).kindOf (ps.zip us) fun _=>none) s1) :
  Inv (mE CX P w K ah base N qual scope f cd A outer s H E) [] (start N vs) H s1:=by
 have eE:ps.length <= N.length:=by have:=congrArg mP S.pre;rw [eX] at this;omega
 obtain ⟨af,cG,rfl,aJ⟩:=x.done;have xX:∀ b:Addr,b ∉ (mE CX P w K ah base N qual scope f cd A outer s H E).ex:=fun b z=>absurd (show b ∈ ([]:List Addr) from z) (by simp)
 refine ⟨⟨eu.mod,S.kind,rfl,rfl,bu _,fun y z c af ai=>?_,fun y aT=>?_,fun y c _ h=>?_,fun _=>hd,Around.frames_deeper eu.frames,.inr ⟨rfl,rfl⟩,fun b z=>absurd z (xX b),eu.bs,eu.jq,fun b _ _=>xX b,fun b z=>absurd z (xX b),eu.iD,eu.kc⟩,
  rfl,eu.bare,gq.kept aJ,⟨_,x.toInCall.ns,fun i y v af ai br=>?_⟩,fun y c h=>⟨_,x.cell y c h⟩,eu.a6.fresh (bu _),fun y c h=>?_,fun p ao=>absurd (show p ∈ ([]:List (Addr × Obj)) from ao) (by simp),eu.a6.kept aJ,?_⟩
 .exact name_of_addr x.apart (Aa af) (Aa ai)
 .have aT:scope.names.lookup y=some .cell\/scope.names.lookup y=some .free:=aT;rcases aT with aT | aT
  .exact PS aT
  .exact absurd rfl (S.Yb _ (Aa aT))
 .exact nu (x.above y c (Aa h))
 .have aj:i < vs.length:=by
   unfold start at ai;by_cases aj:i < vs.length
   .exact aj
   .rw [kd (by simpa using aj)] at ai;rw [List.getElem?_replicate] at ai;split at ai <;> cases ai
  have aO:vs[i]? = some v:=by
   unfold start at ai;rw [kq (by simpa using aj),ec] at ai;cases e:vs[i]? with
   | none=>rw [e] at ai;cases ai
   | some a=>rw [e] at ai;cases ai;rfl
  obtain ⟨u,ba,bV⟩:=r.get aO;have ao:ps[i]? = some y:=by
   rw [<- S.pre,oK (by omega)];exact af
  have OQ:ps.Nodup:=by rw [<- S.pre];exact S.aC.sublist (abP _ _)
  refine ⟨u,bV,?_⟩;rcases S.par y (d4 ao) with k | k
  .exact .inl ⟨k,OK OQ ao ba k⟩
  .obtain ⟨c,e⟩:=PS (n:=s.heap.objs.size + 1) k;refine .inr ⟨.inl k,c,e,?_⟩;have q:=x.cell y c e;rw [S' OQ ao ba (by show scope.names.lookup y ≠ _;rw [k];decide)] at q;exact q
 .exact eu.a6.fresh (nu (x.above y c (Aa h)))
 .unfold start;show _=N.length;rw [dq,bb,List.length_replicate];omega
theorem Oy {w:World} {K:a4} {ah:Str->Option Value} {base:Heap} {k:Nat} {name qual:Str} {AB dO doc pm e7 e9 mT:Value}
 {N ps:List Str} (lk:K.lookup f=some ⟨mT,a',.func (xS name qual params body scope AB dO doc pm an e7 e9),qC⟩) (kL:MT K e7 qual=true) (S:b9 N ps scope)
    (len:∀ vs H Q E,sp vs H Q E->vs.length=ps.length)
    (wu:∀ (A:Around) (outer:List Env) (s:Shared) (H:aq) (vs:List V) (Q:cc) (E:cZ),eh k (A.deeper (envOfC qual scope s.heap.objs.size f e7))->sp vs H Q E ->
      ∃ t,f_ (mE CX P w K ah base N qual scope f e7 A outer s H E) body t/\t { cg:=fun _ I=>Q .bT I,kV:=Q } (start N vs) H) :
    bt P w K ah base CX (k + 1) f (xS name qual params body scope AB dO doc pm an e7 e9) ps sp:=by
  refine ⟨len,fun A outer s H args us vs Q E av eu ab r hU=>?_⟩;have ax:=len _ _ _ _ hU;have eS:K.In s.heap:=eu.mod.o4.keeps fun b o e=>(eu.bs b o e).1
  have lim:s.heap.NoLimit:=eu.mod.nolimit.keeps fun b o e=>(eu.bs b o e).1
  have XC:∀ y ∈ ps.zip us,scope.names.lookup y.1=some .local\/(scope.names.lookup y.1=some .cell/\((cellsFrom (s.heap.objs.size + 1) scope.names []).lookup y.1).isSome=true):=fun ⟨n,v⟩ aT=>by
    rcases S.par n (OR aT).1 with q | q
    · exact .inl q
    · exact .inr ⟨q,adt _ _ _ (.inl q)⟩
  refine codeAny_call_function av.depth (eS _ _ lk) rfl S.co S.gen rfl (PySem.W.codeRec_of eS kL) (ab _ _ _ _ ?_);refine wpAny_newFunctionEnv_cells S.kind XC fun env he s1 x=>?_
  subst he;refine ⟨lim.keeps x.toInCall.keep,codeAny_func ?_⟩;obtain ⟨t,cR,aB⟩:=wu A outer s H vs Q E (av.deeper _) hU;have J:Inv (mE CX P w K ah base N qual scope f e7 A outer s H E) [] (start N vs) H s1:=ZD S av.hd eu ax r x;refine wpAny_mono (cR [] s1 (start N vs) H _ J aB) (fun cb s' aG=>?_) fun e s' aG=>aG
  have fin:∀ {aL:St} {I:aq} {v:V} {u:Value},Inv (mE CX P w K ah base N qual scope f e7 A outer s H E) [] aL I s'->bD v u->Q v I->EX outer P w H s Q u s':=
    fun {aL I v u} b4 bV q=>⟨v,I,b4.os,b4.bare,b4.base,b4.a6,bV,q⟩
  cases cb with
  | ret u=>
    obtain ⟨v,aL,I,b4,bV,q⟩:=aG;exact fin b4 bV q
  | next=>
    obtain ⟨aL,I,b4,q⟩:=aG;exact fin (v:=V.bT) (u:=hg) b4 rfl q
  | brk=>
    obtain ⟨_,_,_,q⟩:=aG;exact jI q
  | cont=>
    obtain ⟨_,_,_,q⟩:=aG;exact jI q
section
variable {X:aP} {x:Str} {p pos:Pos} {e:Expr} {aF:List Expr} {t:d2} {id T:String} {r:List V->aq->cc->Prop}
noncomputable def CG (r:List V->aq->cc->Prop) (t:d2):TE:=fun σ H Q=>t σ H fun vs H1=>r vs H1 Q
theorem g7 (ar:jK X (.builtin id) r) (bj:hn X x) (hm:X.ah x=none) (aU:bootBuiltins x=some (.builtin id)) (aO:ei X (e :: aF) t) (aH:x ≠ "__name__" := by decide) (fc:(x == ("__debug__" : Str))=false:=by decide)
  (he:starEach (e :: aF) X.env=(false,eval e X.env) :: starEach aF X.env:=by rfl) (eE:(backTo pos (starEach aF X.env)).any (·.1)=false:=by rfl):bk X (.Call (.Name x p) (e :: aF) [] pos) (CG r t):=by
 intro aa s σ H Q J h;refine wpAny_Call_Name_kw (pV J bj hm aU ?_ aH fc);exact afV (bq (aO pos aa s σ H _ J h) fun us s1 ⟨vs,H1,aK,bR,bF⟩=>ar aa s1 σ H1 vs us Q aK bR bF) he eE
theorem k2 (ar:jK X (.type T) r) (bj:hn X x) (hm:X.ah x=none) (aU:bootBuiltins x=some (.type T)) (aO:ei X (e :: aF) t) (aH:x ≠ "__name__" := by decide) (fc:(x == ("__debug__" : Str))=false:=by decide)
  (he:starEach (e :: aF) X.env=(false,eval e X.env) :: starEach aF X.env:=by rfl) (eE:(backTo pos (starEach aF X.env)).any (·.1)=false:=by rfl):bk X (.Call (.Name x p) (e :: aF) [] pos) (CG r t):=by
 intro aa s σ H Q J h;refine wpAny_Call_Name_kw (pV J bj hm aU ?_ aH fc);exact v' (bq (aO pos aa s σ H _ J h) fun us s1 ⟨vs,H1,aK,bR,bF⟩=>ar aa s1 σ H1 vs us Q aK bR bF) he eE
end
end L2
namespace ea
open PySem PyProof.Rows
section
open PySem.SeqAt
open PySem.AutoSeq1 (wpAny_loadPart')
open PySem.MeetsSeq PySem.MeetsSeq2 PySem.MeetsSeq3
end
section
variable {prog:Program} {w:World} {A:Around} {E:Value->Shared->Prop} {s:Shared}
theorem aa1 {t b:Addr} (cR:IsTup s.heap t vs.toArray) (ab:IsTup s.heap b ws.toArray) (aU:vs ≠ [])
  (af:ws=[]->Q (.ref t) s) (ai:ws ≠ []->Q (.ref s.heap.objs.size) { s with heap:=s.heap.push { cls:=.type "tuple",data:=.seq (vs ++ ws).toArray } })
  (hsz:vs.length + ws.length <= sizeLine):wpAny (model prog w) A (binaryOp .Add (.ref t) (.ref b)) Q E s:=by
 obtain ⟨⟨cls,dU,data,bE⟩,aZ,ar,n,hd⟩:=id cR;obtain ⟨⟨alw,Pj,data2,G3⟩,A0,Oc,bQ,hd2⟩:=id ab;simp only at ar hd Oc hd2;subst ar hd Oc hd2;have e:vs.toArray ++ ws.toArray=(vs ++ ws).toArray:=by simp
 by_cases hw:ws=[]
 .exact concat_meets ⟨_,aZ,rfl⟩ ⟨_,A0,rfl⟩ noFill_tuple_add seq_tuple_add YM ahQ (WQ _ _)
   (tuple_addW1 t b vs.toArray ws.toArray n bQ dU Pj bE G3 (by simpa using aU) (by simp [hw])) ⟨aZ,A0,af hw⟩
 .refine concat_meets ⟨_,aZ,rfl⟩ ⟨_,A0,rfl⟩ noFill_tuple_add seq_tuple_add YM ahQ (WQ _ _)
   (tuple_addW2 t b vs.toArray ws.toArray n bQ dU Pj bE G3 (by simpa using aU) (by simpa using hw) (by rw [eg,eg];exact hsz)) ⟨aZ,A0,?_⟩
  rw [e];exact ai hw
noncomputable def cC (n d:Nat):Option Int->Nat
 | none=>d
 | some v=>if v < 0 then (v + (n:Int)).toNat else min v.toNat n
theorem JS (n d k:Nat):cC n d (some (k:Int))=min k n:=by
 show (if (k:Int) < 0 then ((k:Int) + (n:Int)).toNat else min (k:Int).toNat n)=min k n;rw [if_neg (by omega),Sm]
theorem Z7 (n d:Nat) (hd:d <= n) (o:Option Int):cC n d o <= n:=by
 cases o with
 | none=>exact hd
 | some v=>
  show (if v < 0 then (v + (n:Int)).toNat else min v.toNat n) <= n;by_cases aU:v < 0
  .rw [if_pos aU];omega
  .rw [if_neg aU];exact Nat.min_le_right _ _
theorem Sq (v:Int) (n d:Nat):(if v < 0 then max (v + (n:Int)) 0 else min v (n:Int))=((cC n d (some v):Nat):Int):=by
 show (if v < 0 then max (v + (n:Int)) 0 else min v (n:Int))=(((if v < 0 then (v + (n:Int)).toNat else min v.toNat n):Nat):Int);by_cases aU:v < 0
 .simp only [if_pos aU];omega
 .simp only [if_neg aU];omega
theorem ae5 (lo aj:Option Int) (n:Nat):Qg lo aj 1 (n:Int)=(((cC n 0 lo:Nat):Int),((cC n n aj:Nat):Int)):=by
 have af:¬ ((1:Int) < 0):=by omega
 unfold Qg;simp only [af,if_false];refine LA ?_ ?_
 .cases lo with
  | none=>rfl
  | some v=>exact Sq v n 0
 .cases aj with
  | none=>rfl
  | some v=>exact Sq v n n
theorem aaQ (i j:Nat):DM (i:Int) (j:Int) 1=j - i:=by
 unfold DM;have af:(1:Int) > 0:=by omega
 simp only [af,if_true,Int.ediv_one];split <;> omega
theorem Qb (p:IsPart v o) (h:Q o s):wpAny (model prog w) A (ak6 v) Q E s:=by
 cases p with
 | none=>exact slicePart_none h
 | int i t=>exact slicePart_int h
theorem ahG {bE:Addr} {iL iT:Value} {lo aj:Option Int} {n:Nat} {Q:Int × Int × Nat->Shared->Prop} (aG:s.heap.IsSliceOf bE iL iT .none) (pl:IsPart iL lo) (pu:IsPart iT aj)
  (h:Q (((cC n 0 lo:Nat):Int),1,cC n n aj - cC n 0 lo) s):wpAny (model prog w) A (adD (.ref bE) (pure (n:Int))) Q E s:=by
 obtain ⟨os,xh,QO,kr⟩:=id aG;unfold adD alr;refine wpAny_bind (wpAny_bind (wpAny_field xh kr (x:=iL) rfl (wpAny_bind (wpAny_field xh kr (x:=iT) rfl (wpAny_bind (wpAny_field xh kr (x:=.none) rfl (wpAny_pure ?_)))))));refine wpAny_bind (slicePart_none ?_);show wpAny _ _ (if ((1:Int) == 0)=true then _ else _) _ _ s;rw [if_neg (by decide)];refine wpAny_bind (Qb pl (wpAny_bind (Qb pu (wpAny_bind (wpAny_pure ?_)))));show wpAny _ _ (match Qg lo aj 1 (n:Int) with | (lo,aj)=>pure (lo,(1:Int),DM lo aj 1)) _ _ s;rw [ae5 lo aj n];show wpAny _ _ (pure (((cC n 0 lo:Nat):Int),(1:Int),DM ((cC n 0 lo:Nat):Int) ((cC n n aj:Nat):Int) 1)) _ _ s;rw [aaQ];exact wpAny_pure h
theorem aeN (xs:Array Value) (i k:Nat):((dW k).filterMap fun (m:Nat)=>xs[((i:Int) + (m:Int) * 1).toNat]?).toArray=((xs.toList.drop i).take k).toArray:=by
 have e:(fun (m:Nat)=>xs[((i:Int) + (m:Int) * 1).toNat]?)=fun m=>xs[i + m]?:=by
  funext m;have:((i:Int) + (m:Int) * 1).toNat=i + m:=by omega
  rw [this]
 rw [e];have:=pick_run xs i k;rw [List.filterMap_map] at this;have az:((fun x=>xs[x]?) ∘ fun x=>i + x)=fun m=>xs[i + m]?:=rfl
 rw [az] at this;rw [this]
theorem ZW {t bE:Addr} {items:Array Value} {iL iT:Value} {lo aj:Option Int} {Q:Value->Shared->Prop} (cR:IsTup s.heap t items) (aG:s.heap.IsSliceOf bE iL iT .none) (pl:IsPart iL lo) (pu:IsPart iT aj)
  (hw:¬ (cC items.size 0 lo=0/\cC items.size items.size aj=items.size))
  (h:Q (.ref s.heap.objs.size) { s with heap:=s.heap.push { cls:=.type "tuple",data:=.seq ((items.toList.drop (cC items.size 0 lo)).take (cC items.size items.size aj - cC items.size 0 lo)).toArray } })
  (hsz:items.size <= sizeLine):wpAny (model prog w) A (getItem (.ref t) (.ref bE)) Q E s:=by
 have zl:sizeOk (.seq ((items.toList.drop (cC items.size 0 lo)).take (cC items.size items.size aj - cC items.size 0 lo)).toArray):=by
  show ((items.toList.drop (cC items.size 0 lo)).take (cC items.size items.size aj - cC items.size 0 lo)).toArray.size <= sizeLine;rw [eg,eX,tV,zP];omega
 have bf:cC items.size items.size aj <= items.size:=Z7 _ _ (bu _) aj;obtain ⟨os,xh,QO,kr⟩:=id aG;have af7:s.TypeIs (.ref bE) "slice" := ⟨os,xh,QO⟩;unfold getItem
 try with_reducible refine wpAny_holding ?_
 first | refine wpAny_bind (wpAny_pure ?_) | skip
 refine wpAny_bind (wpAny_sequenceKey cR.typeIs (by decide) ?_);refine wpAny_bind (wpAny_callSpecial?_slot (name:=ag "__getitem__") cR.typeIs Ta
  (wpAny_call_entry Ta cR.typeIs entry_tuple_getitem ?_ (args_tuple_getitem _ _)))
 show wpAny _ _ (amP (.ref t) >>= _) _ _ s;refine wpAny_bind (tupleItemsOf_ cR ?_);refine wpAny_bind (wpAny_typeOf af7 ?_);rw [if_pos (by decide)];refine wpAny_bind (ahG aG pl pu ?_);have rD:¬ ((((cC items.size 0 lo:Nat):Int) == 0 && (1:Int) == 1 && (cC items.size items.size aj - cC items.size 0 lo) == items.size)=true):=by
  intro q;rw [iQ,iQ] at q;have bF:((cC items.size 0 lo:Nat):Int)=0:=eq_of_beq q.1.1;have cA:cC items.size items.size aj - cC items.size 0 lo=items.size:=eq_of_beq q.2;exact hw ⟨by omega,by omega⟩
 show wpAny _ _ (if (((cC items.size 0 lo:Nat):Int) == 0 && (1:Int) == 1 && (cC items.size items.size aj - cC items.size 0 lo) == items.size)=true then _ else _) _ _ s;rw [if_neg rD,aeN]
 first
  | exact wpAny_bind (m:=Kn _) (wpAny_newObj_type (wpAny_pure ⟨_,rfl,wpAny_pure h⟩) zl)
  | exact wpAny_bind (m:=Kn _) (wpAny_newObj_type (wpAny_bind (wpAny_pure (wpAny_pure ⟨_,rfl,wpAny_pure h⟩))) zl)
  | exact wpAny_bind (wpAny_bind (m:=Kn _) (wpAny_newObj_type (wpAny_pure (wpAny_pure ⟨_,rfl,wpAny_pure h⟩)) zl))
  | exact wpAny_bind (wpAny_bind (m:=Kn _) (wpAny_newObj_type (wpAny_pure ⟨_,rfl,wpAny_pure h⟩) zl))
end
end ea
namespace L2
open PySem PySem.Spec PyProof.Rows
noncomputable abbrev iN:=St->aq->(Option Int->aq->Prop)->Prop
def BY (X:aP) (e:Option Expr) (t:iN):Prop:=
 ∀ (aa:List (Addr × Obj)) (s:Shared) (σ:St) (H:aq) (Q:Option Int->aq->Prop),Inv X aa σ H s->t σ H Q ->
  wpAny (model X.prog X.w) X.A (evalPart e X.env) (fun u s'=>∃ o I,Inv X aa σ I s'/\IsPart u o/\Q o I) X.cK s
noncomputable def It:iN:=fun _ H Q=>Q none H
noncomputable def Hs (t:TE):iN:=fun σ H Q=>t σ H fun x H1=>fC x fun i=>Q (some i) H1
theorem agr {ns:List Int}:∀ {us:List Value},bN (ns.map V.int) us->IntsAre us ns:=by
 induction ns with
 | nil=>intro us r;rw [mb] at r;cases r;exact .nil
 | cons n ns a_=>
  intro us r;rw [dR] at r;cases r with
  | cons bR cw=>
   obtain ⟨t,e⟩:=bR;subst e;exact .cons n t (a_ cw)
section
variable {X:aP} {e:Expr} {bo:TE} {lo aj:Option Expr} {dp iU:iN} {pos dM:Pos}
theorem pq:BY X none It:=by
 intro aa s σ H Q J h;rw [evalPart_none];exact wpAny_pure ⟨none,H,J,.none,h⟩
theorem mX (h:bk X e bo):BY X (some e) (Hs bo):=by
 intro aa s σ H Q J hw;rw [evalPart_some];refine bq (h aa s σ H _ J hw) fun u s1 b3=>dG b3 fun x H1 aK bR bF=>?_
 obtain ⟨i,rfl,q⟩:=fC.out bF;obtain ⟨t,rfl⟩:=bR;exact ⟨some i,H1,aK,.int i t,q⟩
def Bm (X:aP) (r:V->Option Int->Option Int->aq->cc->Prop):Prop:=
 ∀ (aa:List (Addr × Obj)) (s:Shared) (σ:St) (H:aq) (x:V) (v iL iT:Value) (lo aj:Option Int) (bE:Addr) (Q:cc),Inv X aa σ H s->bD x v->s.heap.IsSliceOf bE iL iT .none->IsPart iL lo->IsPart iT aj->r x lo aj H Q ->
  ∃ T id,typeLookup (.type T) "__getitem__"=pure (some (.builtin id))/\s.TypeIs v T/\wpAny (model X.prog X.w) X.A (getItem v (.ref bE)) (fS X aa σ Q) X.cK s
noncomputable def D5 (r:V->Option Int->Option Int->aq->cc->Prop) (bo:TE) (dp iU:iN):TE:=fun σ H Q=>bo σ H fun x H1=>dp σ H1 fun l ay=>iU σ ay fun u bA=>r x l u bA Q
theorem od (av:Bm X r) (he:bk X e bo) (ax:BY X lo dp) (ba:BY X aj iU):bk X (.Subscript e (.Slice lo aj none dM) pos) (D5 r bo dp iU):=by
 intro aa s σ H Q J h;refine Subscript_ (bq (he aa s σ H _ J h) fun v s1 b3=>dG b3 fun x H1 aK bR bF=>?_);refine wpAny_Slice (bq (ax aa s1 σ H1 _ aK bF) fun iL s2 ⟨l,ay,bl,pl,cA⟩=>bq (ba aa s2 σ ay _ bl cA) fun iT s3 b0=>?_);obtain ⟨u,bA,dA,pu,eV⟩:=b0;rw [evalPart_none];refine wpAny_pure ?_;have fT:Inv X aa σ bA { s3 with heap:=s3.heap.push { cls:=.type "slice",data:=.fields #[iL,iT,.none] } }:=dA.kept (t':=s3.toks) fun b b2 q=>c6 _ q
 obtain ⟨T,id,dc,cR,bj⟩:=av aa { s3 with heap:=s3.heap.push { cls:=.type "slice",data:=.fields #[iL,iT,.none] } } σ bA x v iL iT l u s3.heap.objs.size Q fT bR (amj ..) pl pu eV;show wpAny (model X.prog X.w) X.A (subscriptTail e (.Slice lo aj none dM) v (.ref s3.heap.objs.size)) (fS X aa σ Q) X.cK { s3 with heap:=s3.heap.push { cls:=.type "slice",data:=.fields #[iL,iT,.none] } };exact tail_any (ops:=[.ref s3.heap.objs.size,v]) cR dc bj (by with_unfolding_all rfl)
noncomputable def hk (xs:List V) (lo aj:Option Int):List V:=(xs.drop (ea.cC xs.length 0 lo)).take (ea.cC xs.length xs.length aj - ea.cC xs.length 0 lo)
theorem Rv (xs:List V) (lo aj:Option Int):(hk xs lo aj).length <= xs.length:=by
 unfold hk;rw [eX,tV];omega
noncomputable def Q7 (K:a4):V->Option Int->Option Int->aq->cc->Prop:=fun x lo aj H Q=>∃ a xs,x=.ref a/\bY K H a xs /\
 ¬ (ea.cC xs.length 0 lo=0/\ea.cC xs.length xs.length aj=xs.length)/\∀ p,H p=none->Q (.ref p) (upd H p (.tup (hk xs lo aj)))
theorem akD:Bm X (Q7 X.K):=by
 intro aa s σ H x v iL iT lo aj bE Q J bg aG pl pu h;obtain ⟨a,xs,rfl,ak,hw,q⟩:=h;cases bg;obtain ⟨aI,r,cR,aD⟩:=J.tuple ak;have hlen:aI.toArray.size=xs.length:=by rw [eg];exact r.length.symm
 refine ⟨"tuple",_,Ta.lookup,cR.typeIs,?_⟩;refine ea.ZW cR aG pl pu (by rw [hlen];exact hw) ?_ (by rw [hlen];exact aD);rw [hlen];refine ⟨.ref s.heap.objs.size,_,J.laid (t':=s.toks) (o:=.tup (hk xs lo aj)) (fun b b2 q=>c6 _ q) (bu _) ?_,rfl,q _ (J.a6.fresh (bu _))⟩;exact ⟨⟨b8 (Rv xs lo aj) aD,_,en _ rfl,rfl⟩,_,(r.drop (ea.cC xs.length 0 lo)).take (ea.cC xs.length xs.length aj - ea.cC xs.length 0 lo),Xi _ _⟩
noncomputable def Tr (K:a4):ez:=fun x y H Q=>∃ a b xs ys,x=.ref a/\y=.ref b/\bY K H a xs/\bY K H b ys/\xs ≠ []/\xs.length + ys.length <= sizeLine /\
 (ys=[]->Q (.ref a) H)/\(ys ≠ []->∀ p,H p=none->Q (.ref p) (upd H p (.tup (xs ++ ys))))
theorem bN.Fl (r:bN xs us):us=[]↔xs=[]:=by
 cases r with
 | nil=>simp
 | cons _ _=>simp
theorem aa8:gQ X (binaryOp .Add) (Tr X.K):=by
 intro aa s σ H x y v u Q J bg bw h;obtain ⟨a,b,xs,ys,rfl,rfl,aO,ab,ak,aD,bF,cA⟩:=h;cases bg;cases bw;obtain ⟨aI,bR,hc,_⟩:=J.tuple aO;obtain ⟨pb,cw,dM,_⟩:=J.tuple ab;refine ea.aa1 hc dM (fun z=>ak (bR.Fl.mp z)) (fun z=>⟨.ref a,H,J,rfl,bF (cw.Fl.mp z)⟩) (fun z=>?_) (by rw [<- bR.length,<- cw.length];exact aD);refine ⟨.ref s.heap.objs.size,_,J.laid (t':=s.toks) (o:=.tup (xs ++ ys)) (fun b b2 q=>c6 _ q) (bu _) ?_,rfl,cA (fun w=>z (cw.Fl.mpr w)) _ (J.a6.fresh (bu _))⟩;exact ⟨⟨by rw [dq];exact aD,_,en _ rfl,rfl⟩,_,bR.append cw,Xi _ _⟩
end
noncomputable def mY (n:Nat) (i:Int):Option Nat:=if 0 <= i then (if i < n then some i.toNat else none) else if -(n:Int) <= i then some (i + n).toNat else none
noncomputable def i' {α:Type} (xs:List α) (i:Int):Option α:=(mY xs.length i).bind fun j=>xs[j]?
theorem RS (h:mY n i=some j):seqIndex? i n=some j/\j < n/\-(n:Int) <= i/\i < n:=by
 unfold mY at h;by_cases h0:0 <= i
 .rw [if_pos h0] at h;by_cases af:i < n
  .rw [if_pos af] at h;have e:i.toNat=j:=dj h;exact ⟨by rw [seqIndex_of h0 af,e],by omega,by omega,af⟩
  .rw [if_neg af] at h;cases h
 .rw [if_neg h0] at h;by_cases af:-(n:Int) <= i
  .rw [if_pos af] at h;have e:(i + n).toNat=j:=dj h;exact ⟨by rw [seqIndex_neg (by omega) af,e],by omega,af,by omega⟩
  .rw [if_neg af] at h;cases h
theorem Iw (h:i' xs i=some v):∃ j,seqIndex? i xs.length=some j/\xs[j]? = some v/\j < xs.length/\-(xs.length:Int) <= i/\i < xs.length:=by
 unfold i' at h;cases e:mY xs.length i with
 | none=>rw [e] at h;cases h
 | some j=>
  rw [e] at h;obtain ⟨af,ai,br,cm⟩:=RS e;exact ⟨j,af,h,ai,br,cm⟩
theorem dw {α:Type} {xs:List α} {j:Nat} {v:α} (h:xs[j]? = some v):i' xs (j:Int)=some v:=by
 have bf:j < xs.length:=(cV.mp h).1;have e:mY xs.length (j:Int)=some j:=by
  unfold mY;rw [if_pos (by omega),if_pos (by omega)];simp
 unfold i';rw [e];exact h
def LV (b:Expr):Prop:=∀ o i,subscripted b false o i=operate [o,i] (getItem o i)
def vm (X:aP) (r:ez):Prop:=
 ∀ (value slice:Expr) (aa:List (Addr × Obj)) (s:Shared) (σ:St) (H:aq) (x y:V) (v u:Value) (Q:cc),Inv X aa σ H s->bD x v->bD y u->r x y H Q ->
  subscripted slice false v u=operate [v,u] (getItem v u)->wpAny (model X.prog X.w) X.A (subscriptTail value slice v u) (fS X aa σ Q) X.cK s
def wq (X:aP) (id:String) (r:V->List V->aq->cc->Prop):Prop:=
 ∀ (aa:List (Addr × Obj)) (s:Shared) (σ:St) (H:aq) (x:V) (xs:List V) (v:Value) (us:List Value) (Q:cc),Inv X aa σ H s->bD x v->bN xs us->r x xs H Q ->
  wpAny (model X.prog X.w) X.A (call (.builtin id) (v :: us)) (fS X aa σ Q) X.cK s
section
variable {X:aP} {a b:Expr} {aV ct:TE} {pos:Pos}
theorem acf (av:vm X r) (aO:bk X a aV) (ab:bk X b ct) (aG:LV b):bk X (.Subscript a b pos) (sa r aV ct):=by
 intro aa s σ H Q J h;exact Subscript_ (Gv aO ab J h fun v u s2 x y ay bl bg bw q=>av a b aa s2 σ ay x y v u Q bl bg bw q (aG _ _))
noncomputable def Ek (K:a4):ez:=fun x y H Q=>eC x fun p=>∃ xs,fC y fun i=>aW K H p xs/\∃ v,i' xs i=some v/\Q v H
noncomputable def IY (K:a4):ez:=fun x y H Q=>eC x fun p=>∃ xs,fC y fun i=>bY K H p xs/\∃ v,i' xs i=some v/\Q v H
noncomputable def Er:ez:=fun x y H Q=>∃ z i c,x=.str z/\y=.int i/\z.length <= sizeLine/\i' z.cps.toList i=some c/\Q (.str ⟨#[c]⟩) H
theorem gI:vm X (Ek X.K):=by
 intro value slice aa s σ H x y v u Q J bg bw h aG;obtain ⟨p,rfl,xs,gf⟩:=eC.out h;obtain ⟨i,rfl,aB,z,he,q⟩:=fC.out gf;cases bg;obtain ⟨t,rfl⟩:=bw;obtain ⟨aI,r,pl,aD⟩:=J.list aB;obtain ⟨j,af,ai,br,cm,gK⟩:=Iw he;obtain ⟨w,oN,hj⟩:=r.get ai;have ax:=r.length;have aH:=r4;have fin:fS X aa σ Q w s:=⟨z,H,J,hj,q⟩;by_cases h0:0 <= i
 .have bf:i.toNat=j:=by
   rw [seqIndex_of h0 gK] at af;exact dj af
  exact item_listR pl.isList h0 (by omega) (by rw [bf];simpa using oN) fin aG
 .have bf:(i + (aI.toArray.size:Int)).toNat=j:=by
   rw [seqIndex_neg (by omega) cm] at af;rw [eg,<- ax];exact dj af
  exact subscriptTail_builtinR (x:=w) pl.isList.typeIs slot_list_getitem.lookup
   (wpAny_getItem_list_neg (Q:=fun r s'=>r=w/\fS X aa σ Q r s') pl.isList (by omega) (by rw [eg] <;> omega) (by omega) (by rw [bf];simpa using oN) ⟨rfl,fin⟩) aG
theorem er:vm X (IY X.K):=by
 intro value slice aa s σ H x y v u Q J bg bw h aG;obtain ⟨p,rfl,xs,gf⟩:=eC.out h;obtain ⟨i,rfl,aB,z,he,q⟩:=fC.out gf;cases bg;obtain ⟨t,rfl⟩:=bw;obtain ⟨aI,r,pl,aD⟩:=J.tuple aB;obtain ⟨j,af,ai,br,cm,gK⟩:=Iw he;obtain ⟨w,oN,hj⟩:=r.get ai;have ax:=r.length;have aH:=r4;have fin:fS X aa σ Q w s:=⟨z,H,J,hj,q⟩;exact subscriptTail_builtinR (x:=w) pl.typeIs slot_tuple_getitem.lookup
  (getItem_tuple (j:=j) (Q:=fun r s'=>r=w/\fS X aa σ Q r s') pl (by omega) (by omega) (by rw [eg,<- ax];exact af) (by simpa using oN) ⟨rfl,fin⟩) aG
theorem F_:vm X Er:=by
 intro value slice aa s σ H x y v u Q J bg bw h aG;obtain ⟨z,i,c,rfl,rfl,aD,he,q⟩:=h;obtain ⟨t,rfl⟩:=bg;obtain ⟨t',rfl⟩:=bw;obtain ⟨j,af,ai,br,cm,gK⟩:=Iw he;have ax:z.cps.toList.length=z.length:=by simp [nJ]
 rw [ax] at af cm gK;have aH:=r4;exact tail_any (typeIs_str s z t) slot_str_getitem.lookup (getItem_str (c:=c) (by
  have aw:decide (i < -(2 ^ 63:Int))=false:=decide_eq_false (by omega);have az:decide (i ≥ 2 ^ 63)=false:=decide_eq_false (by omega);rw [aw,az,ZX]) (by rw [af];simpa using ai) ⟨.str ⟨#[c]⟩,H,J.tok _,⟨_,rfl⟩,q⟩) aG
theorem ah7 (aI:List Value) (n j:Nat) (u:Value):yC (·.setIfInBounds j u) { cls:=.type "list",data:=.seq aI.toArray n } = { cls:=.type "list",data:=.seq (aI.set j u).toArray n }:=by
 simp [yC]
theorem Inv.lst {p:Addr} (J:Inv X aa σ H s) (h:H p=some (.lst xs)) :
  ∃ (aI:List Value) (n:Nat),bN xs aI/\s.heap.get? p=some { cls:=.type "list",data:=.seq aI.toArray n }/\xs.length <= sizeLine:=by
 obtain ⟨z,aI,n,r,e⟩:=J.a6 p _ h;exact ⟨aI,n,r,e,z⟩
theorem Inv.afk {p:Addr} {aI its':List Value} (J:Inv X aa σ H s) (h:H p=some (.lst xs))
  (aZ:s.heap.get? p=some { cls:=.type "list",data:=.seq aI.toArray n }) (hf:f { cls:=.type "list",data:=.seq aI.toArray n } = { cls:=.type "list",data:=.seq its'.toArray h1 }) (r:bN ys its') (aD:ys.length <= sizeLine) (t:Nat) :
  Inv X aa σ (upd H p (.lst ys)) { s with heap:=s.heap.update p f,toks:=t }:=by
 have e:(s.heap.update p f).get? p=some { cls:=.type "list",data:=.seq its'.toArray h1 }:=by
  rw [lS f aZ (by rw [hf] <;> rfl),hf]
 refine J.write (x:=p) (e:=p) (by rw [h];trivial) (.inl rfl) (fun b u ab q=>(jM _ _ (c7 ab)).trans q) ⟨_,e⟩ ?_;exact ⟨aD,its',h1,r,e⟩
noncomputable def JN:V->V->V->aq->(aq->Prop)->Prop:=fun o i v H Q=>eC o fun p=>∃ xs,fC i fun k=>H p=some (.lst xs)/\∃ j,mY xs.length k=some j/\Q (upd H p (.lst (xs.set j v)))
theorem ae8:Lb X JN:=by
 intro aa s σ H o i v dx gX u Q J ZN aio bV h;obtain ⟨p,rfl,xs,gf⟩:=eC.out h;obtain ⟨k,rfl,ao,j,bf,q⟩:=fC.out gf;cases ZN;obtain ⟨t,rfl⟩:=aio;obtain ⟨aI,n,r,aZ,aD⟩:=J.lst ao;obtain ⟨af,ai,br,cm⟩:=RS bf;have ax:=r.length;have aH:=r4;have ib:Inv X aa σ (upd H p (.lst (xs.set j v))) { s with heap:=s.heap.update p (yC (·.setIfInBounds j u)) }:=
  J.afk ao aZ (ah7 aI n j u) (r.set bV j) (by rw [List.length_set];exact aD) s.toks
 by_cases h0:0 <= k
 .have aJ:k.toNat=j:=by
   rw [seqIndex_of h0 cm] at af;exact dj af
  exact PySem.W.ki_setAt aZ h0 (by omega) (by rw [eg,<- ax];exact cm) (by rw [aJ];exact ⟨_,ib,q⟩)
 .have aJ:(k + (aI.toArray.size:Int)).toNat=j:=by
   rw [seqIndex_neg (by omega) br] at af;rw [eg,<- ax];exact dj af
  exact PySem.W.ki_setBack aZ (by omega) (by rw [eg,<- ax];exact br) (by omega) (by rw [aJ];exact ⟨_,ib,q⟩)
theorem ack (lo aj:Option Int) (n:Nat):(sliceBounds lo aj none n).1=((ea.cC n 0 lo:Nat):Int)/\(sliceBounds lo aj none n).2.1=((ea.cC n n aj:Nat):Int)/\(sliceBounds lo aj none n).2.2=1:=by
 refine ⟨?_,?_,rfl⟩
 .cases lo with
  | none=>simp [sliceBounds,ea.cC]
  | some i=>
   simp only [sliceBounds,ea.cC,ab',show (1:Int) > 0 by decide,if_true];by_cases h:i < 0
   .simp only [h,if_true] <;> omega
   .simp only [h,if_false] <;> omega
 .cases aj with
  | none=>simp [sliceBounds,ea.cC]
  | some i=>
   simp only [sliceBounds,ea.cC,ab',show (1:Int) > 0 by decide,if_true];by_cases h:i < 0
   .simp only [h,if_true] <;> omega
   .simp only [h,if_false] <;> omega
theorem U4 (aI:List Value) (lo aj:Option Int):slicePick aI.toArray lo aj none=((aI.drop (ea.cC aI.length 0 lo)).take (ea.cC aI.length aI.length aj - ea.cC aI.length 0 lo)).toArray:=by
 obtain ⟨af,ai,br⟩:=ack lo aj aI.toArray.size;unfold slicePick;rw [af,ai,br];simp only [sliceRange_one,pick_run,eg] <;> rfl
noncomputable def G7 (K:a4):V->Option Int->Option Int->aq->cc->Prop:=fun x lo aj H Q=>∃ a xs,x=.ref a/\aW K H a xs/\∀ p,H p=none->Q (.ref p) (upd H p (.lst (hk xs lo aj)))
theorem vJ:Bm X (G7 X.K):=by
 intro aa s σ H x v iL iT lo aj bE Q J bg aG pl pu h;obtain ⟨a,xs,rfl,ak,q⟩:=h;cases bg;obtain ⟨aI,r,cR,aD⟩:=J.list ak;have hlen:=r.length;refine ⟨"list",_,slot_list_getitem.lookup,cR.isList.typeIs,?_⟩;refine wpAny_getItem_list_slice cR.isList aG pl pu .none (by simp) ?_ (by rw [eg] <;> omega);rw [U4,<- hlen];refine ⟨.ref s.heap.objs.size,_,J.laid (t':=s.toks) (o:=.lst (hk xs lo aj)) (fun b b2 q=>c6 _ q) (bu _) ?_,rfl,q _ (J.a6.fresh (bu _))⟩;exact ⟨b8 (Rv xs lo aj) aD,_,0,(r.drop (ea.cC xs.length 0 lo)).take (ea.cC xs.length xs.length aj - ea.cC xs.length 0 lo),en _ rfl⟩
noncomputable def k_:V->Bool
 | .bT=>true
 | .bp _=>true
 | .int _=>true
 | .str _=>true
 | _=>false
noncomputable def lK:V->V->Bool
 | .bT,.bT=>true
 | .bp a,.bp b=>a == b
 | .bp a,.int b=>(if a then 1 else 0) == b
 | .int a,.bp b=>a == (if b then 1 else 0)
 | .int a,.int b=>a == b
 | .str a,.str b=>a == b
 | _,_=>false
theorem aeD {A:Around} {y x:V} (bw:bD y u) (bg:bD x v) (Wq:k_ y=true) (kY:k_ x=true):Vz A s u v (lK y x):=by
 cases y with
 | bT=>
  cases bw;cases x with
  | bT=>cases bg;exact SeqAt.EqAt.same _
  | bp b=>cases bg;exact SeqAt.EqAt.none_bool b
  | int b=>obtain ⟨t,rfl⟩:=bg;exact SeqAt.EqAt.none_int b t
  | str b=>obtain ⟨t,rfl⟩:=bg;exact SeqAt.EqAt.none_str b t
  | _=>exact absurd (show false=true from kY) fh
 | bp a=>
  cases bw;cases x with
  | bT=>cases bg;exact SeqAt.EqAt.bool_none a
  | bp b=>cases bg;exact SeqAt.EqAt.bool_bool a b
  | int b=>obtain ⟨t,rfl⟩:=bg;exact SeqAt.EqAt.bool_int a b t
  | str b=>obtain ⟨t,rfl⟩:=bg;exact SeqAt.EqAt.bool_str a b t
  | _=>exact absurd (show false=true from kY) fh
 | int a=>
  obtain ⟨t',rfl⟩:=bw;cases x with
  | bT=>cases bg;exact SeqAt.EqAt.int_none a t'
  | bp b=>cases bg;exact SeqAt.EqAt.int_bool a t' b
  | int b=>obtain ⟨t,rfl⟩:=bg;exact SeqAt.EqAt.int_int a t' b t
  | str b=>obtain ⟨t,rfl⟩:=bg;exact aeQ a t' b t
  | _=>exact absurd (show false=true from kY) fh
 | str a=>
  obtain ⟨t',rfl⟩:=bw;cases x with
  | bT=>cases bg;exact SeqAt.EqAt.str_none a t'
  | bp b=>cases bg;exact SeqAt.EqAt.str_bool a t' b
  | int b=>obtain ⟨t,rfl⟩:=bg;exact Yu a t' b t
  | str b=>obtain ⟨t,rfl⟩:=bg;exact SeqAt.EqAt.str_str a t' b t
  | _=>exact absurd (show false=true from kY) fh
 | _=>exact absurd (show false=true from Wq) fh
noncomputable def js (x:V) (u:Value):Bool:=match u with
 | .none=>lK .bT x
 | .bool b=>lK (.bp b) x
 | .int i _=>lK (.int i) x
 | .str z _=>lK (.str z) x
 | _=>false
theorem T3 {x y:V} (r:bD y u) (f:k_ y=true):js x u=lK y x:=by
 cases y with
 | bT=>cases r;rfl
 | bp b=>cases r;rfl
 | int i=>obtain ⟨t,rfl⟩:=r;rfl
 | str z=>obtain ⟨t,rfl⟩:=r;rfl
 | _=>exact absurd (show false=true from f) fh
theorem vS {x:V}:∀ {xs:List V} {us:List Value},bN xs us->xs.all k_=true->us.any (js x)=xs.any fun y=>lK y x
 | _,_,.nil,_=>rfl
 | y :: xs,u :: us,.cons r t,f=>by
  rw [ac7,iQ] at f;rw [xR,xR,T3 r f.1,vS t f.2]
theorem yo {A:Around} {x:V} (bg:bD x v) (kY:k_ x=true):∀ {xs:List V} {us:List Value},bN xs us->xs.all k_=true->∀ u ∈ us,Vz A s u v (js x u)
 | _,_,.nil,_=>fun u ba=>by cases ba
 | y :: xs,u :: us,.cons r t,f=>fun gJ ba=>by
  rw [ac7,iQ] at f;rcases cX.mp ba with rfl | ba
  .rw [T3 r f.1];exact aeD r bg f.1 kY
  .exact yo bg kY t f.2 gJ ba
noncomputable def n2 (x:V) (xs:List V):Bool:=xs.any fun y=>lK y x
noncomputable def Co (K:a4) (neg:Bool):ez:=fun x y H Q=>∃ p xs,y=.ref p/\(aW K H p xs\/bY K H p xs)/\k_ x=true/\xs.all k_=true/\Q (.bp (if neg then !n2 x xs else n2 x xs)) H
theorem nO:gQ X (compareOp .In) (Co X.K false):=by
 intro aa s σ H x y v u Q J bg bw h;obtain ⟨p,xs,rfl,aB,kY,aQ,q⟩:=h;cases bw;rcases aB with aB | aB
 .obtain ⟨aI,r,pl,aD⟩:=J.list aB;refine SeqAt.in_listAt (js x) pl.isList (fun w hw=>yo bg kY r aQ w (by simpa using hw)) ⟨.bp _,H,J,rfl,?_⟩;rw [show aI.toArray.any (js x)=aI.any (js x) by simp,vS r aQ];exact q
 .obtain ⟨aI,r,pl,aD⟩:=J.tuple aB;refine SeqAt.in_tupleAt (js x) pl (fun w hw=>yo bg kY r aQ w (by simpa using hw)) ⟨.bp _,H,J,rfl,?_⟩;rw [show aI.toArray.any (js x)=aI.any (js x) by simp,vS r aQ];exact q
theorem AU:gQ X (compareOp .NotIn) (Co X.K true):=by
 intro aa s σ H x y v u Q J bg bw h;obtain ⟨p,xs,rfl,aB,kY,aQ,q⟩:=h;cases bw;rcases aB with aB | aB
 .obtain ⟨aI,r,pl,aD⟩:=J.list aB;refine SeqAt.notIn_listAt (js x) pl.isList (fun w hw=>yo bg kY r aQ w (by simpa using hw)) ⟨.bp _,H,J,rfl,?_⟩;rw [show aI.toArray.any (js x)=aI.any (js x) by simp,vS r aQ];exact q
 .obtain ⟨aI,r,pl,aD⟩:=J.tuple aB;refine SeqAt.notIn_tupleAt (js x) pl (fun w hw=>yo bg kY r aQ w (by simpa using hw)) ⟨.bp _,H,J,rfl,?_⟩;rw [show aI.toArray.any (js x)=aI.any (js x) by simp,vS r aQ];exact q
theorem jU:jK X (.builtin "len") (fun xs H Q=>k' xs fun x=>eC x fun p=>∃ ys,(aW X.K H p ys\/bY X.K H p ys)/\Q (.int ys.length) H):=by
 intro aa s σ H xs us Q J r h;obtain ⟨XT,rfl,gf⟩:=k'.out h;obtain ⟨p,rfl,ys,aB,q⟩:=eC.out gf;obtain ⟨u,rfl,bg⟩:=Op r;cases bg;have aH:=r4;rcases aB with aB | aB
 .obtain ⟨aI,d1,pl,aD⟩:=J.list aB;have hlen:=d1.length;exact Calls.call_len_list pl.isList (by simp only [eg] <;> omega) ⟨.int ys.length,H,J.tok _,⟨s.toks + 1,by rw [eg,hlen]⟩,q⟩
 .obtain ⟨aI,d1,pl,aD⟩:=J.tuple aB;have hlen:=d1.length;exact len_tuple pl (by simp only [eg] <;> omega) ⟨.int ys.length,H,J.tok _,⟨s.toks + 1,by rw [eg,hlen]⟩,q⟩
theorem tz:jK X (.builtin "len") (fun xs H Q=>∃ z,xs=[.str z]/\z.length <= sizeLine/\Q (.int z.length) H):=by
 intro aa s σ H xs us Q J r h;obtain ⟨z,rfl,aD,q⟩:=h;obtain ⟨u,rfl,t,rfl⟩:=Op r;have aH:=r4;exact len_str (by omega) ⟨.int z.length,H,J.tok _,⟨_,rfl⟩,q⟩
theorem afX:jK X (.type "list") (fun xs H Q=>∃ p ys,xs=[.ref p]/\(aW X.K H p ys\/bY X.K H p ys)/\∀ l,H l=none->Q (.ref l) (upd H l (.lst ys))):=by
 intro aa s σ H xs us Q J r h;obtain ⟨p,ys,rfl,aB,q⟩:=h;obtain ⟨u,rfl,bg⟩:=Op r;cases bg;have fin:∀ (aI:List Value),bN ys aI->ys.length <= sizeLine->∀ (h':Heap) (dT:Nat),(∀ b cM,s.heap.get? b=some cM->h'.get? b=some cM) ->
   h'.get? s.heap.objs.size=some { cls:=.type "list",dict:=none,data:=.seq aI.toArray dT,slots:=#[] }->fS X aa σ Q (.ref s.heap.objs.size) { s with heap:=h' }:=fun aI d1 aD h' dT bh e=>
  ⟨.ref s.heap.objs.size,_,J.laid (t':=s.toks) bh (bu _) (show dK X.prog X.w _ h' _ (.lst ys) from ⟨aD,aI,dT,d1,e⟩),rfl,q _ (J.a6.fresh (bu _))⟩
 rcases aB with aB | aB
 .obtain ⟨aI,d1,pl,aD⟩:=J.list aB;have hlen:=d1.length;obtain ⟨o,aZ,ar,n,hd⟩:=pl.isList;exact call_list_seq p (.inl rfl) aZ ar hd (fun h' dT bh e=>fin aI d1 aD h' dT bh e) (by simp only [eg] <;> omega)
 .obtain ⟨aI,d1,pl,aD⟩:=J.tuple aB;have hlen:=d1.length;obtain ⟨o,aZ,ar,n,hd⟩:=pl;exact call_list_seq p (.inr rfl) aZ ar hd (fun h' dT bh e=>fin aI d1 aD h' dT bh e) (by simp only [eg] <;> omega)
def A9 (K:a4) (T:String) (x:V) (H:aq):Prop:=match x with
 | .str _=>T = "str"
 | .int _=>T = "int"
 | .ref p=>(T = "list" /\ ∃ xs,aW K H p xs)\/(T = "tuple" /\ ∃ o,K.lookup p=some o/\o.cls=.type "tuple" /\ o.dict=none) \/
   (T = "dict" /\ ((∃ aE,H p=some (.dN aE))\/∃ aE,H p=some (.fU aE)))\/(T = "set" /\ ∃ S n,H p=some (.set S n))
 | _=>False
theorem UI {x:V} (J:Inv X aa σ H s) (r:bD x v) (ty:A9 X.K T x H) :
  s.TypeIs v T/\∀ a,v=.ref a->∃ b2,s.heap.get? a=some b2/\b2.dict=none:=by
 cases x with
 | str z=>
  obtain ⟨t,rfl⟩:=r;cases (show T = "str" from ty);exact ⟨typeIs_str s z t,fun _ e=>nomatch e⟩
 | int i=>
  obtain ⟨t,rfl⟩:=r;cases (show T = "int" from ty);exact ⟨typeIs_int s i t,fun _ e=>nomatch e⟩
 | ref p=>
  cases r;rcases ty with ⟨rfl,xs,aB⟩ | ⟨rfl,o,aJ,ar,hd⟩ | ⟨rfl,aJ⟩ | ⟨rfl,S,n,aJ⟩
  .obtain ⟨aI,_,pl,_⟩:=J.list aB;refine ⟨pl.isList.typeIs,fun a e=>?_⟩;cases e;obtain ⟨o,n,e,c,hd,_⟩:=pl;exact ⟨o,e,hd⟩
  .refine ⟨⟨o,J.ep p o aJ,ar⟩,fun a e=>?_⟩;cases e;exact ⟨o,J.ep _ o aJ,hd⟩
  .have z:∃ o,s.heap.get? p=some o/\o.ExactDict:=by
    rcases aJ with ⟨aE,aJ⟩ | ⟨aE,aJ⟩
    .obtain ⟨_,_,_,_,o,_,_,e,ex,_⟩:=J.a6 p _ aJ;exact ⟨o,e,ex⟩
    .obtain ⟨_,_,_,_,o,_,_,e,ex,_⟩:=J.a6 p _ aJ;exact ⟨o,e,ex⟩
   obtain ⟨o,e,ex⟩:=z;refine ⟨⟨o,e,ex.1⟩,fun a az=>?_⟩;cases az;exact ⟨o,e,ex.2.1⟩
  .obtain ⟨o,_,_,_,e,ex,_⟩:=J.a6 p _ aJ;refine ⟨⟨o,e,ex.1⟩,fun a az=>?_⟩;cases az;exact ⟨o,e,ex.2.1⟩
 | _=>exact jI ty
noncomputable def G6 (K:a4) (T:String) (r:V->List V->aq->cc->Prop) (to:TE):TE:=fun σ H Q=>to σ H fun x H1=>A9 K T x H1/\r x [] H1 Q
noncomputable def HT (K:a4) (T:String) (r:V->List V->aq->cc->Prop) (to:TE) (t:d2):TE:=fun σ H Q=>to σ H fun x H1=>A9 K T x H1/\t σ H1 fun xs ay=>r x xs ay Q
variable {o e:Expr} {aF:List Expr} {to:TE} {t:d2} {name:Str} {eB hK:Pos} {T id:String} {r:V->List V->aq->cc->Prop}
theorem ac8 (cO:PlainAttrs T) (slot:Slot T name id) (Jm:typeOf (.builtin id)=pure (.type "method_descriptor")) (hm:wq X id r) (aZ:bk X o to)
  (IB:attributeBase o name X.env (eval o X.env)=eval o X.env:=by rfl) (F1:(eB.endLine == hK.line)=true:=by rfl):bk X (.Call (.Attribute o name eB) [] [] hK) (G6 X.K T r to):=by
 intro aa s σ H Q J h;refine wpAny_Call_method0_late IB F1 (bq (aZ aa s σ H _ J h) fun v s1 b0=>?_);obtain ⟨x,H1,aK,bR,ty,bF⟩:=b0;obtain ⟨af,ai⟩:=UI aK bR ty;exact ⟨T,id,cO,slot,Jm,af,ai,XJ rfl (PySem.evalArgs_none (hm aa s1 σ H1 x [] v [] Q aK bR .nil bF))⟩
theorem iS (cO:PlainAttrs T) (slot:Slot T name id) (Jm:typeOf (.builtin id)=pure (.type "method_descriptor")) (hm:wq X id r) (aZ:bk X o to) (aO:ei X (e :: aF) t)
  (IB:attributeBase o name X.env (eval o X.env)=eval o X.env:=by rfl)
  (acY:((backTo hK (starEach (e :: aF) X.env)).all (fun x=>!x.1) && (backToKw hK (keywordEach [] X.env)).all (fun x=>x.1.isSome)
   && decide ((e :: aF).length + ([]:List Keyword).length + (if ([]:List Keyword).isEmpty then 0 else 1) < 30))=true:=by rfl)
  (F1:(eB.endLine == hK.line)=true:=by rfl) (aG:starEach (e :: aF) X.env=(false,eval e X.env) :: starEach aF X.env:=by rfl) (hplain:(backTo hK (starEach aF X.env)).any (·.1)=false:=by rfl) :
  bk X (.Call (.Attribute o name eB) (e :: aF) [] hK) (HT X.K T r to t):=by
 intro aa s σ H Q J h;refine wpAny_Call_method_late IB acY F1 rfl (bq (aZ aa s σ H _ J h) fun v s1 b0=>?_);obtain ⟨x,H1,aK,bR,ty,bF⟩:=b0;obtain ⟨af,ai⟩:=UI aK bR ty;refine ⟨T,id,cO,slot,Jm,af,ai,?_⟩;have kg:=aO hK aa s1 σ H1 _ aK bF;rw [aG] at kg ⊢;refine XJ (by show (false || (backTo hK (starEach aF X.env)).any (·.1))=false;rw [hplain] <;> rfl) (Calls.evalArgs_plain ?_);exact bq kg fun us s2 ⟨vs,ay,bl,cw,cA⟩=>hm aa s2 σ ay x vs v us Q bl bR cw cA
end
def AQ (X:aP) (id:String) (r:V->List V->aq->cc->Prop):Prop:=
 ∀ (aa:List (Addr × Obj)) (s:Shared) (σ:St) (H:aq) (x:V) (xs:List V) (v:Value) (us:List Value) (Q:cc),Inv X aa σ H s->bD x v->bN xs us->r x xs H Q ->
  wpAny (model X.prog X.w) X.A (call (.builtin id) (v :: us)) (fS X aa σ Q) X.cK s
theorem bN.one:∀ {x:V} {us:List Value},bN [x] us->∃ u,us=[u]/\bD x u
 | _,_,.cons r .nil=>⟨_,rfl,r⟩
theorem bN.zero:∀ {us:List Value},bN [] us->us=[]
 | _,.nil=>rfl
theorem bN.reverse (h:bN xs us):bN xs.reverse us.reverse:=by
 induction h with
 | nil=>exact .nil
 | cons r t a_=>rw [ajJ,ajJ];exact bN.append a_ (.cons r .nil)
section
variable {X:aP} {aa:List (Addr × Obj)} {σ:St} {H:aq} {s:Shared} {l b:Addr} {xs ys zs:List V}
theorem Inv.A7 {aI its':List Value} (J:Inv X aa σ H s) (h3:H l=some (.lst xs))
  (e:s.heap.get? l=some { cls:=.type "list",data:=.seq aI.toArray n }) (hf:f aI.toArray=its'.toArray) (aU:bN ys its') (aD:ys.length <= sizeLine) :
  Inv X aa σ (upd H l (.lst ys)) { s with heap:=s.heap.update l (yC f),toks:=t' }:=by
 have q:=PySem.IsL.update e f;rw [hf] at q;refine J.write (x:=l) (e:=l) (by rw [h3];exact trivial) (.inl rfl) (fun mW u ab ba=>(jM s.heap (yC f) (c7 ab)).trans ba) ⟨_,q⟩ ?_;exact ⟨aD,its',_,aU,q⟩
theorem Inv.Zh {aI:List Value} (J:Inv X aa σ H s) (aU:bN ys aI) (aD:ys.length <= sizeLine) :
  Inv X aa σ (upd H s.heap.objs.size (.lst ys)) { s with heap:=s.heap.push { cls:=.type "list",data:=.seq aI.toArray },toks:=t' }:=
 J.laid (fun _ _ q=>c6 _ q) (bu _) ⟨aD,aI,0,aU,en _ rfl⟩
theorem Inv.fresh (J:Inv X aa σ H s):H s.heap.objs.size=none:=J.a6.fresh (bu _)
theorem Inv.rS (J:Inv X aa σ H s) (h3:H l=some (.lst xs)):xs.length <= sizeLine/\∃ (aI:List Value) (n:Nat),bN xs aI/\xs.length=aI.length/\s.heap.get? l=some { cls:=.type "list",data:=.seq aI.toArray n }:=by
 obtain ⟨z,aI,n,r,e⟩:=J.a6 l _ h3;exact ⟨z,aI,n,r,r.length,e⟩
theorem Yc (h:n <= sizeLine):N6 n=false:=by
 unfold N6;exact decide_eq_false (by omega)
end
section
variable {X:aP}
noncomputable def Jv:V->List V->aq->cc->Prop:=fun x vs H Q=>eC x fun l=>k' vs fun y=>∃ xs,H l=some (.lst xs)/\xs.length < sizeLine/\Q .bT (upd H l (.lst (xs ++ [y])))
theorem q2:AQ X "list.append" Jv:=by
 intro aa s σ H x vs v us Q J bg bV h;obtain ⟨l,rfl,gf⟩:=eC.out h;obtain ⟨y,rfl,xs,h3,aD,q⟩:=k'.out gf;cases bg;obtain ⟨u,rfl,dD⟩:=bV.one;obtain ⟨z,aI,n,r,ax,e⟩:=J.rS h3;refine call_meets rX ⟨_,e,rfl⟩ F.entry_list_append (F.args_list_append_2 _ _) (PySem.list_append l aI.toArray n u (by rw [eg];omega)) ⟨e,?_⟩;refine ⟨.bT,_,J.A7 (its':=aI ++ [u]) h3 e (by simp) (r.append (.cons dD .nil)) ?_,rfl,q⟩;rw [dq,v_];omega
noncomputable def E4:V->List V->aq->cc->Prop:=fun x vs H Q=>∃ l b xs zs,x=.ref l/\vs=[.ref b]/\H l=some (.lst xs)/\H b=some (.lst zs)/\xs.length + zs.length <= sizeLine/\Q .bT (upd H l (.lst (xs ++ zs)))
theorem K8:AQ X "list.extend" E4:=by
 intro aa s σ H x vs v us Q J bg bV h;obtain ⟨l,b,xs,zs,rfl,rfl,h3,qX,aD,q⟩:=h;cases bg;obtain ⟨u,rfl,dD⟩:=bV.one;cases dD;obtain ⟨z,aI,n,r,ax,e⟩:=J.rS h3;obtain ⟨d5,pb,bQ,cw,p9,az⟩:=J.rS qX;have hsz:aI.toArray.size + pb.toArray.size <= sizeLine:=by rw [eg,eg];omega
 have YZ:¬ (!aI.toArray.isEmpty && N6 (aI.toArray.size + pb.toArray.size))=true:=by
  rw [Yc hsz,A3];exact fh
 refine call_meets Oq ⟨_,e,rfl⟩ F.entry_list_extend (F.args_list_extend_2 _ _)
  (AutoSeq1.list_extend_list_list_0 l aI.toArray n b pb.toArray bQ YZ (by rw [eg];omega) (by omega)) ⟨e,az,?_⟩
 refine ⟨.bT,_,J.A7 (its':=aI ++ pb) h3 e (by simp) (r.append cw) ?_,rfl,q⟩;rw [dq];omega
noncomputable def H4:V->List V->aq->cc->Prop:=fun x vs H Q=>∃ l xs,x=.ref l/\vs=[]/\H l=some (.lst xs)/\Q .bT (upd H l (.lst xs.reverse))
theorem Wd:AQ X "list.reverse" H4:=by
 intro aa s σ H x vs v us Q J bg bV h;obtain ⟨l,xs,rfl,rfl,h3,q⟩:=h;cases bg;have Wv:=bV.zero;subst Wv;obtain ⟨z,aI,n,r,ax,e⟩:=J.rS h3;refine call_meets Wk ⟨_,e,rfl⟩ F.entry_list_reverse (F.args_list_reverse_1 _) (AutoSeq1.list_reverse_list_0 l aI.toArray n (by rw [eg];omega)) ⟨e,?_⟩;refine ⟨.bT,_,J.A7 (its':=aI.reverse) h3 e (by simp) r.reverse ?_,rfl,q⟩;rw [ZA];omega
noncomputable def DI:ez:=fun x y H Q=>∃ l b xs zs,x=.ref l/\y=.ref b/\H l=some (.lst xs)/\H b=some (.lst zs)/\xs.length + zs.length <= sizeLine/\∀ p,H p=none->Q (.ref p) (upd H p (.lst (xs ++ zs)))
theorem FU:gQ X (binaryOp .Add) DI:=by
 intro aa s σ H x y v u Q J bg bw h;obtain ⟨l,b,xs,zs,rfl,rfl,h3,qX,aD,q⟩:=h;cases bg;cases bw;obtain ⟨z,aI,n,r,ax,e⟩:=J.rS h3;obtain ⟨d5,pb,bQ,cw,p9,az⟩:=J.rS qX;refine PySem.P.add_list e az ?_ (by rw [eg,eg];omega);have cP:aI.toArray ++ pb.toArray=(aI ++ pb).toArray:=by simp
 rw [cP];exact ⟨.ref _,_,J.Zh (t':=s.toks) (r.append cw) (by rw [dq];omega),rfl,q _ J.fresh⟩
end
section
variable {prog:Program} {w:World} {A:Around} {E:Value->Shared->Prop} {s:Shared}
end
section
variable {X:aP}
end
section
variable {eY:Type} [DecidableEq eY]
noncomputable def dg (aE:List (eY × V)) (k:eY):Option V:=(aE.find? fun dF=>decide (dF.1=k)).map (·.2)
noncomputable def fs (aE:List (eY × V)) (k:eY) (v:V):List (eY × V):=
 if (aE.any fun dF=>decide (dF.1=k))=true then aE.map (fun dF=>if dF.1=k then (dF.1,v) else dF) else aE ++ [(k,v)]
theorem kD {p:eY × V} {k:eY} (e:p.1=k):dg (p :: r) k=some p.2:=by simp [dg,vU,e]
theorem kR {p:eY × V} {k:eY} (e:¬ p.1=k):dg (p :: r) k=dg r k:=by simp [dg,vU,e]
theorem yv (k:eY):∀ aE:List (eY × V),(aE.any fun dF=>decide (dF.1=k))=(dg aE k).isSome
 | []=>rfl
 | p :: r=>by
  rw [xR];by_cases e:p.1=k
  .simp only [kD e,decide_eq_true e,FX,Option.isSome_some]
  .rw [kR e,decide_eq_false e,yE];exact yv k r
theorem Rq (k j:eY) (y:V):∀ aE:List (eY × V),dg (aE.map fun dF=>if dF.1=k then (dF.1,y) else dF) j=(dg aE j).map fun x=>if j=k then y else x
 | []=>rfl
 | p :: r=>by
  have a_:=Rq k j y r;rw [dR];by_cases h:p.1=k
  .rw [if_pos h];by_cases e:p.1=j
   .rw [kD (p:=(p.1,y)) e,kD e,ER,if_pos (e.symm.trans h)]
   .rw [kR (p:=(p.1,y)) e,kR e,a_]
  .rw [if_neg h];by_cases e:p.1=j
   .rw [kD (p:=p) e,kD e,ER,if_neg (fun z=>h (e.trans z))]
   .rw [kR (p:=p) e,kR e,a_]
theorem Sh (k j:eY) (y:V):∀ aE:List (eY × V),dg aE k=none->dg (aE ++ [(k,y)]) j=if j=k then some y else dg aE j
 | [],_=>by
  by_cases e:k=j
  .rw [if_pos e.symm];exact kD (p:=(k,y)) e
  .rw [if_neg (fun z=>e z.symm)];exact kR (p:=(k,y)) e
 | p :: r,aH=>by
  rw [kn];have aJ:¬ p.1=k:=fun z=>by rw [kD z] at aH;cases aH
  rw [kR aJ] at aH;have a_:=Sh k j y r aH;by_cases e:p.1=j
  .rw [kD e,kD e,if_neg (fun z=>aJ (e.trans z))]
  .rw [kR e,kR e,a_]
theorem QN (aE:List (eY × V)) (k j:eY) (y:V):dg (fs aE k y) j=if j=k then some y else dg aE j:=by
 unfold fs;by_cases a:(aE.any fun dF=>decide (dF.1=k))=true
 .rw [if_pos a,Rq];rw [yv] at a;by_cases e:j=k
  .obtain ⟨x,ak⟩:=abK.mp a;rw [if_pos e,e,ak,ER,if_pos rfl]
  .rw [if_neg e];cases dg aE j with
   | none=>rfl
   | some x=>rw [ER,if_neg e]
 .rw [if_neg a];refine Sh k j y aE ?_;rw [yv] at a;cases q:dg aE k with
  | none=>rfl
  | some x=>rw [q] at a;exact (a rfl).elim
theorem M9 (aE:List (eY × V)) (k:eY) (v:V):(fs aE k v).length <= aE.length + 1:=by
 unfold fs;split
 .rw [bb];omega
 .rw [dq,dr,u5];omega
theorem hL.CD (r:hL o u):o.isSome=u.isSome:=by
 cases o with
 | none=>cases u with
  | none=>rfl
  | some _=>exact (show False from r).elim
 | some _=>cases u with
  | none=>exact (show False from r).elim
  | some _=>rfl
theorem hu.val (r:hu aE vs) (k:eY):hL (dg aE k) (valueAt vs k):=by
 unfold hu at r
 induction r with
 | nil=>exact ko
 | @cons p q ps qs h t a_=>
  obtain ⟨af,ai⟩:=h;by_cases e:p.1=k
  .have cy:q.1=k:=af.symm.trans e;have b:valueAt (q :: qs) k=some q.2:=by simp [valueAt,vU,cy]
   rw [kD e,b];exact ai
  .have cy:¬ q.1=k:=fun z=>e (af.trans z)
   have b:valueAt (q :: qs) k=valueAt qs k:=by simp [valueAt,vU,cy]
   rw [kR e,b];exact a_
theorem hu.any (r:hu aE vs) (k:eY):(aE.any fun dF=>decide (dF.1=k))=vs.any fun dF=>decide (dF.1=k):=by
 unfold hu at r
 induction r with
 | nil=>rfl
 | cons h t a_=>rw [xR,xR,a_,h.1]
theorem hu.J7 (r:hu aE vs) (k:eY) (bw:bD y u) :
  hu (aE.map fun dF=>if dF.1=k then (dF.1,y) else dF) (vs.map fun dF=>if dF.1=k then (dF.1,u) else dF):=by
 unfold hu at r ⊢
 induction r with
 | nil=>exact .nil
 | @cons p q ps qs h t a_=>
  rw [dR,dR];refine .cons ?_ a_;obtain ⟨af,ai⟩:=h;by_cases e:p.1=k
  .rw [if_pos e,if_pos (af.symm.trans e)];exact ⟨af,bw⟩
  .rw [if_neg e,if_neg (fun z=>e (af.trans z))];exact ⟨af,ai⟩
theorem hu.put (r:hu aE vs) (k:eY) (bw:bD y u):hu (fs aE k y) (stored vs k u):=by
 unfold fs stored;rw [r.any k];by_cases e:(vs.any fun dF=>decide (dF.1=k))=true
 .rw [if_pos e,if_pos e];exact r.J7 k bw
 .rw [if_neg e,if_neg e];exact FT r ⟨rfl,bw⟩
theorem hu.length (r:hu aE vs):aE.length=vs.length:=Gm r
end
theorem z5 {w:World} {k:Key} (r:bD (dO k) u):(ig P w).is k u=true:=by
 cases k with
 | inl i=>obtain ⟨t,e⟩:=(show ∃ t,u=nc i t from r);subst e;exact VK P w i t
 | inr x=>obtain ⟨t,e⟩:=(show ∃ t,u=q4 x t from r);subst e;exact KB P w x t
theorem Ss {w:World}:∀ {bB:List Key} {us:List Value},bN (bB.map dO) us->ItemsAre (ig P w) bB us
 | [],_,r=>by rw [mb] at r;cases r;exact .nil
 | k :: bB,_,r=>by
  rw [dR] at r;cases r with
  | cons h t=>exact .cons (z5 h) (Ss t)
noncomputable abbrev KT (H:aq):List (List Key × V)->List (List Key × Addr × Value)->Prop:=Paired fun p q=>p.1=q.1/\H q.2.1=some (.tup (p.1.map dO))/\bD p.2 q.2.2
theorem KT.val (r:KT H aE xs) (k:List Key):hL (dg aE k) ((atKey xs k).map (·.2)):=by
 induction r with
 | nil=>exact ko
 | @cons p q ps qs h t a_=>
  obtain ⟨af,_,ai⟩:=h;by_cases e:p.1=k
  .have cy:q.1=k:=af.symm.trans e;have b:atKey (q :: qs) k=some q.2:=by simp [atKey,vU,cy]
   rw [kD e,b];exact ai
  .have cy:¬ q.1=k:=fun z=>e (af.trans z)
   have b:atKey (q :: qs) k=atKey qs k:=by simp [atKey,vU,cy]
   rw [kR e,b];exact a_
theorem KT.J7 (r:KT H aE xs) (k:List Key) (bw:bD y u) :
  KT H (aE.map fun dF=>if dF.1=k then (dF.1,y) else dF) (xs.map (putAt k u)):=by
 induction r with
 | nil=>exact .nil
 | @cons p q ps qs h t a_=>
  rw [dR,dR];refine .cons ?_ a_;obtain ⟨af,ai,br⟩:=h;unfold putAt;by_cases e:p.1=k
  .rw [if_pos e,if_pos (af.symm.trans e)];exact ⟨af,ai,bw⟩
  .rw [if_neg e,if_neg (fun z=>e (af.trans z))];exact ⟨af,ai,br⟩
theorem KT.put (r:KT H aE xs) (k:List Key) (ab:H b=some (.tup (k.map dO))) (bw:bD y u) :
  KT H (fs aE k y) (storedH xs k b u):=by
 have e:(aE.any fun dF=>decide (dF.1=k))=(atKey xs k).isSome:=by
  rw [yv,(r.val k).CD,MC]
 unfold fs storedH;rw [e];by_cases q:(atKey xs k).isSome=true
 .rw [if_pos q,if_pos q];exact r.J7 k bw
 .rw [if_neg q,if_neg q];exact FT r ⟨rfl,ab,bw⟩
theorem KT.keeps (r:KT H aE xs) (cR:∀ b ys,H b=some (.tup ys)->I b=some (.tup ys)):KT I aE xs:=
 Paired.pf r fun _ _ z=>⟨z.1,cR _ _ z.2.1,z.2.2⟩
section
variable {P:Program} {w:World} {H:aq} {h:Heap} {a:Addr}
theorem T' (ok:dY P w H h) (e:lx H a u):dK P w H h a u:=e.ok ok
theorem Cg (ok:dY P w H h) (e:lx H a (.dN aE)):aE.length <= sizeLine/\(a == sysModules)=false/\∃ vs,hu aE vs/\h.DictOf (ig P w) a vs:=
 show dK P w H h a (.dN aE) from T' ok e
theorem adE (ok:dY P w H h) (e:H a=some (.dN aE)):aE.length <= sizeLine/\(a == sysModules)=false/\∃ vs,hu aE vs/\h.DictOf (ig P w) a vs:=Cg ok (.inl e)
theorem rg {bB:List Key} (ok:dY P w H h) (e:H a=some (.tup (bB.map dO))):(tupleKind (ig P w)).is h bB a:=by
 obtain ⟨_,aI,r,o,af,ai,n,br⟩:=(show dK P w H h a (.tup (bB.map dO)) from ok a _ e);exact ⟨o,aI.toArray,n,af,ai,br,by simpa using Ss r⟩
theorem Cn (ok:dY P w H h) (e:lx H a (.fU aE)):aE.length <= sizeLine/\(a == sysModules)=false /\
  ∃ xs,KT H aE xs/\h.DictOfH (tupleKind (ig P w)) a xs:=by
 obtain ⟨z,y,xs,r,o,aF,b5,af,ai,br,cm,gK⟩:=(show dK P w H h a (.fU aE) from T' ok e);refine ⟨z,y,xs,r,o,aF,b5,af,ai,br,cm,fun x ak=>?_,gK⟩;have all:∀ {l:List (List Key × V)} {m:List (List Key × Addr × Value)},KT H l m->∀ x ∈ m,(tupleKind (ig P w)).is h x.1 x.2.1:=by
  intro l m q
  induction q with
  | nil=>intro x ak;exact nomatch ak
  | @cons p q ps qs aB t a_=>
   intro x ak;rcases cX.mp ak with e | ak
   .subst e;exact rg ok (by rw [<- aB.1];exact aB.2.1)
   .exact a_ x ak
 exact all r x ak
theorem Fp (ok:dY P w H h) (e:H a=some (.fU aE)):aE.length <= sizeLine/\(a == sysModules)=false /\
  ∃ xs,KT H aE xs/\h.DictOfH (tupleKind (ig P w)) a xs:=Cn ok (.inl e)
end
def iy (H:aq) (a:Addr) (y:V) (r:Option V):Prop:=
 (∃ aE k,lx H a (.dN aE)/\y=dO k/\r=dg aE k)\/∃ aE k b,lx H a (.fU aE)/\y=.ref b/\H b=some (.tup (k.map dO))/\r=dg aE k
def n0 (H:aq) (a:Addr) (y v:V) (I:aq):Prop:=
 (∃ aE k,H a=some (.dN aE)/\y=dO k/\aE.length < sizeLine/\I=upd H a (.dN (fs aE k v))) \/
 ∃ aE k b,H a=some (.fU aE)/\y=.ref b/\H b=some (.tup (k.map dO))/\aE.length < sizeLine/\I=upd H a (.fU (fs aE k v))
theorem iy.k {k:Key} (e:H a=some (.dN aE)):iy H a (dO k) (dg aE k):=.inl ⟨aE,k,.inl e,rfl,rfl⟩
theorem n0.k {k:Key} (e:H a=some (.dN aE)) (ax:aE.length < sizeLine):n0 H a (dO k) v (upd H a (.dN (fs aE k v))):=.inl ⟨aE,k,e,rfl,ax,rfl⟩
theorem n0.t {k:List Key} (e:H a=some (.fU aE)) (ef:H b=some (.tup (k.map dO))) (ax:aE.length < sizeLine) :
  n0 H a (.ref b) v (upd H a (.fU (fs aE k v))):=.inr ⟨aE,k,b,e,rfl,ef,ax,rfl⟩
section
variable {X:aP} {aa:List (Addr × Obj)} {σ:St} {H:aq} {s:Shared} {a:Addr} {y v:V} {u r:Value} {o:Option V} {A:Around} {E:Value->Shared->Prop}
theorem Inv.big (J:Inv X aa σ H s):sysModules < s.heap.objs.size:=by
 have h:mainGlobals < s.heap.objs.size:=(J.mod.glob.keeps J.cq).lt;exact Wg (by decide) h
theorem aak (ba:A.units + 1 < cLine) (J:Inv X aa σ H s) (g:iy H a y (some v)) (bw:bD y u) (h:∀ dX s',Inv X aa σ H s'->bD v dX->Q dX s') :
  wpAny (model X.prog X.w) A (getItem (.ref a) u) Q E s:=by
 rcases g with ⟨aE,k,e,gN,l⟩ | ⟨aE,k,b,e,gN,ef,l⟩
 .subst gN;obtain ⟨z,hd,vs,rel,dU⟩:=Cg J.a6 e;obtain ⟨dX,hw,hj⟩:=hL.some_of (v:=v) (o:=valueAt vs k) (by rw [l];exact rel.val k);exact wpAny_getItem_of (z5 bw) dU.mapOf hw (h dX _ (J.tok _) hj)
 .subst gN;cases (show u=de b from bw);obtain ⟨z,hd,xs,rel,dU⟩:=Cn J.a6 e;obtain ⟨dX,hw,hj⟩:=hL.some_of (v:=v) (o:=(atKey xs k).map (·.2)) (by rw [l];exact rel.val k);obtain ⟨p,ao,c5⟩:=UH.mp hw;refine wpAny_getItem_heap (tupleKind_room_in1 ba) (rg J.a6 ef) dU ao ?_;rw [c5];exact h dX _ (J.tok _) hj
theorem abd (ba:A.units + 1 < cLine) (J:Inv X aa σ H s) (g:iy H a y o) (bw:bD y u) (h:∀ s',Inv X aa σ H s'->Q (.bool (!o.isSome)) s') :
  wpAny (model X.prog X.w) A (compareOp .NotIn u (.ref a)) Q E s:=by
 rcases g with ⟨aE,k,e,gN,l⟩ | ⟨aE,k,b,e,gN,ef,l⟩
 .subst gN;obtain ⟨z,hd,vs,rel,dU⟩:=Cg J.a6 e;refine wpAny_notIn_of (z5 bw) hd dU.mapOf ?_;rw [<- (rel.val k).CD,<- l];exact h _ (J.tok _)
 .subst gN;cases (show u=de b from bw);obtain ⟨z,hd,xs,rel,dU⟩:=Cn J.a6 e;refine wpAny_notIn_heap (tupleKind_room_in1 ba) (rg J.a6 ef) hd dU ?_;have q:=(rel.val k).CD;rw [MC] at q;rw [<- q,<- l];exact h _ (J.tok _)
theorem Mu (J:Inv X aa σ H s) (eO:lu (H a)) (aG:qd a s.heap h') (he:∃ q,h'.get? a=some q) (new:dK X.prog X.w (upd H a b2) h' a b2) :
  Inv X aa σ (upd H a b2) { s with heap:=h',toks:=t' }:=
 J.write (x:=a) (e:=a) eO (.inl rfl) (fun b q ab z=>(aG.2 b ab).trans z) he new
theorem aed {w:World} (z:aE.length <= sizeLine) (hd:(a == sysModules)=false) (rel:hu aE vs) (dU:h'.DictOf (ig P w) a vs) :
  dK P w I h' a (.dN aE):=⟨z,hd,vs,rel,dU⟩
theorem R2 (ba:A.units + 1 < cLine) (J:Inv X aa σ H s) (g:n0 H a y v I) (bw:bD y u) (bV:bD v r) (h:∀ s',Inv X aa σ I s'->Q () s') :
  wpAny (model X.prog X.w) A (setItem (.ref a) u r) Q E s:=by
 rcases g with ⟨aE,k,e,gN,l,wm⟩ | ⟨aE,k,b,e,gN,ef,l,wm⟩
 .subst gN wm;obtain ⟨z,hd,vs,rel,dU⟩:=adE J.a6 e;have aD:vs.length <= sizeLine:=by rw [<- rel.length];exact z
  have ax:(fs aE k v).length <= sizeLine:=by have:=M9 aE k v;omega
  refine wpAny_setItem_pairs (hsz:=aD) (z5 bw) dU fun h' BO aG=>h _ ?_
  have he:∃ q,h'.get? a=some q:=let ⟨q,_,_,aB,_⟩:=BO;⟨q,aB⟩;exact Mu J (by rw [e];exact ko) aG he (aed ax hd (rel.put k bV) BO)
 .subst gN wm;cases (show u=de b from bw);obtain ⟨z,hd,xs,rel,dU⟩:=Fp J.a6 e;have aD:xs.length <= sizeLine:=by rw [<- Gm rel];exact z
  have ax:(fs aE k v).length <= sizeLine:=by have:=M9 aE k v;omega
  refine wpAny_setItem_heap (hsz:=aD) (tupleKind_room_in1 ba) (rg J.a6 ef) dU fun h' BO aG=>h _ ?_
  obtain ⟨q,aF,b5,aB,ai,br,cm,_,gK⟩:=BO;refine Mu J (by rw [e];exact ko) aG ⟨q,aB⟩ ⟨ax,hd,_,(rel.put k ef bV).keeps fun c ys Nx=>?_,q,aF,b5,aB,ai,br,cm,gK⟩;rw [aX (fb Nx e (fun z=>nomatch z))];exact Nx
end
section
variable {X:aP} {aa:List (Addr × Obj)} {σ:St} {H:aq} {s:Shared} {a:Addr} {aE:List (Key × V)} {k:Key} {u:Value} {A:Around} {E:Value->Shared->Prop}
end
def CQ (i:Expr):Prop:=∀ dx gX,subscripted i false dx gX=operate [dx,gX] (getItem dx gX)
theorem Kd {prog:Program} {w:World} {A:Around} {E:Value->Shared->Prop} {s:Shared} {env:Env} {value slice:Expr} {pos:Pos} {T id:String} {Q:Value->Shared->Prop}
  (ax:typeLookup (.type T) "__getitem__"=pure (some (.builtin id))) (aG:CQ slice)
  (h:wpAny (model prog w) A (eval value env) (fun o cN=>wpAny (model prog w) A (eval slice env) (fun i bP=>bP.TypeIs o T/\wpAny (model prog w) A (getItem o i) Q E bP) E cN) E s) :
  wpAny (model prog w) A (eval (.Subscript value slice pos) env) Q E s:=by
 refine Subscript_ (wpAny_mono h (fun o cN h₁=>wpAny_mono h₁ (fun i bP sd=>?_) fun _ _ x=>x) fun _ _ x=>x);obtain ⟨dc,sd⟩:=sd;unfold subscriptTail;refine wpAny_bind ?_;rw [getitemInPython_of_ne dc.not_modules];refine wpAny_bind (wpAny_specialOf dc ax ?_);have fin:wpAny (model prog w) A (subscripted slice false o i) (fun r gv=>wpAny (model prog w) A (letTemporaryGo value o r >>= fun _=>pure r) Q E gv) E bP:=by
  rw [aG o i];exact wpAny_operating (wpAny_mono sd (fun r gv rd=>wpAny_bind (wpAny_letTemporaryGo (wpAny_pure rd))) fun _ _ x=>x)
 first
  | exact wpAny_pure (wpAny_bind fin)
  | exact wpAny_bind (wpAny_pure (wpAny_bind fin))
  | exact wpAny_bind fin
theorem VO (J:Inv X aa σ H s) (g:iy H a y o):s.TypeIs (.ref a) "dict" := by
 rcases g with ⟨aE,k,e,_,_⟩ | ⟨aE,k,b,e,_,_,_⟩
 .obtain ⟨_,_,vs,_,dU⟩:=Cg J.a6 e;exact dU.typeIs
 .obtain ⟨_,_,xs,_,dU⟩:=Cn J.a6 e;exact dU.typeIs
noncomputable def Kt (fa ty:TE):TE:=fun σ H Q=>fa σ H fun x H1=>ty σ H1 fun y ay=>eC x fun a=>∃ v,iy ay a y (some v)/\Q v ay
noncomputable def KO (ty fa:TE):TE:=fun σ H Q=>ty σ H fun y H1=>fa σ H1 fun x ay=>eC x fun a=>∃ o,iy ay a y o/\Q (.bp (!o.isSome)) ay
noncomputable def HC (fa ty fj:TE):dz:=fun D σ H=>fj σ H fun v H1=>fa σ H1 fun x ay=>ty σ ay fun y bA=>eC x fun a=>∃ dH,n0 bA a y v dH/\D.cg σ dH
section
variable {X:aP} {o i e value:Expr} {pos pos' rt:Pos} {fa ty fj:TE}
theorem DL (ba:X.A.units + 1 < cLine) (aZ:bk X o fa) (aj:bk X i ty) (aG:CQ i):bk X (.Subscript o i pos) (Kt fa ty):=by
 intro aa s σ H Q J h;refine Kd LR.lookup aG (bq (aZ aa s σ H _ J h) fun u s1 b3=>dG b3 fun x H1 aK bg bF=>bq (aj aa s1 σ H1 _ aK bF) fun gX s2 b3=>dG b3 fun y ay bl bw gU=>?_);obtain ⟨a,ex,v,g,cA⟩:=eC.out gU;subst ex;obtain rfl:u=de a:=bg;exact ⟨VO bl g,aak ba bl g bw fun dX s3 dA hj=>⟨v,ay,dA,hj,cA⟩⟩
theorem Jj (ba:X.A.units + 1 < cLine) (aj:bk X i ty) (aZ:bk X o fa):y7 X .NotIn i o (KO ty fa):=by
 intro aa s σ H Q J h;refine bq (aj aa s σ H _ J h) fun gX s1 b3=>dG b3 fun y H1 aK bw bF=>bq (aZ aa s1 σ H1 _ aK bF) fun u s2 b3=>dG b3 fun x ay bl bg gU=>?_
 obtain ⟨a,ex,dx,g,cA⟩:=eC.out gU;subst ex;obtain rfl:u=de a:=bg;exact abd ba bl g bw fun s3 dA=>⟨.bp (!dx.isSome),ay,dA,rfl,cA⟩
theorem S6 (ba:X.A.units + 1 < cLine) (aZ:bk X o fa) (aj:bk X i ty) (aU:bk X value fj) (aG:swapsWith value (some (.Subscript o i pos')) pos.line X.env=pure false) :
  e2 X (.Assign [.Subscript o i pos'] value pos) (HC fa ty fj):=by
 intro aa s σ H D J h;refine wpAny_Assign_Subscript (bq (aU aa s σ H _ J h) fun r s1 b3=>dG b3 fun v H1 aK bV bF=>bq (aZ aa s1 σ H1 _ aK bF) fun u s2 b3=>dG b3 fun x ay bl bg cA=>bq (aj aa s2 σ ay _ bl cA) fun gX s3 b3=>dG b3 fun y bA dA bw gU=>?_) aG;obtain ⟨a,ex,dH,g,eV⟩:=eC.out gU;subst ex;obtain rfl:u=de a:=bg;exact R2 ba dA g bw bV fun s4 fT=>⟨σ,dH,fT,eV⟩
end
theorem adS {w:World} (h:Heap) (ab:sysModules < h.objs.size):dK P w H (h.push { cls:=.type "dict",data:=.dict #[] }) h.objs.size (.dN []):=
 ⟨fL _,beq_eq_false_iff_ne.mpr (c7 (eb ab)),[],.nil,Heap.DictOf.new h⟩
theorem ai0 {w:World} (h:Heap) (ab:sysModules < h.objs.size):dK P w H (h.push { cls:=.type "dict",data:=.dict #[] }) h.objs.size (.fU []):=
 ⟨fL _,beq_eq_false_iff_ne.mpr (c7 (eb ab)),[],.nil,_,#[],0,en _ rfl,⟨rfl,rfl,rfl⟩,rfl,rfl,zM⟩
noncomputable def JY:TE:=fun _ H Q=>∀ p,H p=none->Q (.ref p) (upd H p (.dN []))
noncomputable def Fe:TE:=fun _ H Q=>∀ p,H p=none->Q (.ref p) (upd H p (.fU []))
section
variable {X:aP} {pos:Pos}
theorem CF:bk X (.Dict [] [] pos) JY:=fun aa s σ H Q J h=>
 wpAny_Dict_empty ⟨.ref s.heap.objs.size,_,J.laid (a:=s.heap.objs.size) (o:=.dN []) (t':=s.toks) (fun _ _ q=>c6 _ q) (bu _) (adS s.heap J.big),rfl,h _ (J.a6.fresh (bu _))⟩
theorem Zw:bk X (.Dict [] [] pos) Fe:=fun aa s σ H Q J h=>
 wpAny_Dict_empty ⟨.ref s.heap.objs.size,_,J.laid (a:=s.heap.objs.size) (o:=.fU []) (t':=s.toks) (fun _ _ q=>c6 _ q) (bu _) (ai0 s.heap J.big),rfl,h _ (J.a6.fresh (bu _))⟩
end
structure ak8 (X:aP) (o:Expr) (m:Str) (eB:Pos) (e:Expr) (hK:Pos):Prop where
 base:attributeBase o m X.env (eval o X.env)=eval o X.env
 Xl:((backTo hK (starEach [e] X.env)).all (fun x=>!x.1) && (backToKw hK (keywordEach [] X.env)).all (fun x=>x.1.isSome)
  && decide (([e]:List Expr).length + ([]:List Keyword).length + (if ([]:List Keyword).isEmpty then 0 else 1) < 30))=true
 line:(eB.endLine == hK.line)=true
 trees:backTo hK (starEach [e] X.env)=[(false,eval e X.env)]
structure M2 (X:aP) (o:Expr) (m:Str) (eB:Pos) (e f:Expr) (hK:Pos):Prop where
 base:attributeBase o m X.env (eval o X.env)=eval o X.env
 Xl:((backTo hK (starEach [e,f] X.env)).all (fun x=>!x.1) && (backToKw hK (keywordEach [] X.env)).all (fun x=>x.1.isSome)
  && decide (([e,f]:List Expr).length + ([]:List Keyword).length + (if ([]:List Keyword).isEmpty then 0 else 1) < 30))=true
 line:(eB.endLine == hK.line)=true
 trees:backTo hK (starEach [e,f] X.env)=[(false,eval e X.env),(false,eval f X.env)]
section
variable {X:aP} {aa:List (Addr × Obj)} {σ:St} {H:aq} {s:Shared} {a:Addr} {y d:V} {u r:Value} {o:Option V} {A:Around} {E:Value->Shared->Prop}
end
section
variable {X:aP} {o e f:Expr} {eB hK:Pos} {fa ty ak7:TE}
end
section
variable {X:aP} {aa:List (Addr × Obj)} {σ:St} {H:aq} {s:Shared} {a:Addr} {aE:List (Key × V)} {A:Around} {E:Value->Shared->Prop}
end
section
variable {X:aP} {aa:List (Addr × Obj)} {σ:St} {H:aq} {s:Shared} {a:Addr} {y:V} {u:Value} {A:Around} {E:Value->Shared->Prop}
end
end L2
namespace MR
open PySem PySem.W PySem.Calls PyProof.Rows
theorem afq {h:Heap}:∀ (ns:List Int) (vs:List Value),WellAll P h vs (ns.map WN)->IntsAre vs ns:=by
 intro ns
 induction ns with
 | nil=>
  intro vs w;rw [mb] at w;cases w;exact .nil
 | cons n ns a_=>
  intro vs w;rw [dR] at w;cases w with
  | cons a b=>
   cases a;exact .cons _ _ (a_ _ b)
theorem V9 {l:OpenLaw} {n:Nat} (aH:l.most=some n) {P:Params} {h:Heap} {args:List WData} {Ft:List Value}
  (yX:l.row.toRowW.claim.pre args=true) (eR:WellAll P h Ft args) :
  ∃ a vs ns,Ft=[de a]/\args=[WData.list (ns.map WN)]/\h.get? a=some { cls:=.type "list",data:=.seq vs.toArray }/\IntsAre vs ns/\ns.length <= n:=by
 have Cq:WShape.hasAll [] args [.list .int]=true:=(pre_splitW yX).1;have ar:l.pre.holds [] { args:=args }=true:=(pre_splitW yX).2;obtain ⟨d,r,rfl,af,ai⟩:=hasAllW_cons Cq;obtain rfl:=hasAllW_nil ai;obtain ⟨xs,rfl,br⟩:=hasW_list af;obtain ⟨ns,rfl⟩:=items_int br;have hlen:ns.length <= n:=by
  unfold OpenLaw.pre at ar;have cm:(WTm.not (.lt (.lit (.int (n:Int))) (.len (.arg 0)))).holds [] { args:=[.list (ns.map .int)] }=true:=by
   have cm:=(holds_andW ar).1;rw [aH] at cm;exact cm
  have gK:=condW_of cm (w_not (w_lt w_lit (w_len_list (w_arg rfl))));rw [bb] at gK;refine ahw fun q=>?_
  have cS:(n:Int) < ((ns.length:Nat):Int):=by omega
  first
   | (rw [decide_eq_true cS] at gK;exact absurd gK (by decide))
   | (simp at gK;omega)
 cases eR with
 | cons cL c_=>
  cases c_;cases cL with
  | list aZ By=>exact ⟨_,_,ns,rfl,rfl,aZ,afq ns _ By,hlen⟩
theorem akg (l:OpenLaw) (args:List WData):l.row.toRowW.claim.post args (.bool true) args=true:=
 postW_of (r:=l.row.toRowW) (X:=(true == true))
  (show V_ [] (.bool true) .bool=true by first | rfl | decide | simp [V_,WShape.arms,WShape.armsAll])
  (show (WTm.eq .res (.lit (.bool true))).value [] { args:=args,res:=some (.bool true),after:=args }=some (.bool (true == true)) from w_eq_bool (w_res rfl) w_lit) rfl
theorem XQ {l:OpenLaw} {n:Nat} {q:Program} {loose:List Str} {uX:(Str->Option Value)->Heap->Prop} {qg:World->Heap->Prop} {d:DefRec}
  (aH:l.most=some n) (xA:d.params.defaults=[])
  (call:∀ (w:World) (eA cN:Shared) (ah lb:Str->Option Value) (fF:Addr) (o:Obj) (pm cd doc:Value) (a:Addr) (vs:List Value) (ns:List Int),
   Ground q loose [] uX w eA ah lb cN.heap->qg w cN.heap ->
   cN.heap.get? fF=some o->o.data=.func (docDef d.name d.params d.body d.scope pm cd doc)->cN.heap.CodeRec cd d.name->ah d.name=some (.ref fF) ->
   cN.heap.get? a=some { cls:=.type "list",data:=.seq vs.toArray }->IntsAre vs ns->ns.length <= n->cN.gens=#[] ->
   codeAny (model l.prog w) callerA (.call (.ref fF) ⟨[.ref a],[]⟩) (fun r s'=>r=.ok (.ret (.bool true))/\OldK cN.heap s'.heap/\s'.os=cN.os/\AllBare s'.gens) cN) :
  WalkO q loose uX qg l.row.toRowW d [] (fun f vs=>Ql f vs):=by
 intro w eA cN ah lb G Y fF o pm cd doc AB dO aZ hd kL cn vX bj args Ft as yX amt Ko eR NY;obtain rfl:AB=.none:=Dflts.none cn xA;obtain rfl:dO=.none:=Dflts.noKw cn;obtain ⟨a,vs,ns,rfl,rfl,Ky,hints,hlen⟩:=V9 aH yX eR;refine enter_call (codeAny_mono (call w eA cN ah lb fF o pm cd doc a vs ns G Y aZ (fd_plain hd) kL vX Ky hints hlen bj) fun r s' aB=>?_);obtain ⟨rfl,ai,br,cm⟩:=aB;exact ⟨.inl ⟨.bool true,.bool true,[],rfl,fun _=>rfl,.bool true,akg l _,fun _=>⟨amY,fun _ hm=>(nomatch hm)⟩⟩,ai,br,cm⟩
section
variable {prog:Program} {w:World} {A:Around} {E:Value->Shared->Prop} {s:Shared} {K:Frag}
end
end MR
namespace L2
open PySem PySem.Spec PyProof.Rows
theorem PW:∀ {vs:List Value} {ns:List Int},IntsAre vs ns->bN (ns.map V.int) vs
 | _,_,.nil=>.nil
 | _,_,.cons n t h=>.cons ⟨t,rfl⟩ (PW h)
def yK (H:aq):Prop:=∀ b,H b=none\/∃ o xs,H b=some (.fe o (.lst xs))
theorem WA {w:World} {K:a4} {ah lb:Str->Option Value} {k:Nat} {fd:FuncData} {x:Str} {ns:List Int}
  (eS:K.In cN.heap) (Og:cN.heap.Ns mainGlobals ah) (ab:cN.heap.Ns builtinsNs lb) (pj:∀ x:Str,x ≠ "__name__" -> lb x=bootBuiltins x) (abN:cN.heap.NoLimit) (bj:cN.gens=#[])
  (aO:cN.heap.get? a=some { cls:=.type "list",data:=.seq vs.toArray }) (aj:IntsAre vs ns) (ax:ns.length <= sizeLine) (av:eh k callerA)
  (F:∀ base:Heap,K.In base->base.Ns mainGlobals ah->bt P w K ah base CX k fF fd [x] sp) (aiE:∀ (s:Shared) (u:Value),BindsTo s fd ⟨[u],[]⟩ [(x,u)])
  (hU:∀ H:aq,yK H->aW K H a (ns.map V.int)->sp [.ref a] H (fun v _=>v=.bp true) fun _ _ _=>False)
  (vi:∀ H e s',CX [] H cN (fun _ _ _=>False) e s'->False) :
  codeAny (model P w) callerA (.call (.ref fF) ⟨[.ref a],[]⟩) (fun r s'=>r=.ok (.ret (.bool true))/\OldK cN.heap s'.heap/\s'.os=cN.os/\AllBare s'.gens) cN:=by
 have bV:=PW aj;have adX:=aj.length;have core:∀ H:aq,yK H->aW K H a (ns.map V.int)->dY P w H cN.heap->(∀ b,H b ≠ none->b=a)->(H a ≠ none->K.lookup a=none) ->
   codeAny (model P w) callerA (.call (.ref fF) ⟨[.ref a],[]⟩) (fun r s'=>r=.ok (.ret (.bool true))/\OldK cN.heap s'.heap/\s'.os=cN.os/\AllBare s'.gens) cN:=by
  intro H nW gW a6 kg d0;have Of:∀ {b:Addr} {o:Obj},cN.heap.get? b=some o->H b=none->(oA cN.heap H).get? b=some o:=fun e n=>ahe e n
  have xX:∀ {b:Addr} {o:Obj} {aF:Array DictEntry} {b5:Nat},cN.heap.get? b=some o->o.data=.dict aF b5->H b=none:=fun {b o aF b5} e d=>by
   cases q:H b with
   | none=>rfl
   | some u=>
    have cy:b=a:=kg b (by rw [q];simp);subst cy;rw [aO] at e;cases e;have d':RB vs.toArray _=Data.dict aF b5:=d;cases d'
  have A4:∀ {b:Addr} {m:Str->Option Value},cN.heap.Ns b m->(oA cN.heap H).Ns b m:=fun {b m} ⟨o,aF,b5,e,d,r⟩=>⟨o,aF,b5,Of e (xX e d),d,r⟩
  have Lm:K.In (oA cN.heap H):=fun b o e=>Of (eS b o e) (by
   cases q:H b with
   | none=>rfl
   | some u=>
    have cy:b=a:=kg b (by rw [q];simp);subst cy;rw [d0 (by rw [q];simp)] at e;cases e)
  have Y4:Mod K ah (oA cN.heap H):=⟨Lm,A4 Og,⟨lb,A4 ab,pj⟩,let ⟨NO,af,ai⟩:=abN;⟨NO,A4 af,ai⟩⟩;have eu:m7 P w K ah (oA cN.heap H) callerA [] cN H:=⟨rfl,Y4,fun b o e=>aeb e,BI (WF _ _),trivial,fun b ab=>absurd (show b ∈ ([]:List Addr) from ab) (by simp),a6,.of_eq bj⟩;refine codeAny_mono ((F _ Lm (A4 Og)).run callerA [] cN H ⟨[.ref a],[]⟩ [.ref a] [.ref a] _ _ av eu (aiE cN (.ref a)) (.cons rfl .nil) (hU H nW gW)) fun r s' h=>?_
  cases r with
  | error e=>exact (vi H e s' h).elim
  | ok cb=>
   cases cb with
   | next=>exact jI h
   | brk=>exact jI h
   | cont=>exact jI h
   | ret u=>
    obtain ⟨v,I,os,bare,un,aaM,d1,q⟩:=h;have cS:v=.bp true:=q;subst cS;obtain rfl:u=kT true:=d1;refine ⟨rfl,OldK.of_keep fun b o e=>?_,os,bare⟩;cases q:H b with
    | none=>exact un.keep b o e q (by intro z;exact absurd (show b ∈ ([]:List Addr) from z) (by simp)) (by simp)
    | some u=>
     rcases nW b with z | ⟨b2,xs,z⟩
     .rw [q] at z;cases z
     .have d5:=un.ki b b2 _ z;obtain ⟨aw,_⟩:=a6 b _ z;obtain ⟨az,_⟩:=aaM b _ d5;rw [e] at aw;cases aw;exact az
 cases aJ:K.lookup a with
 | some o=>
  have e:=eS a o aJ;rw [aO] at e;cases e;refine core (fun _=>none) (fun _=>.inl rfl) (.inr ⟨_,vs.toArray,_,aJ,rfl,rfl,rfl,by rw [eg,adX];exact ax,by simpa using bV⟩) (fun b u z=>by have dk:(none:Option ey)=some u:=z;cases dk) (fun b z=>absurd rfl z) fun z=>absurd rfl z
 | none=>
  refine core (fun b=>if b=a then some (.fe { cls:=.type "list",data:=.seq vs.toArray } (.lst (ns.map V.int))) else none) (fun b=>?_) (.inl (.inr ⟨{ cls:=.type "list",data:=.seq vs.toArray },if_pos rfl⟩)) (fun b u z=>?_) (fun b z=>?_) fun _=>aJ
  .by_cases ab:b=a
   .exact .inr ⟨_,_,if_pos ab⟩
   .exact .inl (if_neg ab)
  .by_cases ab:b=a
   .have dk:=(if_pos ab).symm.trans z;cases dk;subst ab;exact ⟨aO,by rw [bb];exact ax,vs,_,bV,aO⟩
   .have dk:=(if_neg ab).symm.trans z;cases dk
  .by_cases ab:b=a
   .exact ab
   .exact absurd (if_neg ab) z
noncomputable abbrev UT {K:a4} {h:Heap} (_:K.In h):a4:=K
theorem ad2 {l:V0} {n k:Nat} {q:Program} {loose:List Str} {uX:(Str->Option Value)->Heap->Prop} {qg:World->Heap->Prop} {d:DefRec} {K:Params->a4} {CX:World->hF} {sp:World->bI} {x:Str}
  (aH:l.most=some n) (o':n <= sizeLine) (xA:d.params.defaults=[]) (av:eh k callerA)
  (E1:∀ (w:World) (h:Heap),qg w h->(K w.params).In h)
  (F:∀ (w:World) (ah:Str->Option Value) (fF:Addr) (h:Heap),(K w.params).In h->h.Ns mainGlobals ah->ah d.name=some (.ref fF) ->
   ∃ fd:FuncData,(∀ (s:Shared) (u:Value),BindsTo s fd ⟨[u],[]⟩ [(x,u)]) /\
    ∀ base:Heap,(K w.params).In base->base.Ns mainGlobals ah->bt l.prog w (K w.params) ah base (CX w) k fF fd [x] (sp w))
  (hU:∀ (w:World) (H:aq) (a:Addr) (ns:List Int),ns.length <= n->yK H->aW (K w.params) H a (ns.map V.int)->sp w [.ref a] H (fun v _=>v=.bp true) fun _ _ _=>False)
  (vi:∀ (w:World) (H:aq) (s:Shared) (e:Value) (s':Shared),CX w [] H s (fun _ _ _=>False) e s'->False) :
  ab8 q loose uX qg l.row.toRowW d [] (fun f vs=>Ql f vs):=by
 refine MR.XQ aH xA fun w eA cN ah lb fF o pm cd doc a vs ns G Y aZ hd kL vX Ky hints hlen bj=>?_
 have eS:=E1 w _ Y;obtain ⟨fd,ab,FG⟩:=F w ah fF _ eS G.T.g vX;exact WA eS G.T.g G.T.b G.T.builtins G.T.nolimit bj Ky hints (b8 hlen o') av FG ab (fun H nW gW=>hU w H a ns hlen nW gW) fun H e s'=>vi w H cN e s'
theorem acH {l:V0} {n k:Nat} {q:Program} {loose:List Str} {uX:(Str->Option Value)->Heap->Prop} {qg:World->Heap->Prop} {d:DefRec} {K:Params->a4} {CX:hF} {sp:a4->bI} {x:Str}
  (aH:l.most=some n) (o':n <= sizeLine) (xA:d.params.defaults=[]) (av:eh k callerA)
  (E1:∀ (w:World) (h:Heap),qg w h->(K w.params).In h)
  (F:∀ (w:World) (ah:Str->Option Value) (fF:Addr) (h:Heap),(K w.params).In h->h.Ns mainGlobals ah->ah d.name=some (.ref fF) ->
   ∃ fd:FuncData,(∀ (s:Shared) (u:Value),BindsTo s fd ⟨[u],[]⟩ [(x,u)]) /\
    ∀ base:Heap,(K w.params).In base->base.Ns mainGlobals ah->bt l.prog w (K w.params) ah base CX k fF fd [x] (sp (K w.params)))
  (hU:∀ (K:a4) (H:aq) (a:Addr) (ns:List Int),ns.length <= n->yK H->aW K H a (ns.map V.int)->sp K [.ref a] H (fun v _=>v=.bp true) fun _ _ _=>False)
  (vi:∀ (H:aq) (s:Shared) (e:Value) (s':Shared),CX [] H s (fun _ _ _=>False) e s'->False) :
  ab8 q loose uX qg l.row.toRowW d [] (fun f vs=>Ql f vs):=
 ad2 (K:=K) (CX:=fun _=>CX) (sp:=fun w=>sp (K w.params)) aH o' xA av E1 F (fun w H a ns af ai br=>hU (K w.params) H a ns af ai br) fun _ H s e s'=>vi H s e s'
noncomputable def gd (s:Stmt) (j:Nat):Stmt:=match s with
 | .ClassDef _ _ _ body _ _ _ _ _ _ _=>body.getD j (.Pass ⟨0,0,0,0⟩)
 | _=>.Pass ⟨0,0,0,0⟩
noncomputable def Aj (s:Stmt):Arguments:=match s with
 | .FunctionDef _ a _ _ _ _ _ _ _ _=>a
 | _=>{ posonlyargs:=[],args:=[],vararg:=none,kwonlyargs:=[],kw_defaults:=[],kwarg:=none,defaults:=[] }
noncomputable def tX (s:Stmt):List Stmt:=match s with
 | .FunctionDef _ _ b _ _ _ _ _ _ _=>b
 | _=>[]
noncomputable def bG (s:Stmt):Scope:=match s with
 | .FunctionDef _ _ _ _ _ _ sc _ _ _=>sc
 | _=>{ kind:=.function,names:=[],isGenerator:=false,isCoroutine:=false }
noncomputable abbrev b7:hF:=fun _ _ _ _ _ _=>False
noncomputable abbrev E0:cZ:=fun _ _ _=>False
theorem cT:ly b7 X E0:=fun _ _ _ _ _ _ _ h=>h.elim
structure a7 (K:a4) (x qual:Str) (st:Stmt) (f:Addr) (fd:FuncData):Prop where
 ex:∃ (mT:Value) (a':Option Addr) (dO doc pm:Value) (an:Option Addr) (e7 e9:Value) (qC:Array (Option Value)),
  fd=xS x qual (Aj st) (tX st) (bG st) .none dO doc pm an e7 e9/\K.lookup f=some ⟨mT,a',.func fd,qC⟩/\MT K e7 qual=true
 bh:pJ K (.ref f)=true
section
variable {P:Program} {w:World} {K:a4} {ah:Str->Option Value} {base:Heap}
theorem a7.ok {x qual:Str} {st:Stmt} {fd:FuncData} {N ps:List Str} {k:Nat} (F:a7 K x qual st f fd) (S:b9 N ps (bG st)) (len:∀ vs H Q E,sp vs H Q E->vs.length=ps.length)
  (wu:∀ (e7:Value) (A:Around) (outer:List Env) (s:Shared) (H:aq) (vs:List V) (Q:cc) (E:cZ),eh k (A.deeper (envOfC qual (bG st) s.heap.objs.size f e7))->sp vs H Q E ->
   ∃ t,f_ (mE b7 P w K ah base N qual (bG st) f e7 A outer s H E).vo (tX st) t/\t { cg:=fun _ I=>Q .bT I,kV:=Q } (start N vs) H):bt P w K ah base b7 (k + 1) f fd ps sp:=by
 obtain ⟨mT,a',dO,doc,pm,an,e7,e9,qC,rfl,lk,kL⟩:=F.ex;refine Oy lk kL S len fun A outer s H vs Q E av hU=>?_
 obtain ⟨t,h,q⟩:=wu e7 A outer s H vs Q E av hU;exact ⟨t,h.vo,q⟩
theorem a7.binds {x qual:Str} {st:Stmt} {fd:FuncData} (F:a7 K x qual st f fd)
  (h:∀ (dO doc pm:Value) (an:Option Addr) (e7 e9:Value) (us:List Value),us.length=ps.length->bindArgs (xS x qual (Aj st) (tX st) (bG st) .none dO doc pm an e7 e9) ⟨us,[]⟩=pure (ps.zip us)):bZ K fd ps []:=by
 obtain ⟨mT,a',dO,doc,pm,an,e7,e9,qC,rfl,lk,kL⟩:=F.ex;exact .all (h dO doc pm an e7 e9)
theorem ad0 {x qual:Str} {st:Stmt} {dO doc pm e7 e9:Value} (l:K.lookup f=some ⟨mT,a',.func (xS x qual (Aj st) (tX st) (bG st) .none dO doc pm an e7 e9),qC⟩)
  (c:MT K e7 qual=true) (k:pJ K (.ref f)=true):a7 K x qual st f (xS x qual (Aj st) (tX st) (bG st) .none dO doc pm an e7 e9):=⟨⟨mT,a',dO,doc,pm,an,e7,e9,qC,rfl,l,c⟩,k⟩
end
def afv (A:Around):Prop:=A.units + 1 < cLine
def ahn (A:Around):Prop:=A.units + 64 < cLine
theorem aez {A:Around} {k:Nat} (av:eh k A):ahn A:=av.units
theorem gF {A:Around} {k:Nat} (av:eh k A):afv A:=jV (Nat.add_le_add_left (by decide:1 <= 64) _) av.units
section
variable {X:aP}
theorem U (i:Nat) {x:Str} (bx:X.N[i]? = some x:=by rfl) (aU:w7 X.env.scope x:=by first | exact lY rfl | exact qI (lY rfl) | exact qI (qI rfl)) (hd:(x == ("__debug__" : Str))=false:=by decide)
  (kL:(x == ("__classdict__" : Str))=false:=by decide):bk X (.Name x pos) (y4 i):=aiN bx aU hd kL
end
def aN (H I:aq):Prop:=∀ b o,H b=some o->I b=some o
theorem aN.refl (H:aq):aN H H:=fun _ _ h=>h
theorem aN.trans (a:aN H H1) (b:aN H1 ay):aN H ay:=fun c o h=>b c o (a c o h)
theorem aN.free (e:aN H I) (h:I l=ZK):H l=ZK:=by
 cases q:H l with
 | none=>rfl
 | some o=>
  rw [e l o q] at h;cases h
section
variable {eY:Type} [DecidableEq eY]
theorem aif {k:eY} (h:dg aE k=none):¬ k ∈ aE.map (·.1):=by
 intro m;obtain ⟨p,ao,e⟩:=da.mp m;have q:(aE.any fun dF=>decide (dF.1=k))=true:=EY.mpr ⟨p,ao,decide_eq_true e⟩;rw [yv,h] at q;exact absurd q (by simp)
end
end L2
set_option maxHeartbeats 4000000
namespace L2
open PySem PySem.Spec PyProof.Rows
noncomputable def gS (cells:List (Str × Addr)):List (Str × NameKind)->List (Str × Addr)->List (Str × Addr)
 | [],acc=>acc
 | (n,k) :: r,acc=>if k == .free then (match cells.lookup n with | some c=>gS cells r ((n,c) :: acc) | none=>gS cells r acc) else gS cells r acc
theorem Ff {env:Env}:∀ (names:List (Str × NameKind)) (acc:List (Str × Addr)),(∀ y ∈ names,y.2=.free->∃ c,env.cells.lookup y.1=some c) ->
  (forIn names acc (fun (x:Str × NameKind) (cs:List (Str × Addr))=>(if (x.2 == .free)=true then do let a <- cellOf env x.1;pure (rF ((x.1,a) :: cs)) else pure (rF cs):Sem (ForInStep (List (Str × Addr))))))=pure (gS env.cells names acc)
 | [],acc,_=>rfl
 | (n,k) :: r,acc,h=>by
  have av:∀ y ∈ r,y.2=.free->∃ c,env.cells.lookup y.1=some c:=fun y aT=>h y (fk _ aT)
  rw [List.forIn_cons];by_cases aJ:(k == o1)=true
  .have e:k=.free:=by simpa using aJ
   obtain ⟨c,ar⟩:=h (n,k) hH e;have l1:env.cells.lookup n=some c:=ar;simp only [gS,aJ,if_true,l1,cellOf];exact Ff r _ av
  .simp only [gS,aJ];exact Ff r _ av
theorem I_ {env:Env} (h:∀ y ∈ scope.names,y.2=.free->∃ c,env.cells.lookup y.1=some c):closureFor scope env=pure (gS env.cells scope.names []):=by
 unfold closureFor;exact congrArg (fun t=>t >>= pure) (Ff scope.names [] h)
theorem zZ {cells:List (Str × Addr)}:∀ (names:List (Str × NameKind)) (acc:List (Str × Addr)) {x:Str} {c:Addr},(gS cells names acc).lookup x=some c->acc.lookup x=some c\/cells.lookup x=some c
 | [],acc,x,c,h=>.inl h
 | (n,k) :: r,acc,x,c,h=>by
  unfold gS at h;split at h
  .cases q:cells.lookup n with
   | none=>rw [q] at h;exact zZ r acc h
   | some d=>
    rw [q] at h;rcases zZ r _ h with z | z
    .rw [nA] at z;by_cases ak:(x == n)=true
     .rw [ak] at z;have e:x=n:=by simpa using ak
      subst e
      right;rw [q];exact z
     .have kh:(x == n)=false:=by simpa using ak
      rw [kh] at z;exact .inl z
    .exact .inr z
  .exact zZ r acc h
theorem B4 {cells:List (Str × Addr)}:∀ (names:List (Str × NameKind)) (acc:List (Str × Addr)) {x:Str} {c:Addr},acc.lookup x=some c->cells.lookup x=some c->(gS cells names acc).lookup x=some c
 | [],acc,x,c,h,_=>h
 | (n,k) :: r,acc,x,c,h,ar=>by
  unfold gS;split
  .cases q:cells.lookup n with
   | none=>exact B4 r acc h ar
   | some d=>
    refine B4 r _ ?_ ar;rw [nA];by_cases ak:(x == n)=true
    .have e:x=n:=by simpa using ak
     subst e;rw [ak];rw [q] at ar;exact ar
    .have kh:(x == n)=false:=by simpa using ak
     rw [kh];exact h
  .exact B4 r acc h ar
theorem yi {cells:List (Str × Addr)}:∀ (names:List (Str × NameKind)) (acc:List (Str × Addr)) {x:Str} {c:Addr},(x,o1) ∈ names->cells.lookup x=some c->(gS cells names acc).lookup x=some c
 | [],_,_,_,h,_=>nomatch h
 | (n,k) :: r,acc,x,c,h,ar=>by
  rcases cX.mp h with e | h
  .cases e;unfold gS;rw [if_pos (by decide),ar];refine B4 r _ ?_ ar;rw [nA];simp
  .unfold gS;split
   .cases q:cells.lookup n with
    | none=>exact yi r acc h ar
    | some d=>exact yi r _ h ar
   .exact yi r acc h ar
theorem ir:∀ {l:List (Str × α)} {x:Str} {a:α},l.lookup x=some a->(x,a) ∈ l
 | [],_,_,h=>by simp at h
 | (n,b) :: r,x,a,h=>by
  rw [nA] at h;by_cases ak:(x == n)=true
  .have e:x=n:=by simpa using ak
   subst e;rw [ak] at h;have az:b=a:=dj h;subst az;exact hH
  .have kh:(x == n)=false:=by simpa using ak
   rw [kh] at h;exact fk _ (ir h)
theorem aeO {env:Env} {x:Str} {k:NameKind} (h:(relabel scope env).names.lookup x=some k) (aJ:k=.cell\/k=.free) (ar:∀ y ∈ scope.names,y.2 ≠ .cell):(x,o1) ∈ scope.names:=by
 have af:=ir h;obtain ⟨⟨n,j⟩,hm,e⟩:=da.mp af;have cy:(if (j == o1 && env.scope.kind == .function && env.kindOf n == some .cell)=true then (n,MD) else (n,j))=(x,k):=e;split at cy
 .rename_i Qc;have aw:n=x:=(TR cy).1;subst aw;have bf:j=.free:=by
   simp only [iQ] at Qc;simpa using Qc.1.1
  subst bf;exact hm
 .have aw:n=x:=(TR cy).1;have az:j=k:=(TR cy).2;subst aw;subst az;rcases aJ with z | z
  .exact absurd z (ar _ hm)
  .subst z;exact hm
theorem ajR {env:Env} {x:Str} (h:scope.names.lookup x=some .free):(relabel scope env).names.lookup x=some .cell\/(relabel scope env).names.lookup x=some .free:=by
 have all:∀ (names:List (Str × NameKind)),names.lookup x=some .free ->
   (names.map fun (n,k)=>if (k == o1 && env.scope.kind == .function && env.kindOf n == some .cell) then (n,MD) else (n,k)).lookup x=some .cell \/
   (names.map fun (n,k)=>if (k == o1 && env.scope.kind == .function && env.kindOf n == some .cell) then (n,MD) else (n,k)).lookup x=some .free:=by
  intro names
  induction names with
  | nil=>intro h;simp at h
  | cons p r a_=>
   obtain ⟨n,k⟩:=p;intro h;rw [dR];by_cases ak:(x == n)=true
   .simp only [nA,ak] at h;have aJ:k=.free:=dj h;subst aJ;by_cases ar:(o1 == o1 && env.scope.kind == .function && env.kindOf n == some .cell)=true
    .left;simp only [if_pos ar,nA,ak]
    .right;simp only [if_neg ar,nA,ak]
   .have kh:(x == n)=false:=by simpa using ak
    simp only [nA,kh] at h;by_cases ar:(k == o1 && env.scope.kind == .function && env.kindOf n == some .cell)=true
    .simp only [if_pos ar,nA,kh];exact a_ h
    .simp only [if_neg ar,nA,kh];exact a_ h
 exact all scope.names h
noncomputable abbrev aP.block (X:aP) (scope:Scope) (C:Addr) (N:List Str) (s:Shared) (H:aq) (a9:List Addr):aP where
 prog:=X.prog
 w:=X.w
 K:=X.K
 ah:=X.ah
 base:=X.base
 A:=X.A
 N:=N
 eA:=s
 tC:=H
 env:=compEnvC scope (gS X.env.cells scope.names []) C X.env
 outer:=X.stack
 stack:=X.stack
 ex:=a9
 fn:=fun _=>false
 calm:=X.calm
 h8:=[]
 cK:=fun _ _=>False
structure nH (env:Env) (scope:Scope):Prop where
 kind:scope.kind=.function
 yL:∀ y ∈ scope.names,y.2 ≠ .cell
 fr:∀ y ∈ scope.names,y.2=.free->env.kindOf y.1=some .cell\/env.kindOf y.1=some .free
 loc:∀ x ∈ scope.names,x.2=.local->scope.names.lookup x.1=some .local
noncomputable def hP (sel:List (Option Nat)) (σ:St):St:=sel.map fun o=>o.bind fun j=>(σ[j]?).join
def q7 (M:List Str) (scope:Scope) (N:List Str) (sel:List (Option Nat)):Prop:=
 sel.length=N.length/\∀ (i j:Nat) (x:Str),sel[i]? = some (some j)->N[i]? = some x->M[j]? = some x/\scope.names.lookup x=some .free
section
variable {X:aP} {aa:List (Addr × Obj)} {σ:St} {H:aq} {s:Shared} {scope:Scope} {a9:List Addr} {C:Addr} {N:List Str}
theorem nH.cells (S:nH X.env scope) (ok:X.Ok):∀ y ∈ scope.names,y.2=.free->∃ c,X.env.cells.lookup y.1=some c:=fun y aT e=>ok.has y.1 (S.fr y aT e)
theorem r8 {x:Str} (h:(gS X.env.cells scope.names []).lookup x=some c):X.env.cells.lookup x=some c:=by
 rcases zZ _ _ h with z | z
 .simp at z
 .exact z
theorem DH (J:Inv X aa σ H s) (S:nH X.env scope) (hf:∀ b ∈ a9,gm X aa H b) (aG:∀ b ∈ a9,b < s.heap.objs.size) (cB:s.heap.objs.size <= C):(X.block scope C N s H a9).Ok where
 mod:=J.ok.mod
 kind:=S.kind
 glob:=J.ok.glob
 blt:=J.ok.blt
 above:=cB
 inj:=fun x y c af ai=>J.ok.inj x y c (r8 af) (r8 ai)
 has:=fun x h=>by
  have aJ:∃ k,(relabel scope X.env).names.lookup x=some k/\(k=.cell\/k=.free):=by
   rcases h with h | h
   .exact ⟨_,h,.inl rfl⟩
   .exact ⟨_,h,.inr rfl⟩
  obtain ⟨k,af,ai⟩:=aJ;have hm:=aeO af ai S.yL;obtain ⟨c,ar⟩:=S.cells J.ok _ hm rfl;exact ⟨c,yi _ _ hm ar⟩
 oz:=fun _ _ h _=>nomatch h
 hd:=J.ok.hd
 frames:=J.ok.frames
 o3:=.inl rfl
 tN:=fun b ab=>⟨eb (h2 (aG b ab) cB),fun x c e=>(hf b ab).2.2.2.2.1 x c (r8 e)⟩
 bs:=J.bs
 jq:=b8 J.ok.jq J.gj
 oF:=fun b o e ab=>by
  rcases (hf b ab).2.2.2.1 with z | z
  .exact J.ok.oF b o e z
  .exact absurd (h2 (h2 (cW e) J.ok.jq) z) (lM _)
 nF:=fun b ab aD=>by
  rcases cX.mp (J.vK b aD) with z | z
  .exact (hf b ab).2.1 z
  .exact (hf b ab).2.2.1 z
 iD:=J.stack
 kc:=J.zc
theorem Pw (J:Inv X aa σ H s) (S:nH X.env scope) (hf:∀ b ∈ a9,gm X aa H b) (aG:∀ b ∈ a9,b < s.heap.objs.size) (cB:s.heap.objs.size <= C)
  (k:∀ b o,s.heap.get? b=some o->h'.get? b=some o) (aH:h'.Ns C m) (lp:q7 X.N scope N sel):Inv (X.block scope C N s H a9) [] (hP sel σ) H { s with heap:=h',toks:=t' } where
 ok:=DH J S hf aG cB
 os:=rfl
 bare:=J.bare
 base:=gq.kept k
 loc:=by
  refine ⟨m,aH,fun i x v aw az bW=>?_⟩;obtain ⟨m0,ale,ax⟩:=J.loc;obtain ⟨j,aac,aeG⟩:∃ j,sel[i]? = some (some j)/\σ[j]? = some (some v):=by
   unfold hP at az;rw [ec] at az;cases q:sel[i]? with
   | none=>rw [q] at az;cases az
   | some o=>
    rw [q] at az;cases o with
    | none=>cases az
    | some j=>
     refine ⟨j,rfl,?_⟩;have ts:(σ[j]?).join=some v:=dj az;cases r:σ[j]? with
     | none=>rw [r] at ts;cases ts
     | some z=>rw [r] at ts;exact congrArg some ts
  obtain ⟨WY,nD⟩:=lp.2 i j x aac aw;have hm:=ir nD;have aJ:=S.fr _ hm rfl;have aU:w7 X.env.scope x:=aJ.elim (fun z=>.inr (.inl z)) fun z=>.inr (.inr z)
  obtain ⟨u,r,l⟩:=ax j x v WY aeG aU;refine ⟨u,r,?_⟩;rcases l with ⟨Wr,_⟩ | ⟨_,c,ar,ta⟩
  .rcases aJ with z | z <;> (have dk:X.env.kindOf x=_:=z;rw [Wr] at dk;cases dk)
  .refine .inr ⟨?_,c,yi _ _ hm ar,?_⟩
   .exact ajR nD
   .obtain ⟨o,aZ,hd⟩:=ta;exact ⟨o,k _ _ aZ,hd⟩
 cell:=fun x c e=>by
  obtain ⟨v,o,aZ,hd⟩:=J.cell x c (r8 e);exact ⟨v,o,k _ _ aZ,hd⟩
 free:=J.a6.fresh cB
 iK:=fun x c e=>J.iK x c (r8 e)
 pin:=fun p ao=>nomatch ao
 a6:=J.a6.kept k
 len:=by unfold hP;rw [bb];exact lp.1
theorem Inv.adopt (J:Inv X aa σ H s) (dP:gm X aa H a) (new:dK X.prog X.w (upd H a o) s.heap a o):Inv X aa σ (upd H a o) s:=by
 obtain ⟨aH,iq,R8,hex,Wl,DB⟩:=dP;refine J.step (g':=s.gens) (d':=s.drawn) (t':=s.toks) (h':=s.heap) (ch:=[a]) (fun b ab=>?_) (fun b o _ _ _ e _=>e) (fun b o _ _ _ e _=>⟨o.slots,e⟩) (fun b o ab e n=>?_) (fun b o _ e=>⟨o,e⟩)
  (fun b xs e=>?_) (fun b o u e=>?_) (fun b ps e=>⟨#[],?_⟩) (fun m hm=>hm) (fun b u e=>?_) J.bare
 .have e:b=a:=by simpa using ab
  subst e;exact ⟨hex,iq,Wl,DB⟩
 .rw [aX (fun z=>ab (by simp [z]))];exact n
 .rw [aX (Db e aH)];exact e
 .rw [aX (Db e aH)];exact e
 .rw [aX (Db e aH),e];simp
 .by_cases ab:b=a
  .subst ab;rw [aS] at e;cases e;exact new
  .rw [aX ab] at e;exact (J.a6 b u e).kG (fun c v _ q=>q) (fun c q=>by rw [aX (Db q aH)];exact q) fun c xs q=>by rw [aX (Db q aH)];exact q
end
theorem akf {prog:Program} {w:World} {A:Around} {it acc:Value} {env:Env} (J:Nat->Shared->Prop)
  (turn:∀ n s,J n s->wpAny (model prog w) A (pyNext it) (fun r cN=>match r with
   | none=>R (.ok .next) cN
   | some v=>wpAny (model prog w) A (letOwnedTupleGo ny it v) (fun _ eA=>wpAny (model prog w) A (assign ny env v) (fun _ bP=>
     wpAny (model prog w) A (forIn ifs true fun c r=>if r=true then do let ok <- isTrue c env (eval c env);pure (rF ok) else pure (rF r)) (fun ok gv=>
      if ok=true then wpAny (model prog w) A (eval elt env) (fun x nQ=>
       wpAny (model prog w) A (call (.builtin "list.append") [acc,x]) (fun _ wQ=>∃ m,m < n/\J m wQ) (fun _ _=>False) nQ) (fun _ _=>False) gv
      else ∃ m,m < n/\J m gv) (fun _ _=>False) bP) (fun _ _=>False) eA) (fun _ _=>False) cN) (fun _ _=>False) s)
  (n:Nat) (h:J n s) :
  codeAny (model prog w) A (.compLoop (.ListComp elt [⟨ny,iter,ifs,0⟩] scope pos) 0 it acc env) R s:=by
 refine codeAny_loop rfl J (fun n s rz=>?_) n h;show wpAny _ A ((compTurn (.ListComp elt [⟨ny,iter,ifs,0⟩] scope pos) 0 it acc env).onRaise (fun x=>do noteFrame x env;theTreesLotGoes x)) _ _ s;refine wpAny_noted (wpAny_noRaise ?_);rw [compTurn_list];refine wpAny_bind (wpAny_standAt (wpAny_bind (wpAny_mono (turn n s rz) (fun r cN h₁=>?_) fun _ _ h'=>h')));cases r with
 | none=>exact wpAny_pure h₁
 | some v=>
  refine wpAny_bind (wpAny_mono h₁ (fun _ eA h₀=>?_) fun _ _ h'=>h');refine wpAny_bind (wpAny_mono h₀ (fun _ bP sd=>wpAny_bind (wpAny_mono sd (fun ok gv rd=>?_) fun _ _ h'=>h')) fun _ _ h'=>h');cases ok with
  | false=>exact wpAny_pure ⟨rfl,rd⟩
  | true=>
   exact wpAny_bind (wpAny_bind (wpAny_mono rd (fun x nQ Fj=>wpAny_bind (wpAny_mono Fj (fun _ wQ Gk=>wpAny_pure (wpAny_pure ⟨rfl,Gk⟩)) fun _ _ h'=>h')) fun _ _ h'=>h'))
def u7 (X:aP) (ifs:List Expr) (t:TT):Prop:=
 ∀ (aa:List (Addr × Obj)) (s:Shared) (σ:St) (H:aq) (Q:Bool->aq->Prop),Inv X aa σ H s->t σ H Q ->
  wpAny (model X.prog X.w) X.A (forIn ifs true fun c r=>if r=true then do let ok <- isTrue c X.env (eval c X.env);pure (rF ok) else pure (rF r)) (Cf X aa σ Q) X.cK s
noncomputable def nN:TT:=fun _ H Q=>Q true H
theorem iz:u7 X [] nN:=fun _ _ _ H _ J h=>wpAny_tests_nil ⟨H,J,h⟩
theorem sF {t:TT} (h:hi X c t):u7 X [c] t:=fun aa s σ H Q J q=>wpAny_tests_one (h aa s σ H Q J q)
def Sub (σ aL:St):Prop:=aL.length=σ.length/\∀ (i:Nat) (v:V),σ[i]? = some (some v)->aL[i]? = some (some v)
def oL (b4:hJ) (g:e1) (cu:TT) (bo:TE) (cI:St) (Q:cc) (W:Nat->Nat->List V->aq->Prop):Prop:=∀ i m ys H,W i m ys H ->
 (b4.stop i H/\∀ p,H p=none->Q (.ref p) (upd H p (.lst ys))) \/
 (b4.go i H/\ys.length < sizeLine/\∀ x I,b4.pN i H x I->g x cI I fun c4 ay=>Sub cI c4/\cu c4 ay fun c bA=>if c=true then bo c4 bA fun y dH=>∃ c2,c2 < m/\W (i + 1) c2 (ys ++ [y]) dH else ∃ c2,c2 < m/\W (i + 1) c2 ys bA)
noncomputable def F0 (ek:TI) (g:e1) (cu:TT) (bo:TE) (sel:List (Option Nat)):TE:=fun σ H Q=>ek σ H fun b4 H1=>∃ W:Nat->Nat->List V->aq->Prop,(∃ m,W 0 m [] H1)/\oL b4 g cu bo (hP sel σ) Q W
section
variable {X:aP} {elt cz iter:Expr} {ifs:List Expr} {scope:Scope} {pos:Pos} {ek:TI} {g:e1} {cu:TT} {bo:TE} {N:List Str} {sel:List (Option Nat)}
structure fD (X:aP) (scope:Scope) (N:List Str) (cz elt:Expr) (ifs:List Expr) (g:e1) (cu:TT) (bo:TE):Prop where
 J8:∀ C s H a9,lB (X.block scope C N s H a9) cz g
 tests:∀ C s H a9,u7 (X.block scope C N s H a9) ifs cu
 elem:∀ C s H a9,bk (X.block scope C N s H a9) elt bo
theorem fD.of {N:List Str} (af:∀ C s H a9,lB (X.block scope C N s H a9) cz g)
  (ai:∀ C s H a9,∃ t,u7 (X.block scope C N s H a9) ifs t/\t=cu) (br:∀ C s H a9,∃ t,bk (X.block scope C N s H a9) elt t/\t=bo):fD X scope N cz elt ifs g cu bo:=
 ⟨af,fun C s H a9=>by obtain ⟨t,h,rfl⟩:=ai C s H a9;exact h,fun C s H a9=>by obtain ⟨t,h,rfl⟩:=br C s H a9;exact h⟩
theorem PD {aa:List (Addr × Obj)} {bP:Shared} {σ:St} {c8:aq} {Q:cc} {it:Addr} {a9:List Addr} {du:Nat->Heap->Prop} {b4:hJ} {W:Nat->Nat->List V->aq->Prop} {E:Value->Shared->Prop} {RR:Value->Addr->Result->Shared->Prop}
  (ar:X.calm=true) (S:nH X.env scope) (lp:q7 X.N scope N sel) (B:fD X scope N cz elt ifs g cu bo) (bl:Inv X aa σ c8 bP) (T:l6 X.prog X.w X.K cz b4 a9 it du) (kp:du 0 bP.heap) (f2:∀ b ∈ a9,gm X aa c8 b)
  (hY:∃ m,W 0 m [] c8) (hh:oL b4 g cu bo (hP sel σ) Q W)
  (fin:∀ D C ys I s',Inv X aa σ (upd I D (.lst ys)) s'->(∃ m,s'.heap.Ns C m)->gm X aa (upd I D (.lst ys)) C->Q (.ref D) (upd I D (.lst ys))->RR (.ref D) C (.ok .next) s') :
  wpAny (model X.prog X.w) X.A (newList []) (fun acc gv=>wpAny (model X.prog X.w) X.A (newFunctionEnv scope X.env.globals (gS X.env.cells scope.names []) [] X.env.qual none .none (some X.env)) (fun uR nQ=>
   codeAny (model X.prog X.w) X.A (.compStart (.ListComp elt [⟨cz,iter,ifs,0⟩] scope pos) 0 (.ref it) acc { uR with scope:=relabel scope X.env }) (RR acc uR.locals) nQ) E gv) E bP:=by
 refine wpAny_newObj_type (wpAny_newFunctionEnv S.yL (by intro y aT;simp at aT) (fun h₁ rQ n9=>?_) S.kind);dsimp only at rQ n9 ⊢;generalize ll:bP.heap.push { cls:=.type "list",dict:=none,data:=.seq ([]:List Value).toArray }=ay at rQ n9 ⊢;have cB:ay.objs.size=bP.heap.objs.size + 1:=by rw [<- ll,wV]
 have mN:bP.heap.objs.size ≠ ay.objs.size:=by rw [cB];exact eb (xv _)
 have oB:bP.heap.objs.size <= ay.objs.size:=by rw [cB];exact vb _
 have below:∀ b,b < bP.heap.objs.size->b ≠ ay.objs.size/\b ≠ bP.heap.objs.size:=fun b ab=>⟨by rw [cB];exact eb (AJ ab),eb ab⟩
 have old:∀ b o,bP.heap.get? b=some o->h₁.get? b=some o:=fun b o e=>n9.extBut b o (below b (cW e)).1 (c6 _ (ll ▸ c6 _ e))
 have xe:h₁.get? bP.heap.objs.size=some { cls:=.type "list",data:=.seq ([]:List Value).toArray }:=n9.extBut _ _ mN (c6 _ (ll ▸ en _ rfl));have mm:∀ b ∈ a9,b < bP.heap.objs.size:=fun b ab=>by
  obtain ⟨o,e,_⟩:=T.obj _ _ kp b ab;exact cW e
 generalize WS:ay.objs.size=C at *;generalize g4:bP.heap.objs.size=D at *;have wL:du 0 h₁:=T.keep _ _ _ kp fun b _ o e=>old b o e
 have GQ:Inv (X.block scope C N bP c8 a9) [] (hP sel σ) c8 { bP with heap:=h₁,toks:=bP.toks + ([]:List (Str × Value)).length }:=
  Pw bl S f2 (fun b ab=>by rw [g4];exact mm b ab) (by rw [g4];exact oB) old rQ lp
 have q0:D ∉ (X.block scope C N bP c8 a9).aQ:=fun z=>by
  have dk:=bl.vK D z;rcases cX.mp dk with e | e
  .exact absurd bl.lt (by rw [<- e,g4];exact lM _)
  .exact bl.Ie (by rw [g4];exact bu _) e
 have loop:∀ gv:Shared,gv = { bP with heap:=h₁,toks:=bP.toks + ([]:List (Str × Value)).length } ->
   codeAny (model X.prog X.w) X.A (.compLoop (.ListComp elt [⟨cz,iter,ifs,0⟩] scope pos) 0 (.ref it) (.ref D) (compEnvC scope (gS X.env.cells scope.names []) C X.env)) (RR (.ref D) C) gv:=by
  rintro gv rfl;obtain ⟨m0,hY⟩:=hY;refine akf (fun k s'=>∃ i ys us n I,Inv (X.block scope C N bP c8 a9) [(D,{ cls:=.type "list",data:=.seq us n })] (hP sel σ) I s'/\(∃ vs:List Value,us=vs.toArray/\bN ys vs)/\ys.length <= sizeLine/\du i s'.heap/\(∀ b ∈ a9,I b=none)/\W i k ys I) ?_ m0
   ⟨0,[],_,0,c8,GQ.p2 fun p ao=>?_,⟨[],rfl,.nil⟩,fL _,wL,fun b ab=>(f2 b ab).1,hY⟩
  .rintro k s' ⟨i,ys,us,n,I,hp,⟨vs,rfl,bV⟩,vt,st,fr,w⟩;have qO:∀ {pl:List (Addr × Obj)} {d7:aq},(∀ p ∈ pl,p.1=D)->(∀ b ∈ a9,d7 b=none)->∀ b ∈ a9,gm (X.block scope C N bP c8 a9) pl d7 b:=fun {pl d7} ao aH b ab=>
    ⟨aH b ab,(below b (mm b ab)).1,(DH (N:=N) (C:=C) bl S f2 (fun b ab=>by rw [g4];exact mm b ab) (by rw [g4];exact oB)).nF b ab,.inl ab,fun x c e=>(f2 b ab).2.2.2.2.1 x c (r8 e),fun p vF z=>by
     have J2:p ∈ pl:=by simpa using vF
     exact (below b (mm b ab)).2 (by rw [<- z];exact ao p J2)⟩
   have r6:∀ p ∈ [((D,{ cls:=.type "list",data:=.seq vs.toArray n }):Addr × Obj)],p.1=D:=fun p ao=>by
    have e:p=(D,{ cls:=.type "list",data:=.seq vs.toArray n }):=by simpa using ao
    rw [e]
   rcases hh i k ys I w with ⟨stop,rV⟩ | ⟨go,hlen,step⟩
   .refine bq (T.done (X.block scope C N bP c8 a9) rfl rfl rfl ar i _ s' _ I _ hp (qO r6 fr) st stop) fun r s4 b0=>?_
    obtain ⟨av,fT⟩:=b0;subst av;have jz:=fT.pin (D,{ cls:=.type "list",data:=.seq vs.toArray n }) (by simp);have x9:I D=none:=jz.2.1;have wc:Inv X aa σ I s4:=bl.p3 (ch:=a9) fT.os fT.base fT.a6 fT.bare fun b ab=>⟨(f2 b ab).2.2.2.1,(f2 b ab).2.1,(f2 b ab).2.2.2.2.1,(f2 b ab).2.2.2.2.2⟩
    have jG:gm X aa I D:=bl.jc (by rw [g4];exact bu _) x9;have vp:Inv X aa σ (upd I D (.lst ys)) s4:=wc.adopt jG ⟨vt,vs,n,bV,jz.1⟩;obtain ⟨EI,Kp,_⟩:=fT.loc;refine fin D C ys I s4 vp ⟨EI,Kp⟩ (bl.jc (by rw [g4];exact oB) ?_) (rV D x9);rw [aX (c7 mN)];exact fT.free
   .refine bq (T.item (X.block scope C N bP c8 a9) rfl rfl rfl ar i _ s' _ I _ hp (qO r6 fr) st go) fun r s4 b0=>?_
    obtain ⟨u,av,cm⟩:=b0;subst av;refine bq cm fun _ s5 b0=>?_
    obtain ⟨x,fY,rk,oQ,yl,mL,yN⟩:=b0;have vr:=rk.pinned (qO r6 yN) (T.obj _ _ mL);refine bq (B.J8 C bP c8 a9 _ s5 _ fY x u _ vr oQ (step x fY yl)) fun _ e5 b0=>?_
    obtain ⟨mw,la,kx,gV,px⟩:=b0;refine bq (B.tests C bP c8 a9 _ e5 mw la _ kx px) fun c hD b0=>?_
    obtain ⟨hb,h_,jZ⟩:=b0;have again:∀ {rG:St} {dI:aq} {fK:Shared},Inv (X.block scope C N bP c8 a9) ([(D,{ cls:=.type "list",data:=.seq vs.toArray n })] ++ tL a9 s5.heap) rG dI fK->du (i + 1) fK.heap/\(∀ b ∈ a9,dI b=none):=fun {rG dI fK} h4=>by
     refine ⟨T.keep _ _ _ mL fun b ab o e=>(h4.pin (b,o) (jP _ (jP _ (tS ab e)))).1,fun b ab=>?_⟩;obtain ⟨o,e,d⟩:=T.obj _ _ mL b ab;exact (h4.pin (b,o) (jP _ (jP _ (tS ab e)))).2.1
    have back:∀ {dI:aq} {fK:Shared} {pl:List (Addr × Obj)},Inv (X.block scope C N bP c8 a9) pl mw dI fK->Inv (X.block scope C N bP c8 a9) pl (hP sel σ) dI fK:=fun {dI fK pl} h4=>h4.weak gV.1.symm gV.2
    cases c with
    | false=>
     obtain ⟨c2,hm,dX⟩:=jZ;obtain ⟨t1,ju⟩:=again h_;exact ⟨c2,hm,i + 1,ys,_,n,hb,back h_.wU,⟨vs,rfl,bV⟩,vt,t1,ju,dX⟩
    | true=>
     refine bq (B.elem C bP c8 a9 _ hD mw hb _ h_ jZ) fun v fK b0=>?_
     obtain ⟨y,dI,h4,Gu,c2,hm,dX⟩:=b0;obtain ⟨t1,ju⟩:=again h4;have jz:=h4.pin (D,{ cls:=.type "list",data:=.seq vs.toArray n }) (by simp);refine append_at (hsz:=by have:=bV.length;rw [eg];omega) jz.1 fun Hb n3 Hj=>?_
     have GW:Inv (X.block scope C N bP c8 a9) [] (hP sel σ) dI fK:=(back h4).p2 fun p ao=>nomatch ao
     have jG:gm (X.block scope C N bP c8 a9) [] dI D:=⟨jz.2.1,mN,q0,.inr (by show bP.heap.objs.size <= D;rw [g4];exact bu _),(fun x c e z=>by
      obtain ⟨XE,o,aZ,hd⟩:=h4.cell x c e;rw [z,jz.1] at aZ;cases aZ;cases hd),(fun p ao=>nomatch ao)⟩
     have Iv:Inv (X.block scope C N bP c8 a9) [] (hP sel σ) dI { fK with heap:=Hb }:=GW.turned (t':=fK.toks) (it:=D) (fun b o ab e=>(n3.2 b ab).trans e) jG.1 jG.2.1 jG.2.2.2.1 jG.2.2.2.2.1 jG.2.2.2.2.2;refine ⟨c2,hm,i + 1,ys ++ [y],vs.toArray.push v,n + 1,dI,Iv.p2 fun p ao=>?_,⟨vs ++ [v],by simp,FT bV Gu⟩,by rw [dq,v_];omega,T.keep _ _ _ t1 fun b ab o e=>(n3.2 b (below b (mm b ab)).2).trans e,ju,dX⟩;have e:p=(D,{ cls:=.type "list",data:=.seq (vs.toArray.push v) (n + 1) }):=by simpa using ao
     subst e;exact ⟨Hj,jz.2.1,mN,q0,fun v z=>by cases z⟩
  .have e:p=(D,{ cls:=.type "list",data:=.seq ([]:List Value).toArray }):=by simpa using ao
   subst e;exact ⟨xe,bl.a6.fresh (by rw [g4];exact bu _),mN,q0,fun v z=>by cases z⟩
 exact codeAny_compStart_list (loop _ rfl) (T.self _ 0 _ _ _ wL (loop _ rfl))
theorem iG (ar:X.calm=true) (aj:kA X cz iter ek) (S:nH X.env scope) (lp:q7 X.N scope N sel) (B:fD X scope N cz elt ifs g cu bo)
  (aG:∀ x,foldedSetIterable iter X.env x=pure x:=by intro _;rfl):bk X (.ListComp elt [⟨cz,iter,ifs,0⟩] scope pos) (F0 ek g cu bo sel):=by
 intro aa s σ H Q J h;rw [eval_ListComp];refine wpAny_comprehension_free (use:=none) rfl aG (I_ (S.cells J.ok)) S.kind S.loc ?_;refine bq (aj aa s σ H _ J h) fun v s1 af=>bq af fun wo s2 ai=>?_
 obtain ⟨it,a9,du,b4,ay,e,bl,T,kp,f2,W,hY,hh⟩:=ai;subst e;refine PD (RR:=fun acc C=>compPost (model X.prog X.w) X.A X.cK none (fS X aa σ Q) acc C) ar S lp B bl T kp f2 hY hh fun D C ys I s' ib ⟨m,hm⟩ dP q=>?_
 exact ⟨m,hm,fun h' pW=>⟨.ref D,_,ib.turned (t':=s'.toks) (it:=C) (fun b o ab e=>(pW.2 b ab).trans e) dP.1 dP.2.1 dP.2.2.2.1 dP.2.2.2.2.1 dP.2.2.2.2.2,rfl,q⟩⟩
theorem t8 {i:Nat} {y:Str} {py yg:Pos} (bx:X.N.Nodup) (aj:X.N[i]? = some y) (ak:Loc X.env.scope y) (ar:X.calm=true) (hit:kA X cz iter ek) (S:nH X.env scope) (lp:q7 X.N scope N sel) (B:fD X scope N cz elt ifs g cu bo)
  (IA:swapsWith (.ListComp elt [⟨cz,iter,ifs,0⟩] scope pos) (some (.Name y py)) yg.line X.env=pure true) (hf:X.fn y=true\/X.env.scope.names.lookup y=some .local:=by first | exact .inl rfl | exact .inr rfl | assumption)
  (aG:∀ x,foldedSetIterable iter X.env x=pure x:=by intro _;rfl):e2 X (.Assign [.Name y py] (.ListComp elt [⟨cz,iter,ifs,0⟩] scope pos) yg) (pI (F0 ek g cu bo sel) (hX i)):=by
 intro aa s σ H D J h;rw [exec_Assign_Name_used _ _ _ _ IA];refine wpAny_bind (wpAny_standAt (wpAny_bind ?_));show wpAny _ X.A (do let _ <- comprehension (.ListComp elt [⟨cz,iter,ifs,0⟩] scope pos) scope X.env _ (newList []) false (eval iter X.env) (some (assign (.Name y py) X.env))) _ _ s;refine wpAny_bind (wpAny_mono (wpAny_comprehension_free (use:=some (assign (.Name y py) X.env)) (Q:=fun _ s'=>fi X aa D .next s') rfl aG (I_ (S.cells J.ok)) S.kind S.loc ?_) (fun _ s' aB=>wpAny_pure (wpAny_pure aB)) fun _ _ e=>e);refine bq (hit aa s σ H _ J h) fun v s1 af=>bq af fun wo s2 ai=>?_
 obtain ⟨it,a9,du,b4,ay,e,bl,T,kp,f2,W,hY,hh⟩:=ai;subst e;refine PD (RR:=fun acc C=>compPost (model X.prog X.w) X.A X.cK (some (assign (.Name y py) X.env)) (fun _ s'=>fi X aa D .next s') acc C) ar S lp B bl T kp f2 hY hh fun Da C ys I s' ib ⟨m,hm⟩ dP q=>?_
 show wpAny _ X.A (assign (.Name y py) X.env (.ref Da)) _ _ _;refine wpAny_assign_Name (JU ib bx aj ak (show bD (.ref Da) (.ref Da) from rfl) (fun s3 dA b0=>?_) hf);obtain ⟨a,pW,aO⟩:=b0;have J':C ≠ a:=by
  rcases aO with z | z
  .rw [z];exact dP.2.1
  .exact fun w=>dP.2.2.2.2.1 y a z w.symm
 refine ⟨m,hm.sameBut pW J',fun h' E2=>⟨_,_,dA.turned (t':=s3.toks) (it:=C) (fun b o ab e=>(E2.2 b ab).trans e) dP.1 dP.2.1 dP.2.2.2.1 dP.2.2.2.2.1 dP.2.2.2.2.2,q⟩⟩
end
def nt (Pv:Nat->List V->aq->Prop) (g:e1) (cu:TT) (bo:TE) (cI:St) (i:Nat) (x:V) (ys:List V) (H:aq):Prop:=
 ∀ N:List V->aq->Prop,(∀ iZ I,Pv (i + 1) iZ I->N iZ I)->g x cI H fun c4 ay=>Sub cI c4/\cu c4 ay fun c bA=>if c=true then bo c4 bA fun y dH=>N (ys ++ [y]) dH else N ys bA
theorem agz {K:a4} (Pv:Nat->List V->aq->Prop) (aD:xs.length <= sizeLine) (h0:Pv 0 [] H) (ax:∀ i ys H,i <= xs.length->Pv i ys H->aW K H a xs/\ys.length <= i)
  (aG:∀ i x ys H,xs[i]? = some x->Pv i ys H->nt Pv g cu bo cI i x ys H) (hd:∀ ys H,Pv xs.length ys H->∀ p,H p=none->Q (.ref p) (upd H p (.lst ys))) :
  ∃ W:Nat->Nat->List V->aq->Prop,(∃ m,W 0 m [] H)/\oL (lr K a) g cu bo cI Q W:=by
 refine ⟨fun i m ys H=>m=xs.length - i/\i <= xs.length/\Pv i ys H,⟨xs.length,by simp,fL _,h0⟩,?_⟩;rintro i m ys H ⟨rfl,aj,p⟩;have q:=(ax i ys H aj p).1;have tf:=(ax i ys H aj p).2;by_cases cH:i < xs.length
 .refine .inr ⟨⟨xs,xs[i],q,by simp [cH]⟩,by omega,fun x I y=>?_⟩;obtain ⟨e,y⟩:=y;subst e;exact aG i x ys _ (y xs q) p (fun iZ I=>∃ c2,c2 < xs.length - i/\c2=xs.length - (i + 1)/\i + 1 <= xs.length/\Pv (i + 1) iZ I) fun iZ I r=>⟨xs.length - (i + 1),by omega,rfl,cH,r⟩
 .have e:i=xs.length:=by omega
  subst e;exact .inl ⟨⟨xs,q,bu _⟩,hd ys H p⟩
theorem RZ {K:a4} (Pv:Nat->List V->aq->Prop) (aD:xs.length <= sizeLine) (h0:Pv 0 [] H) (ax:∀ i ys H,i <= xs.length->Pv i ys H->bY K H a xs/\ys.length <= i)
  (aG:∀ i x ys H,xs[i]? = some x->Pv i ys H->nt Pv g cu bo cI i x ys H) (hd:∀ ys H,Pv xs.length ys H->∀ p,H p=none->Q (.ref p) (upd H p (.lst ys))) :
  ∃ W:Nat->Nat->List V->aq->Prop,(∃ m,W 0 m [] H)/\oL (zw K a) g cu bo cI Q W:=by
 refine ⟨fun i m ys H=>m=xs.length - i/\i <= xs.length/\Pv i ys H,⟨xs.length,by simp,fL _,h0⟩,?_⟩;rintro i m ys H ⟨rfl,aj,p⟩;have q:=(ax i ys H aj p).1;have tf:=(ax i ys H aj p).2;by_cases cH:i < xs.length
 .refine .inr ⟨⟨xs,xs[i],q,by simp [cH]⟩,by omega,fun x I y=>?_⟩;obtain ⟨e,y⟩:=y;subst e;exact aG i x ys _ (y xs q) p (fun iZ I=>∃ c2,c2 < xs.length - i/\c2=xs.length - (i + 1)/\i + 1 <= xs.length/\Pv (i + 1) iZ I) fun iZ I r=>⟨xs.length - (i + 1),by omega,rfl,cH,r⟩
 .have e:i=xs.length:=by omega
  subst e;exact .inl ⟨⟨xs,q,bu _⟩,hd ys H p⟩
theorem NE {lo:Int} {n:Nat} {g:e1} {cu:TT} {bo:TE} {cI:St} {Q:cc} {H:aq} (Pv:Nat->List V->aq->Prop) (aD:n <= sizeLine) (h0:Pv 0 [] H) (ax:∀ i ys H,i <= n->Pv i ys H->ys.length <= i)
  (aG:∀ i ys H,i < n->Pv i ys H->nt Pv g cu bo cI i (.int (lo + i)) ys H) (hd:∀ ys H,Pv n ys H->∀ p,H p=none->Q (.ref p) (upd H p (.lst ys))) :
  ∃ W:Nat->Nat->List V->aq->Prop,(∃ m,W 0 m [] H)/\oL (jJ lo n) g cu bo cI Q W:=by
 refine ⟨fun i m ys H=>m=n - i/\i <= n/\Pv i ys H,⟨n,by simp,fL _,h0⟩,?_⟩;rintro i m ys H ⟨rfl,aj,p⟩;have tf:=ax i ys H aj p;by_cases cH:i < n
 .refine .inr ⟨cH,by omega,fun x I y=>?_⟩;obtain ⟨e,y⟩:=y;subst e y;exact aG i ys _ cH p (fun iZ I=>∃ c2,c2 < n - i/\c2=n - (i + 1)/\i + 1 <= n/\Pv (i + 1) iZ I) fun iZ I r=>⟨n - (i + 1),by omega,rfl,cH,r⟩
 .have e:i=n:=by omega
  subst e;exact .inl ⟨bu _,hd ys H p⟩
noncomputable def yA (xs:List V):hJ:=⟨fun i _=>i < xs.length,fun i H x I=>I=H/\xs[i]? = some x,fun i _=>xs.length <= i⟩
theorem OX {w:World} {K:a4} {it:Addr} {St:Nat->Heap->Prop} (hh:∀ A:Around,A.handled=none->Walks P w A it [it] [it] xs.length afg St)
  (dC:∀ i v,afg i v->∃ x,xs[i]? = some x/\bD x v)
  (tl:∀ i h,St i h->∃ o n vs,h.get? it=some o/\o.cls=.type n/\o.data=.fields vs/\["enumerate","zip","dict_itemiterator","dict_reverseitemiterator","odict_iterator","itertools.zip_longest","itertools.pairwise"].contains n=false)
  (nD:∀ i h h',St i h->(∀ o,h.get? it=some o->h'.get? it=some o)->St i h')
  (akx:∀ (A:Around) (i:Nat) (s:Shared) (Q:Value->Shared->Prop) (E:Value->Shared->Prop),St i s.heap->Q (.ref it) s->wpAny (model P w) A (pyIter (.ref it)) Q E s) :
  l6 P w K cz (yA xs) [it] it (fun i h=>i <= xs.length/\St i h) where
 mem:=by simp
 obj:=fun i h st b ab=>by
  have e:b=it:=by simpa using ab
  subst e;obtain ⟨o,n,vs,e,_,d,_⟩:=tl i h st.2;exact ⟨o,e,fun v z=>by rw [d] at z;cases z⟩
 keep:=fun i h h' st k=>⟨st.1,nD i h h' st.2 fun o e=>k it (by simp) o e⟩
 item:=by
  intro X n7 hw d0 ar i aa s σ H E J hf st bj;subst n7 hw d0;obtain ⟨f0,f1,f2,d3,f4,el⟩:=hf it (by simp);refine (hh X.A (J.ok.hd ar)).item i s _ _ bj st.2 fun v h' cG aU j3 nB=>?_
  obtain ⟨x,ak,bg⟩:=dC i v aU;have aK:Inv X aa σ H { s with heap:=h',toks:=cG }:=J.turned (fun b o ab e=>nB b o (by simpa using ab) e) f0 f1 d3 f4 el;obtain ⟨o,n,vs,e,c,d,nm⟩:=tl _ _ j3;exact ⟨v,rfl,vC (s:={ s with heap:=h',toks:=cG }) e c d nm ⟨x,H,aK,bg,⟨rfl,ak⟩,⟨bj,j3⟩,fun b ab=>(hf b ab).1⟩⟩
 done:=by
  intro X n7 hw d0 ar i aa s σ H E J hf st bj;subst n7 hw d0;obtain ⟨f0,f1,f2,d3,f4,el⟩:=hf it (by simp);have e:i=xs.length:=Nat.le_antisymm st.1 bj;subst e;exact (hh X.A (J.ok.hd ar)).done s _ _ st.2 fun h' cG nB=>⟨rfl,J.turned (fun b o ab e=>nB b o (by simpa using ab) e) f0 f1 d3 f4 el⟩
 self:=fun A i s Q E st h=>akx A i s Q E st.2 h
noncomputable def iV (c:Nat):Str:=⟨#[c]⟩
noncomputable def Tm (x:Str):List V:=x.cps.toList.map fun c=>V.str (iV c)
theorem MW (x:Str):(Tm x).length=x.cps.size:=by unfold Tm;simp
theorem ail {x:Str} {i c:Nat} (h:x.cps[i]? = some c):(Tm x)[i]? = some (.str (iV c)):=by
 unfold Tm;rw [ec,Rp,h];rfl
theorem lw {x:Str} {i:Nat} {v:Value} (h:SignAt x i v):∃ y,(Tm x)[i]? = some y/\bD y v:=by
 obtain ⟨c,u,ar,rfl⟩:=h;exact ⟨.str (iV c),ail ar,u,rfl⟩
section
variable {X:aP} {cz:Expr}
noncomputable def ET (dp:TE):TI:=fun σ H R=>dp σ H fun x H1=>∃ z,x=.str z/\R (yA (Tm z)) H1
theorem Xo (ax:bk X l dp):kA X cz l (ET dp):=by
 intro aa s σ H R J h;refine bq (ax aa s σ H _ J h) fun v s1 b3=>dG b3 fun x H1 aK bR bF=>?_
 obtain ⟨z,e,q⟩:=bF;subst e;obtain ⟨t,rfl⟩:=bR;have dP:∀ b ∈ [s1.heap.objs.size],gm X aa H1 b:=fun b ab=>by
  have e:b=s1.heap.objs.size:=by simpa using ab
  subst e;exact aK.jc (bu _) (aK.a6.fresh (bu _))
 have aD:=MW z;cases aO:z.cps.all (· < 128) with
 | false=>
  refine wpAny_pyIter_wide aO ⟨s1.heap.objs.size,[s1.heap.objs.size],fun i h=>i <= (Tm z).length/\h.IsStrIter s1.heap.objs.size "str_iterator" z t i,_,H1,rfl,aK.kept (t':=s1.toks) fun b o e=>c6 _ e,
   OX (fun A kg=>by rw [aD];exact Walks.strWide kg _ z t) (fun i v=>lw) (fun i h ⟨o,e,c,d⟩=>⟨o,_,_,e,c,d,by decide⟩) (fun i h h' ⟨o,e,r⟩ k=>⟨o,k o e,r⟩) (fun A i s Q E st q=>wpAny_pyIter_striter_wide st q),
   ⟨fL _,_,en _ rfl,rfl,rfl⟩,dP,q⟩
 | true=>
  refine wpAny_pyIter_ascii aO ⟨s1.heap.objs.size,[s1.heap.objs.size],fun i h=>i <= (Tm z).length/\h.IsStrIter s1.heap.objs.size "str_ascii_iterator" z t i,_,H1,rfl,aK.kept (t':=s1.toks) fun b o e=>c6 _ e,
   OX (fun A kg=>by rw [aD];exact Walks.strAscii kg _ z t) (fun i v=>lw) (fun i h ⟨o,e,c,d⟩=>⟨o,_,_,e,c,d,by decide⟩) (fun i h h' ⟨o,e,r⟩ k=>⟨o,k o e,r⟩) (fun A i s Q E st q=>wpAny_pyIter_striter_ascii st q),
   ⟨fL _,_,en _ rfl,rfl,rfl⟩,dP,q⟩
end
theorem ZE (Pv:Nat->List V->aq->Prop) (aD:xs.length <= sizeLine) (h0:Pv 0 [] H) (ax:∀ i ys H,i <= xs.length->Pv i ys H->ys.length <= i)
  (aG:∀ i x ys H,xs[i]? = some x->Pv i ys H->nt Pv g cu bo cI i x ys H) (hd:∀ ys H,Pv xs.length ys H->∀ p,H p=none->Q (.ref p) (upd H p (.lst ys))) :
  ∃ W:Nat->Nat->List V->aq->Prop,(∃ m,W 0 m [] H)/\oL (yA xs) g cu bo cI Q W:=by
 refine ⟨fun i m ys H=>m=xs.length - i/\i <= xs.length/\Pv i ys H,⟨xs.length,by simp,fL _,h0⟩,?_⟩;rintro i m ys H ⟨rfl,aj,p⟩;have tf:=ax i ys H aj p;by_cases cH:i < xs.length
 .refine .inr ⟨cH,by omega,fun x I y=>?_⟩;obtain ⟨e,y⟩:=y;subst e;exact aG i x ys _ y p (fun iZ I=>∃ c2,c2 < xs.length - i/\c2=xs.length - (i + 1)/\i + 1 <= xs.length/\Pv (i + 1) iZ I) fun iZ I r=>⟨xs.length - (i + 1),by omega,rfl,cH,r⟩
 .have e:i=xs.length:=by omega
  subst e;exact .inl ⟨bu _,hd ys H p⟩
section
variable {X:aP}
noncomputable def Io:V->Option Int->Option Int->aq->cc->Prop:=fun x lo aj H Q=>∃ z,x=.str z/\z.length <= sizeLine/\Q (.str (ro z lo aj)) H
theorem Km:Bm X Io:=by
 intro aa s σ H x v iL iT lo aj bE Q J bg aG pl pu h;obtain ⟨z,rfl,aD,q⟩:=h;obtain ⟨t,rfl⟩:=bg;refine ⟨"str",_,F.slot_str_getitem.lookup,typeIs_str s z t,?_⟩;have fin:∀ t' k,fS X aa σ Q (.str (ro z lo aj) t') { s with toks:=k }:=fun t' k=>⟨.str _,H,J.tok _,⟨_,rfl⟩,q⟩
 cases pl with
 | none=>
  cases pu with
  | none=>exact wpAny_getItem_str_slice (l:=none) (u:=none) (st:=none) aG rfl (post_val_or_str ⟨b8 (yp z _ _) aD,fin⟩)
  | int j EV=>exact wpAny_getItem_str_slice (l:=none) (u:=some (j,EV)) (st:=none) aG rfl (post_val_or_str ⟨b8 (yp z _ _) aD,fin⟩)
 | int i mQ=>
  cases pu with
  | none=>exact wpAny_getItem_str_slice (l:=some (i,mQ)) (u:=none) (st:=none) aG rfl (post_val_or_str ⟨b8 (yp z _ _) aD,fin⟩)
  | int j EV=>exact wpAny_getItem_str_slice (l:=some (i,mQ)) (u:=some (j,EV)) (st:=none) aG rfl (post_val_or_str ⟨b8 (yp z _ _) aD,fin⟩)
noncomputable def cv (ys:List Str):List V:=ys.map V.str
theorem Ya:∀ {ys:List Str} {us:List Value},bN (cv ys) us->StrsAre us ys:=by
 intro ys
 induction ys with
 | nil=>intro us r;cases r;exact .nil
 | cons y ys a_=>
  intro us r;cases r with
  | cons bR cw=>
   obtain ⟨t,rfl⟩:=bR;exact .cons y t (a_ cw)
theorem Ur:∀ (l:List (Str × Tok)),bN (cv (l.map (·.1))) (strValues l)
 | []=>.nil
 | (x,t) :: r=>.cons ⟨t,rfl⟩ (Ur r)
noncomputable def EA (K:a4):V->List V->aq->cc->Prop:=fun x vs H Q=>∃ sep p ys,x=.str sep/\vs=[.ref p]/\aW K H p (cv ys)/\(ys.map (·.length)).sum + ys.length * sep.length <= 16777216/\Q (.str (uM sep ys)) H
theorem AS:wq X "str.join" (EA X.K):=by
 intro aa s σ H x xs v us Q J bg bV h;obtain ⟨sep,p,ys,rfl,rfl,aB,aD,q⟩:=h;obtain ⟨t,rfl⟩:=bg;obtain ⟨u,rfl,dD⟩:=Op bV;cases dD;obtain ⟨aI,r,pl,_⟩:=J.list aB;exact join_list pl.isList (by simpa using Ya r) aD fun t' k=>⟨.str _,H,J.tok _,⟨_,rfl⟩,q⟩
end
theorem afQ {prog:Program} {w:World} {A:Around} {x y:Str} {t u:Tok} (aT:(y.length == 0)=false)
  (h:∀ l k,l.map (·.1)=ha x y->Q (.ref s.heap.objs.size) { s with heap:=s.heap.push { cls:=.type "list",data:=.seq (strValues l).toArray },toks:=k }) (hsz:x.length + 2 <= sizeLine) :
  wpAny (model prog w) A (call (.builtin "str.split") [.str x t,.str y u]) Q E s:=by
 have aH:(Zd x (mn x y 0 x.length (x.length + 1)) y.length).length <= sizeLine:=by
  have aw:=StrLaws.occ_length_le x y 0 x.length (x.length + 1);rw [length_partsBetween];omega
 cases af:(decide (x.length < y.length) || decide (VL x < VL y))
 .cases hf:(mn x y 0 x.length (x.length + 1)).isEmpty
  .refine call_meets zv (typeIs_str _ _ _) N9 (Lr _ _) (meets_str_split_sep x y t u af aT hf (by omega) aH) ?_;show wants Q E _ { s with toks:=_,heap:=s.heap.push { cls:=.type "list",data:=.seq (strsFrom s.toks (Zd x (mn x y 0 x.length (x.length + 1)) y.length)).toArray } };rw [strsFrom_eq];exact h (numbered s.toks _) _ ((numbered_texts _ _).trans ((if_neg (ne_true_of_eq_false af)).trans (if_neg (ne_true_of_eq_false hf))).symm)
  .exact call_meets zv (typeIs_str _ _ _) N9 (Lr _ _) (meets_str_split_not_found x y t u af aT hf)
    (h [(x,t)] s.toks ((if_neg (ne_true_of_eq_false af)).trans (if_pos hf)).symm)
 .exact call_meets zv (typeIs_str _ _ _) N9 (Lr _ _) (meets_str_split_cannot_occur x y t u af)
   (h [(x,t)] s.toks (if_pos af).symm)
section
variable {X:aP}
noncomputable def DK:V->List V->aq->cc->Prop:=fun x vs H Q=>∃ z y,x=.str z/\vs=[.str y]/\y.length ≠ 0/\z.length + 2 <= sizeLine/\(ha z y).length <= sizeLine/\∀ p,H p=none->Q (.ref p) (upd H p (.lst (cv (ha z y))))
theorem Tw:wq X "str.split" DK:=by
 intro aa s σ H x xs v us Q J bg bV h;obtain ⟨z,y,rfl,rfl,aT,aD,aH,q⟩:=h;obtain ⟨t,rfl⟩:=bg;obtain ⟨u,rfl,dD⟩:=Op bV;obtain ⟨Fv,rfl⟩:=dD;refine afQ (by simpa using aT) (fun l k ax=>?_) aD;refine ⟨.ref s.heap.objs.size,_,J.laid (t':=k) (o:=.lst (cv (ha z y))) (fun b o e=>c6 _ e) (bu _) ⟨by unfold cv;rw [bb];exact aH,strValues l,0,by rw [<- ax];exact Ur l,en _ rfl⟩,rfl,q _ (J.a6.fresh (bu _))⟩
theorem VZ:jK X (.type "int") (fun xs H Q=>∃ z n,xs=[.str z]/\intText? z=some n/\z.length <= 640/\Q (.int n) H):=by
 intro aa s σ H xs us Q J r h;obtain ⟨z,n,rfl,aH,aD,q⟩:=h;obtain ⟨u,rfl,t,rfl⟩:=Op r;exact PySem.W.KIN.call_text aH aD ⟨.int n,H,J.tok _,⟨_,rfl⟩,q⟩
theorem S8:∀ {bs:List Bool} {us:List Value},bN (bs.map V.bp) us->us=bs.map kT
 | [],_,.nil=>rfl
 | b :: bs,_,.cons r t=>by
  have e:_=kT b:=r;rw [e,S8 t];rfl
theorem Yz {A:Around} (bs:List Bool):TruthOf X.prog X.w A (fun i v=>(bs.map kT).toArray[i]? = some v) (fun i=>bs.getD i true):=by
 intro i v s Q E dC a5;have e:(bs.map kT)[i]? = some v:=by simpa using dC
 rw [ec] at e;cases q:bs[i]? with
 | none=>rw [q] at e;cases e
 | some b=>
  rw [q] at e;have cy:kT b=v:=dj e;subst cy;refine wpAny_truthy_bool ?_;have:bs.getD i true=b:=by simp [Rc,q]
  have R6:Q (bs.getD i true) s:=a5;rw [this] at R6;exact R6
theorem YI (bs:List Bool):(dW bs.length).all (fun i=>bs.getD i true)=bs.all id:=by
 rw [oE];simp only [qS,hZ,id];constructor
 .intro h b ab;obtain ⟨i,aj,e⟩:=List.mem_iff_getElem.mp ab;have:=h i aj;simp [Rc,aj,e] at this;exact this
 .intro h i aj;simp [Rc,aj];exact h _ (zp aj)
theorem aer (ar:X.calm=true):jK X (.builtin "all") (fun xs H Q=>∃ (p:Addr) (bs:List Bool),xs=[.ref p]/\aW X.K H p (bs.map V.bp)/\Q (.bp (bs.all id)) H):=by
 intro aa s σ H xs us Q J r h;obtain ⟨p,bs,rfl,aB,q⟩:=h;obtain ⟨u,rfl,dD⟩:=Op r;cases dD;obtain ⟨aI,bV,pl,_⟩:=J.list aB;have e:=S8 bV;subst e;refine call_all_walk (wpAny_pyIter_list pl.isList ?_);have cf:p ≠ s.heap.objs.size:=eb (by obtain ⟨o,_,aZ,_⟩:=pl;exact cW aZ);refine ⟨s.heap.objs.size,_,_,_,_,_,fun i=>bs.getD i true,rfl,aiU (show X.A.in1.handled=none from J.ok.hd ar) _ p cf (bs.map kT).toArray,⟨⟨_,en _ rfl,rfl,rfl⟩,pl.isList.at fun o e=>c6 _ e⟩,Yz bs,fun h' cG nB=>?_⟩;refine ⟨.bp (bs.all id),H,J.kept fun b o e=>nB b o (by simpa using eb (cW e)) (c6 _ e),?_,q⟩;show kT _=kT _;rw [show (bs.map kT).toArray.size=bs.length by simp,YI]
end
theorem eT {X:aP} {N:List Str} (h:N.Nodup) (e:X.N=N):X.N.Nodup:=e ▸ h
noncomputable def Ub (sc scope:Scope):Bool:=
 (scope.kind == .function) && scope.names.all (fun y=>y.2 != .cell) && scope.names.all (fun y=>y.2 != .free || sc.names.lookup y.1 == some .cell || sc.names.lookup y.1 == some .free) &&
  scope.names.all (fun y=>y.2 != .local || scope.names.lookup y.1 == some .local)
theorem gx {env:Env} (he:env.scope=sc) (h:Ub sc scope=true):nH env scope:=by
 subst he;unfold Ub at h;simp only [iQ,qS] at h;obtain ⟨⟨⟨af,ai⟩,br⟩,cm⟩:=h;refine ⟨by simpa using af,fun y aT e=>?_,fun y aT e=>?_,fun y aT e=>?_⟩
 .have:=ai y aT;rw [e] at this;exact absurd this (by decide)
 .have:=br y aT;rw [e] at this;simp only [Bk] at this;rcases this with (z | z) | z
  .exact absurd z (by decide)
  .exact .inl (show env.scope.names.lookup y.1=some .cell by simpa using z)
  .exact .inr (show env.scope.names.lookup y.1=some .free by simpa using z)
 .have:=cm y aT;rw [e] at this;simp only [Bk] at this;rcases this with z | z
  .exact absurd z (by decide)
  .simpa using z
noncomputable def Tq (M:List Str) (scope:Scope) (N:List Str) (sel:List (Option Nat)):Bool:=
 sel.length == N.length && (sel.zip N).all fun p=>match p.1 with | none=>true | some j=>M[j]? == some p.2 && scope.names.lookup p.2 == some .free
theorem gs {N:List Str} (h:Tq M scope N sel=true):q7 M scope N sel:=by
 unfold Tq at h;simp only [iQ,qS] at h;refine ⟨by simpa using h.1,fun i j x aw az=>?_⟩;have hm:(some j,x) ∈ sel.zip N:=by
  rw [List.mem_iff_getElem?];exact ⟨i,by rw [List.getElem?_zip_eq_some];exact ⟨aw,az⟩⟩
 have:=h.2 _ hm;simp only [iQ] at this;exact ⟨by simpa using this.1,by simpa using this.2⟩
noncomputable def ov:ey->Bool
 | .fU _=>false
 | .fe _ u=>ov u
 | _=>true
def aY (H:aq):Prop:=∀ b o,H b=some o->ov o=true
theorem dK.back {w:World} {h h':Heap}:∀ (o:ey),ov o=true->dK P w I h' a o->dK P w H h a o->dK P w H h' a o
 | .lst _,_,x,_=>x
 | .tup _,_,x,_=>x
 | .dN _,_,x,_=>x
 | .fU _,e,_,_=>absurd e (by unfold ov;decide)
 | .set _ _,_,x,_=>x
 | .ins _ _ _,_,x,y=>⟨y.1,x.2⟩
 | .own _,_,x,_=>x
 | .Ag _,_,x,_=>x
 | .met _ _,_,x,_=>x
 | .BB _ _,_,x,_=>x
 | .fe b2 u,e,x,y=>⟨x.1,dK.back u (by unfold ov at e;exact e) x.2 y.2⟩
 | .pn _,_,x,_=>x
 | .ext _,_,x,_=>x
section
variable {P:Program} {w:World} {K:a4} {ah:Str->Option Value} {base:Heap}
theorem bt.forget {k:Nat} {fd:FuncData} (F:bt P w K ah base b7 k f fd ps sp)
  (h:∀ vs H Q E,oU vs H Q E->aY H/\sp vs H (fun v I=>aN H I/\Q v H) E):bt P w K ah base b7 k f fd ps oU:=by
 refine ⟨fun vs H Q E q=>F.len vs H _ E (h vs H Q E q).2,fun A outer s H args us vs Q E av he ab aU aG=>?_⟩;obtain ⟨bc,q⟩:=h vs H Q E aG;refine codeAny_mono (F.run A outer s H args us vs _ E av he ab aU q) fun r s' aB=>?_
 cases r with
 | error e=>exact aB
 | ok cb=>
  cases cb with
  | next=>exact aB
  | brk=>exact aB
  | cont=>exact aB
  | ret u=>
   obtain ⟨v,I,os,bare,un,a6,bV,ck,cS⟩:=aB;exact ⟨v,H,os,bare,⟨un.keep,un.slot,fun _ _ _ n _=>n,un.there,fun _ _ z=>z,fun _ _ _ z=>z,fun _ ps z=>⟨#[],by rw [z];simp⟩⟩,fun a o e=>(a6 a o (ck a o e)).back o (bc a o e) (he.a6 a o e),bV,cS⟩
end
theorem a0 {p:Addr} (h:H p=none):aN H (upd H p o):=fun b u q=>by rw [aX (Db q h)];exact q
theorem aN.hM {p:Addr} (s:aN H H1) (h:H p=none):aN H (upd H1 p o):=fun b u q=>by rw [aX (Db q h)];exact s b u q
structure Sc (K:a4) (a:Addr) (ns:List Int) (H:aq):Prop where
 x8:(∃ o,H a=some (.fe o (.lst (ns.map V.int))))\/∃ (o:Obj) (aI:Array Value) (n:Nat),K.lookup a=some o/\o.cls=.type "list" /\ o.dict=none/\o.data=.seq aI n/\aI.size <= sizeLine/\bN (ns.map V.int) aI.toList
 bc:aY H
section
variable {K:a4} {a p:Addr} {ns:List Int} {H I:aq} {o:ey}
theorem Sc.seq (s:Sc K a ns H):aW K H a (ns.map V.int):=by
 rcases s.x8 with ⟨o,h⟩ | h
 .exact .inl (.inr ⟨o,h⟩)
 .exact .inr h
theorem Sc.new (s:Sc K a ns H) (ao:H p=none) (aZ:ov o=true:=by rfl):Sc K a ns (upd H p o):=by
 refine ⟨?_,fun b u e=>?_⟩
 .rcases s.x8 with ⟨b2,h⟩ | h
  .exact .inl ⟨b2,by rw [aX (Db h ao)];exact h⟩
  .exact .inr h
 .by_cases ab:b=p
  .subst ab;rw [aS] at e;cases e;exact aZ
  .rw [aX ab] at e;exact s.bc b u e
theorem Sc.set (s:Sc K a ns H) (ao:H p=some u) (ba:∀ b2 z,u ≠ .fe b2 z) (aZ:ov o=true:=by rfl):Sc K a ns (upd H p o):=by
 refine ⟨?_,fun b x e=>?_⟩
 .rcases s.x8 with ⟨b2,h⟩ | h
  .refine .inl ⟨b2,?_⟩;have cf:a ≠ p:=fun z=>by subst z;rw [ao] at h;exact ba _ _ (dj h)
   rw [aX cf];exact h
  .exact .inr h
 .by_cases ab:b=p
  .subst ab;rw [aS] at e;cases e;exact aZ
  .rw [aX ab] at e;exact s.bc b x e
theorem Sc.akB (nW:yK H) (gW:aW K H a (ns.map V.int)):Sc K a ns H:=by
 refine ⟨?_,fun b u e=>?_⟩
 .rcases gW with (h | ⟨o,h⟩) | h
  .rcases nW a with z | ⟨b2,xs,z⟩
   .rw [h] at z;cases z
   .rw [h] at z;cases z
  .exact .inl ⟨o,h⟩
  .exact .inr h
 .rcases nW b with z | ⟨b2,xs,z⟩
  .rw [e] at z;cases z
  .rw [e] at z;cases z;rfl
end
def Q4 (K:a4):bI:=fun vs H Q _=>∃ (a:Addr) (ns:List Int),vs=[.ref a]/\Sc K a ns H/\ns.length <= 63/\∀ I,Q (.bp true) I
theorem iF:bootBuiltins "len"=some (.builtin "len"):=PySem.boot_len
theorem ake:bootBuiltins "all"=some (.builtin "all"):=by ac_nf
theorem abX:bootBuiltins "min"=some (.builtin "min"):=by ac_nf
theorem K1:bootBuiltins "max"=some (.builtin "max"):=by ac_nf
theorem ahj:bootBuiltins "sum"=some (.builtin "sum"):=by ac_nf
theorem agK:bootBuiltins "int"=some (.type "int"):=by ac_nf
theorem rh:bootBuiltins "str"=some (.type "str"):=by ac_nf
theorem ut:bootBuiltins "list"=some (.type "list"):=by ac_nf
theorem ZB:bootBuiltins "dict"=some (.type "dict"):=by ac_nf
theorem lx.same (h:lx H a o) (s:aN H I):lx I a o:=by
 rcases h with h | ⟨b2,h⟩
 .exact .inl (s _ _ h)
 .exact .inr ⟨b2,s _ _ h⟩
theorem aW.same {K:a4} (h:aW K H a xs) (s:aN H I):aW K I a xs:=by
 rcases h with h | h
 .exact .inl (h.same s)
 .exact .inr h
theorem bY.same {K:a4} (h:bY K H a xs) (s:aN H I):bY K I a xs:=by
 rcases h with h | h
 .exact .inl (h.same s)
 .exact .inr h
theorem aY.upd {p:Addr} (h:aY H) (aZ:ov o=true:=by rfl):aY (upd H p o):=fun b u e=>by
 by_cases ab:b=p
 .subst ab;rw [aS] at e;cases e;exact aZ
 .rw [aX ab] at e;exact h b u e
theorem Sc.same {K:a4} {ns:List Int} (s:Sc K a ns H) (ck:aN H I) (bc:aY I):Sc K a ns I:=by
 refine ⟨?_,bc⟩;rcases s.x8 with ⟨o,h⟩ | h
 .exact .inl ⟨o,ck _ _ h⟩
 .exact .inr h
theorem Z8 (f:α->V) (xs:List α) (lo aj:Option Int):∃ ys:List α,hk (xs.map f) lo aj=ys.map f/\ys.length <= xs.length/\∀ y ∈ ys,y ∈ xs:=by
 unfold hk;rw [bb,<- Xj,<- Dj];refine ⟨_,rfl,?_,fun y aT=>aci (wt aT)⟩;rw [eX,tV];omega
structure JC (K:a4) (C:Addr) (m:Str) (f:Addr):Prop where
 fg:acQ K C (.type "type")=true
 fd:X8 K (.ref C) (.type "type") m=some (.val (.ref f))
 ga:tE K (.ref C) "__getattribute__"=some (some (.builtin "type.__getattribute__"))
 bh:pJ K (.ref f)=true
structure nV (P:Program) (w:World) (K:a4) (ah:Str->Option Value) (base:Heap) (CX:hF) (k:Nat) (l_:Addr->Prop) (m:Str) (ps:List Str) (mf:Addr->bI):Prop where
 ok:∀ C,l_ C->∃ f fd,et K C/\ed K C m f/\bt P w K ah base CX k f fd ps (mf C)/\bZ K fd ps []
noncomputable def Om (l_:Addr->Prop) (m:Str) (mf:Addr->bI) (E:cZ) (aV:TE) (t:d2):TE:=fun σ H Q=>aV σ H fun x H1=>∃ a C au aQ,x=.ref a/\H1 a=some (.ins C au aQ)/\l_ C/\aQ.lookup m=none /\
 t σ H1 fun vs ay=>mf C (x :: vs) ay Q E
section
variable {X:aP} {CX:hF} {k:Nat} {f C:Addr} {fd:FuncData} {ps:List Str} {sp:bI} {dvs:List V} {ds:List Value} {E:cZ} {x m:Str} {p pos eB:Pos} {e o:Expr} {aF:List Expr} {aV:TE} {t:d2}
theorem Jz (bj:hn X x) (hm:X.ah x=some (.ref C)) (c:JC X.K C m f) (F:bt X.prog X.w X.K X.ah X.base CX k f fd ps sp) (av:eh k X.A) (ab:bZ X.K fd ps ds) (hd:bN dvs ds) (ak:ly CX X E) (aO:ei X (e :: aF) t)
  (fc:(x == ("__debug__" : Str))=false:=by decide) (fE:starEach (e :: aF) X.env=(false,eval e X.env) :: starEach aF X.env:=by rfl) (eE:(backTo pos (starEach aF X.env)).any (·.1)=false:=by rfl)
  (cR:eval (.Call (.Attribute (.Name x p) m eB) (e :: aF) [] pos) X.env=(do
   let dx <- eval (.Name x p) X.env
   standAt eB.atName
   let (f,first) <- holding [dx] (getMethod dx m pl)
   callWith pos f first (backTo pos (starEach (e :: aF) X.env)) (backToKw pos (keywordEach [] X.env))):=by rfl) :
  bk X (.Call (.Attribute (.Name x p) m eB) (e :: aF) [] pos) (vW sp dvs E t):=by
 intro aa s σ H Q J h;refine wh (pl:=pl) (nX J bj hm ?_ fc) cR;refine Yh J.ep c.ga (abl J.ep c.fg c.fd rfl ?_);have aK:=J.tok (s.toks + 1);refine xl (first:=[]) (h₀:=X.base) J.ok.mod.o4 c.bh (bq (aO pos aa _ σ H _ aK h) fun us s2 ⟨vs,ay,bl,r,cA⟩=>⟨bl.ep,?_⟩) fE eE;exact vA F av ab hd ak bl r cA
variable {l_:Addr->Prop} {mf:Addr->bI}
theorem AV (he:bk X o aV) (V:nV X.prog X.w X.K X.ah X.base CX k l_ m ps mf) (av:eh k X.A) (ak:ly CX X E)
  (cR:eval (.Call (.Attribute o m eB) [] [] pos) X.env=(do
   let dx <- eval o X.env
   standAt eB.atName
   let (f,first) <- holding [dx] (getMethod dx m pl)
   callWith pos f first (backTo pos (starEach [] X.env)) (backToKw pos (keywordEach [] X.env))):=by rfl) :
  bk X (.Call (.Attribute o m eB) [] [] pos) (Om l_ m mf E aV tU):=by
 intro aa s σ H Q J h;refine wh (pl:=pl) (bq (he aa s σ H _ J h) fun u s1 b0=>?_) cR;obtain ⟨x,H1,aK,bg,a,C,au,aQ,ex,cP,ok,l,q⟩:=b0;subst ex;obtain rfl:u=de a:=bg;obtain ⟨f,fd,c,hm,F,ab⟩:=V.ok C ok;refine ze aK cP c hm l ?_;exact RT (first:=[.ref a]) aK.ep hm.bh (vA (us:=[.ref a]) (vs:=[.ref a]) (dvs:=[]) F av ab .nil ak aK (.cons rfl .nil) q)
end
def BM (w:World) (K:a4) (u:Value) (aE:List (Str × V)):Prop:=
 ∃ a aF n,u=.ref a/\K.lookup a=some ⟨.type "dict",none,.dict aF n,#[]⟩/\HK w.params aF.toList/\∀ x v,(x,v) ∈ aE->∃ gJ,ur K a x=some (some gJ)/\bD v gJ
theorem kt:∀ {aE:List (Str × β)} {x:Str} {v:β},aE.lookup x=some v->(x,v) ∈ aE
 | [],_,_,h=>by cases h
 | (k,y) :: r,x,v,h=>by
  rw [nj] at h;by_cases e:x=k
  .subst e;rw [beq_self_eq_true] at h;cases h;exact hH ..
  .rw [beq_eq_false_iff_ne.mpr e] at h;exact fk _ (kt h)
noncomputable abbrev ai3:=List (Str × V)
noncomputable def J0 (aE:ai3) (ty:TE):TE:=fun σ H Q=>ty σ H fun y H1=>∃ x v,y=.str x/\aE.lookup x=some v/\Q v H1
section
variable {X:aP} {x:Str} {p pos:Pos} {i:Expr} {ty:TE} {u:Value} {aE:List (Str × V)}
theorem aj3 (bj:hn X x) (hm:X.ah x=some u) (D:BM X.w X.K u aE) (aj:bk X i ty) (aG:CQ i) (fc:(x == ("__debug__" : Str))=false:=by decide):bk X (.Subscript (.Name x p) i pos) (J0 aE ty):=by
 intro aa s σ H Q J h;obtain ⟨a,aF,n,rfl,ax,aJ,aU⟩:=D;refine Kd LR.lookup aG (nX J bj hm (bq (aj aa s σ H _ J h) fun gX s2 b0=>?_) fc);obtain ⟨y,ay,bl,bw,z,v,gN,l,q⟩:=b0;subst gN;obtain ⟨t,rfl⟩:=bw;obtain ⟨gJ,aw,az⟩:=aU z v (kt l);have hm:=PySem.W.mapOf_K (prog:=X.prog) (w:=X.w) bl.ep ax aJ;exact ⟨hm.typeIs,wpAny_getItem_of (strKind_is X.prog X.w z t) hm (PySem.W.find_K ax aw) ⟨v,ay,bl.tok _,az,q⟩⟩
end
theorem iC:∀ {aQ:List (Str × V)} (bB:List Str),aQ.map (·.1)=bB->bB.contains f=false->Tk f v aQ=aQ ++ [(f,v)]
 | [],_,_,_=>rfl
 | (g,y) :: r,bB,e,h=>by
  cases e;rw [dR,y1] at h;have af:=(zu.mp h);have cf:¬ g=f:=fun z=>by
   have:=af.1;rw [z] at this;simp at this
  show (if g=f then _ else _)=_;rw [if_neg cf,iC _ rfl af.2];rfl
theorem fG {aQ:List (Str × V)} (h:aQ.length < n):(Tk f v aQ).length < n + 1:=jV (No f v aQ) (by omega)
theorem lz:∀ {aQ:List (Str × V)} (bB:List Str) (i:Nat),aQ.map (·.1)=bB->bB.findIdx? (· == f)=some i->aQ[i]? = some (f,v)->aQ.lookup f=some v
 | [],_,_,_,_,h=>by simp at h
 | (g,y) :: r,bB,i,e,h,aU=>by
  cases e;rw [dR,List.findIdx?_cons] at h;rw [nj];by_cases e:g=f
  .subst e;rw [beq_self_eq_true,if_pos rfl] at h;cases h;have:(g,y)=(g,v):=by simpa using aU
   cases this;rw [beq_self_eq_true]
  .rw [beq_eq_false_iff_ne.mpr e,if_neg (by decide)] at h;obtain ⟨j,bf,rfl⟩:=UH.mp h;rw [beq_eq_false_iff_ne.mpr (fun z=>e z.symm)];exact lz _ j rfl bf (by simpa using aU)
theorem l4:∀ {aQ:List (Str × V)} (bB:List Str),aQ.map (·.1)=bB->bB.contains f=false->aQ.lookup f=none
 | [],_,_,_=>rfl
 | (g,y) :: r,bB,e,h=>by
  cases e;rw [dR,y1] at h;have af:=(zu.mp h);rw [nj,af.1];exact l4 _ rfl af.2
theorem Inv.t7 {X:aP} {aa:List (Addr × Obj)} {σ:St} {H:aq} {s:Shared} {h':Heap} {t':Nat} {a9:List Addr} (J:Inv X aa σ H s) (k:∀ b o,b ∉ a9->s.heap.get? b=some o->h'.get? b=some o)
  (hf:∀ b ∈ a9,gm X aa H b):Inv X aa σ H { s with heap:=h',toks:=t' }:=by
 have wa:∀ b u,H b=some u->b ∉ a9:=fun b u e z=>by rw [(hf b z).1] at e;cases e
 refine J.step (g':=s.gens) (d':=s.drawn) (ch:=a9) (fun b ab=>?_) (fun b o _ _ ar e _=>k b o ar e) (fun b o _ _ ar e _=>⟨o.slots,k b o ar e⟩) (fun _ _ _ _ n=>n)
  (fun b o ar e=>⟨o,k b o ar e⟩) (fun _ _ e=>e) (fun _ _ _ e=>e) (fun b ps e=>⟨#[],by rw [e];simp⟩) (fun m hm=>?_) (fun b u e=>?_) J.bare
 .obtain ⟨f0,f1,f2,d3,f4,el⟩:=hf b ab;exact ⟨d3,f1,f4,el⟩
 .obtain ⟨o,aF,b5,aZ,r⟩:=hm;exact ⟨o,aF,b5,k _ o (fun z=>(hf _ z).2.1 rfl) aZ,r⟩
 .refine (J.a6 b u e).kG (fun c v ar q=>k c v ?_ q) (fun _ q=>q) fun _ _ q=>q
  rcases ar with z | z
  .rw [z];exact wa b u e
  .exact wa c _ z
noncomputable def Ar (K:a4) (a:Addr):hJ:=
 ⟨fun i H=>∃ xs x,aW K H a xs/\xs[i]? = some x,fun i H v I=>∃ p y,H p=none/\v=.ref p/\(∀ xs,aW K H a xs->xs[i]? = some y)/\I=upd H p (.tup [.int i,y]),fun i H=>∃ xs,aW K H a xs/\xs.length <= i⟩
theorem Wa {P:Program} {w:World} {K:a4} {aF:List Expr} {k} {pos:Pos} (a e it:Addr) (cf:e ≠ it) :
  l6 P w K (.Tuple aF k pos) (Ar K a) [e,it] e (fun i h=>∃ old,IsEnum h e it ((i:Nat):Int) old/\h.IsListIter it a i) where
 mem:=by simp
 obj:=fun i h ⟨old,he,aj⟩ b ab=>by
  simp only [cX,gP,or_false] at ab;rcases ab with rfl | rfl
  .exact ⟨_,he,fun v z=>by
    have dk:H6 _=yw v:=z;cases dk⟩
  .obtain ⟨o,q,c,d⟩:=aj;exact ⟨o,q,fun v z=>by rw [d] at z;cases z⟩
 keep:=fun i h h' ⟨old,he,aj⟩ k=>⟨old,k e (by simp) _ he,aj.at fun o q=>k it (by simp) o q⟩
 item:=by
  intro X dC hw d0 ar i aa s σ H E J hf ⟨old,he,aj⟩ bj;subst dC hw d0;obtain ⟨xs,x,aB,ak⟩:=bj;obtain ⟨aI,bV,p,aD⟩:=J.list aB;obtain ⟨u,ba,dD⟩:=bV.get ak;refine wpAny_pyNext_enum_item he aj p.isList (x:=u) (by simpa using ba) cf fun af qx tH F5 mg Hy=>⟨_,rfl,?_⟩
  refine wpAny_letOwnedTupleGo_enum qx fun ai KH fN=>?_
  replace fN:qd e af ai:=fN;have xO:e < s.heap.objs.size:=cW he;have aJ:∀ b o,b ∉ [e,it]->s.heap.get? b=some o->ai.get? b=some o:=fun b o ab q=>by
   simp only [cX,gP,or_false,not_or] at ab;exact fN.extBut _ _ ab.1 (Hy b o ab.1 ab.2 q)
  have aK:Inv X aa σ H { s with heap:=ai,toks:=s.toks + 1 }:=J.t7 aJ hf;have dP:gm X aa H s.heap.objs.size:=J.jc (bu _) (J.a6.fresh (bu _));have qo:ai.get? s.heap.objs.size=some { cls:=.type "tuple",data:=.seq #[.int i s.toks,u] }:=(fN.2 _ (sU xO)).trans F5;have bl:=aK.adopt (o:=.tup [.int i,x]) dP ⟨⟨by show 2 <= sizeLine;decide,_,qo,rfl⟩,[.int i s.toks,u],.cons ⟨_,rfl⟩ (.cons dD .nil),⟨_,qo,rfl,_,rfl⟩⟩;refine ⟨.ref s.heap.objs.size,_,bl,rfl,⟨_,x,dP.1,rfl,fun ys aT=>by rw [J.CJ aT aB];exact ak,rfl⟩,⟨u,?_,?_⟩,fun b ab=>?_⟩
  .have aw:((i + 1:Nat):Int)=(i:Int) + 1:=by omega
   rw [aw];exact KH
  .exact tH.extBut fN.extBut (c7 cf)
  .have cH:b < s.heap.objs.size:=by
    simp only [cX,gP,or_false] at ab;rcases ab with rfl | rfl
    .exact xO
    .obtain ⟨o,q,_⟩:=aj;exact cW q
   rw [aX (eb cH)];exact (hf b ab).1
 done:=by
  intro X dC hw d0 ar i aa s σ H E J hf ⟨old,he,aj⟩ bj;subst dC hw d0;obtain ⟨xs,aB,ak⟩:=bj;obtain ⟨aI,bV,p,aD⟩:=J.list aB;have ax:=bV.length;exact wpAny_pyNext_enum_end (J.ok.hd ar) he aj p.isList (by simp;omega) fun h' ef=>⟨rfl,J.t7 (t':=s.toks) (fun b o ab q=>ef b o (fun z=>ab (by simp [z])) q) hf⟩
 self:=fun _ _ _ _ _ ⟨_,he,_⟩ h=>wpAny_pyIter_enum he h
theorem Do:bootBuiltins "enumerate"=some (.type "enumerate"):=by ac_nf
theorem ag8:bootBuiltins "zip"=some (.type "zip"):=by ac_nf
noncomputable def H8 (K:a4) (a b:Addr):hJ:=
  ⟨fun i H=>∃ xs ys x y,aW K H a xs/\aW K H b ys/\xs[i]? = some x/\ys[i]? = some y,
   fun i H v I=>∃ p x y,H p=none/\v=.ref p/\(∀ xs,aW K H a xs->xs[i]? = some x)/\(∀ ys,aW K H b ys->ys[i]? = some y)/\I=upd H p (.tup [x,y]),
   fun i H=>∃ xs ys,aW K H a xs/\aW K H b ys/\(xs.length <= i\/ys.length <= i)⟩
theorem Pi {h:Heap} (aO:h.get? a=some o) (ab:h.get? b=some cM) (ar:o.cls=.type c) (hd:cM.cls=.type d) (n:c ≠ d):a ≠ b:=fun z=>by
 subst z;rw [aO] at ab;cases ab;rw [ar] at hd;cases hd;exact n rfl
theorem SP {h:Heap} {z TI iN es je e' f6:Addr} (aD:IsZip h z TI iN f0) (iO:IsPair h TI fm h7) (ip:IsPair h iN v1 v2) (af:h.IsListIter es e' b1) (ai:h.IsListIter je f6 iw)
  (g1:h.IsList e' xs) (g2:h.IsList f6 ys) (gb:TI ≠ iN) (Cc:es ≠ je):ZipApart z TI iN es je e' f6:=by
 obtain ⟨wC,aw,g6,_⟩:=af;obtain ⟨nh,az,kZ,_⟩:=ai;obtain ⟨hc,f1,dv,_⟩:=g1;obtain ⟨dM,f2,dE,_⟩:=g2;exact ⟨Pi iO aD rfl rfl (by decide),Pi ip aD rfl rfl (by decide),Pi aw aD g6 rfl (by decide),Pi az aD kZ rfl (by decide),gb,Pi iO aw rfl g6 (by decide),Pi iO az rfl kZ (by decide),
  Pi ip aw rfl g6 (by decide),Pi ip az rfl kZ (by decide),Cc,Pi f1 aD dv rfl (by decide),Pi f1 ip dv rfl (by decide),Pi f1 aw dv g6 (by decide),Pi f1 az dv kZ (by decide),
  Pi f2 aD dE rfl (by decide),Pi f2 ip dE rfl (by decide),Pi f2 aw dE g6 (by decide),Pi f2 az dE kZ (by decide)⟩
theorem ajk {P:Program} {w:World} {K:a4} {aF:List Expr} {k} {pos:Pos} (a b z TI iN es je:Addr) (gb:TI ≠ iN) (Cc:es ≠ je) :
  l6 P w K (.Tuple aF k pos) (H8 K a b) [z,TI,iN,es,je] z (fun i h=>IsZip h z TI iN .none/\IsPair h TI (.ref es) (.ref je)/\(∃ u v,IsPair h iN u v)/\h.IsListIter es a i/\h.IsListIter je b i) where
 mem:=by simp
 obj:=fun i h ⟨aD,iO,⟨u,v,ip⟩,⟨wC,aw,_,dv⟩,nh,az,_,dE⟩ c ar=>by
  simp only [cX,gP,or_false] at ar;rcases ar with rfl | rfl | rfl | rfl | rfl
  .exact ⟨_,aD,fun v z=>by
    have dk:H6 _=yw v:=z;cases dk⟩
  .exact ⟨_,iO,fun v z=>by
    have dk:RB _ _=yw v:=z;cases dk⟩
  .exact ⟨_,ip,fun v z=>by
    have dk:RB _ _=yw v:=z;cases dk⟩
  .exact ⟨wC,aw,fun v z=>by rw [dv] at z;cases z⟩
  .exact ⟨nh,az,fun v z=>by rw [dE] at z;cases z⟩
 keep:=fun i h h' ⟨aD,iO,⟨u,v,ip⟩,af,ai⟩ k=>⟨k z (by simp) _ aD,k TI (by simp) _ iO,⟨u,v,k iN (by simp) _ ip⟩,af.at fun o q=>k es (by simp) o q,ai.at fun o q=>k je (by simp) o q⟩
 item:=by
  intro X dC hw d0 ar i aa s σ H E J hf ⟨aD,iO,⟨u,v,ip⟩,af,ai⟩ bj;subst dC hw d0;obtain ⟨xs,ys,x,y,aB,av,ak,aT⟩:=bj;obtain ⟨aI,bV,p,mg⟩:=J.list aB;obtain ⟨Ow,hj,iu,xT⟩:=J.list av;obtain ⟨HU,ba,dD⟩:=bV.get ak;obtain ⟨JR,aU,RK⟩:=hj.get aT;have D:=SP aD iO ip af ai p.isList iu.isList gb Cc;refine wpAny_pyNext_zip_item D aD iO ip af ai p.isList iu.isList (x:=HU) (y:=JR) (by simpa using ba) (by simpa using aU) fun g ac_ aeU g1 g2 aes alC Rn=>⟨_,rfl,?_⟩
  refine wpAny_letOwnedTupleGo_zip ac_ fun g' abR mO=>?_
  replace mO:qd z g g':=mO;have yH:z < s.heap.objs.size:=cW aD;have aJ:∀ c o,c ∉ [z,TI,iN,es,je]->s.heap.get? c=some o->g'.get? c=some o:=fun c o ar q=>by
   simp only [cX,gP,or_false,not_or] at ar;exact mO.extBut _ _ ar.1 (Rn c o ar.1 ar.2.2.1 ar.2.2.2.1 ar.2.2.2.2 q)
  have aK:Inv X aa σ H { s with heap:=g',toks:=s.toks }:=J.t7 aJ hf;have dP:gm X aa H s.heap.objs.size:=J.jc (bu _) (J.a6.fresh (bu _));have qo:IsPair g' s.heap.objs.size HU JR:=(mO.2 _ (sU yH)).trans aes;have bl:=aK.adopt (o:=.tup [x,y]) dP ⟨⟨by show 2 <= sizeLine;decide,_,qo,rfl⟩,[HU,JR],.cons dD (.cons RK .nil),⟨_,qo,rfl,_,rfl⟩⟩;refine ⟨.ref s.heap.objs.size,_,bl,rfl,⟨_,x,y,dP.1,rfl,fun ys aT=>by rw [J.CJ aT aB];exact ak,fun zs ac4=>by rw [J.CJ ac4 av];exact aT,rfl⟩,⟨abR,?_,⟨_,_,mO.extBut _ _ D.TOz aeU⟩,g1.extBut mO.extBut D.i1z,g2.extBut mO.extBut D.i2z⟩,fun b ab=>?_⟩
  .exact mO.extBut _ _ D.TIz (Rn _ _ D.TIz D.TITO D.TIi1 D.TIi2 iO)
  .have cH:b < s.heap.objs.size:=by
    obtain ⟨wC,aw,_⟩:=af;obtain ⟨nh,az,_⟩:=ai;simp only [cX,gP,or_false] at ab;rcases ab with rfl | rfl | rfl | rfl | rfl
    .exact yH
    .exact cW iO
    .exact cW ip
    .exact cW aw
    .exact cW az
   rw [aX (eb cH)];exact (hf b ab).1
 done:=by
  intro X dC hw d0 ar i aa s σ H E J hf ⟨aD,iO,⟨u,v,ip⟩,af,ai⟩ bj;subst dC hw d0;obtain ⟨xs,ys,aB,av,ak⟩:=bj;obtain ⟨aI,bV,p,mg⟩:=J.list aB;obtain ⟨Ow,hj,iu,xT⟩:=J.list av;have ax:=bV.length;have Df:=hj.length;have D:=SP aD iO ip af ai p.isList iu.isList gb Cc;exact wpAny_pyNext_zip_end (J.ok.hd ar) D aD iO ip af ai p.isList iu.isList (by simp;omega) fun h' ef=>⟨rfl,J.t7 (t':=s.toks) (fun b o ab q=>ef b o (fun z=>ab (by simp [z])) (fun z=>ab (by simp [z])) (fun z=>ab (by simp [z])) (fun z=>ab (by simp [z])) q) hf⟩
 self:=fun _ _ _ _ _ ⟨aD,_⟩ h=>wpAny_pyIter_zip aD h
section
variable {X:aP}
noncomputable def Hh (K:a4) (aV:d2):TI:=fun σ H R=>aV σ H fun vs H1=>∃ a,vs=[.ref a]/\(∃ xs,aW K H1 a xs)/\R (Ar K a) H1
theorem rn {k} {p pos:Pos} (bj:hn X "enumerate") (hm:X.ah "enumerate"=none) (aO:ei X [a] aV) (aG:starEach [a] X.env=[(false,eval a X.env)]:=by rfl) :
  kA X (.Tuple aF k rt) (.Call (.Name "enumerate" p) [a] [] pos) (Hh X.K aV):=by
 intro aa s σ H R J h;refine Call_ (pV J bj hm Do (v' (bq (aO pos aa s σ H _ J h) fun us s1 b0=>?_) aG rfl));obtain ⟨vs,H1,aK,bR,bF⟩:=b0;obtain ⟨a,e,⟨xs,aB⟩,q⟩:=bF;subst e;cases bR with
 | cons r i2=>
  cases i2;cases r;obtain ⟨aI,bV,pl,aD⟩:=aK.list aB;refine call_enumerate_list pl.isList fun h' iv rz hsz aJ=>wpAny_pyIter_enum iv ?_
  refine ⟨s1.heap.objs.size + 1,[s1.heap.objs.size + 1,s1.heap.objs.size],_,_,H1,rfl,aK.kept (t':=s1.toks) aJ,Wa a _ _ (Sw _),⟨_,iv,rz⟩,fun b ab=>?_,q⟩;have ew:s1.heap.objs.size <= b:=by
   simp only [cX,gP,or_false] at ab;rcases ab with rfl | rfl
   .exact vb _
   .exact bu _
  exact aK.jc ew (aK.a6.fresh ew)
noncomputable def EJ (K:a4) (aV:d2):TI:=fun σ H R=>aV σ H fun vs H1=>∃ a b,vs=[.ref a,.ref b]/\(∃ xs,aW K H1 a xs)/\(∃ ys,aW K H1 b ys)/\R (H8 K a b) H1
theorem KM {k} {p pos:Pos} (bj:hn X "zip") (hm:X.ah "zip"=none) (aO:ei X [a,b] aV) (aG:starEach [a,b] X.env=[(false,eval a X.env),(false,eval b X.env)]:=by rfl)
  (fN:starEach [b] X.env=[(false,eval b X.env)]:=by rfl):kA X (.Tuple aF k rt) (.Call (.Name "zip" p) [a,b] [] pos) (EJ X.K aV):=by
 intro aa s σ H R J h;refine Call_ (pV J bj hm ag8 (v' (bq (aO pos aa s σ H _ J h) fun us s1 b0=>?_) (by rw [aG,fN]) (by rw [fN];rfl)));obtain ⟨vs,H1,aK,bR,bF⟩:=b0;obtain ⟨a,b,e,⟨xs,aB⟩,⟨ys,av⟩,q⟩:=bF;subst e;cases bR with
 | cons r i2=>
  cases i2 with
  | cons d1 i2=>
   cases i2;cases r;cases d1;obtain ⟨aI,bV,pl,aD⟩:=aK.list aB;obtain ⟨Ow,RK,qN,hA⟩:=aK.list av;refine call_zip_2 pl.isList qN.isList fun h' aD iO ip af ai hsz aJ=>wpAny_pyIter_zip aD ?_
   refine ⟨s1.heap.objs.size + 4,[s1.heap.objs.size + 4,s1.heap.objs.size + 2,s1.heap.objs.size + 3,s1.heap.objs.size,s1.heap.objs.size + 1],_,_,H1,rfl,aK.kept (t':=s1.toks) aJ,
    ajk a b _ _ _ _ _ (eb (xv _)) (eb (xv _)),⟨aD,iO,⟨_,_,ip⟩,af,ai⟩,fun c ar=>?_,q⟩
   have ew:s1.heap.objs.size <= c:=by
    simp only [cX,gP,or_false] at ar;rcases ar with rfl | rfl | rfl | rfl | rfl
    .exact DQ _ _
    .exact DQ _ _
    .exact DQ _ _
    .exact bu _
    .exact DQ _ _
   exact aK.jc ew (aK.a6.fresh ew)
end
theorem fZ {k:Nat} {t:qQ} {K:a4} (d0:X.K=K) (ar:X.calm=true) (h:wi X aF t)
  (aH:(assignEach aF X.env).length=n:=by rfl) (fE:(assignEach aF X.env).findIdx? (·.1)=none:=by rfl):lB X (.Tuple aF k pos) (t_ K n t):=by
 subst d0;exact ZY ar h aH fE
section
variable {X:aP}
noncomputable def Eh:V->List V->aq->cc->Prop:=fun x vs H Q=>∃ l xs i y,x=.ref l/\vs=[.int i,y]/\H l=some (.lst xs)/\0 <= i/\i < 2 ^ 62/\i <= (xs.length:Int)/\xs.length < sizeLine/\Q .bT (upd H l (.lst (xs.take i.toNat ++ y :: xs.drop i.toNat)))
theorem ZM:AQ X "list.insert" Eh:=by
 intro aa s σ H x vs v us Q J bg bV h;obtain ⟨l,xs,i,y,rfl,rfl,h3,h0,af,ai,aD,q⟩:=h;cases bg;cases bV with
 | cons aj' Uo=>
  cases Uo with
  | @cons _ w _ _ hj rc=>
   cases rc;obtain ⟨t,rfl⟩:=aj';obtain ⟨z,aI,n,r,ax,e⟩:=J.rS h3;refine call_meets VW ⟨_,e,rfl⟩ F.entry_list_insert (F.args_list_insert_3 _ _ _) (AutoListH.list_insert_list_int_val_1 l aI.toArray n i t w (by rw [fitsIndex_both (k:=i) (by omega) (by omega)];decide) (by rw [eg];omega)) ⟨e,?_⟩;refine ⟨.bT,_,J.A7 (its':=aI.take i.toNat ++ w :: aI.drop i.toNat) h3 e ?_ ((r.take i.toNat).append (.cons hj (r.drop i.toNat))) ?_,rfl,q⟩
   .have aJ:(if i < 0 then (i + ((aI.toArray.size:Nat):Int)).toNat else min i.toNat aI.toArray.size)=i.toNat:=by
     rw [if_neg (by omega),eg];omega
    show (aI.toArray.extract 0 (if i < 0 then (i + ((aI.toArray.size:Nat):Int)).toNat else min i.toNat aI.toArray.size)).push w ++ aI.toArray.extract (if i < 0 then (i + ((aI.toArray.size:Nat):Int)).toNat else min i.toNat aI.toArray.size)=_;rw [aJ];apply RH.mp;simp;exact xY (by rw [tV];exact bu _)
   .rw [dq,dr,eX,tV];omega
theorem UO {P:Nat->Value->Prop} {f:Nat->V} (dC:∀ i v,P i v->bD (f i) v):∀ (l:List Value) (k:Nat),(∀ j v,l[j]? = some v->P (k + j) v)->bN ((dW l.length).map fun i=>f (k + i)) l
 | [],_,_=>.nil
 | v :: r,k,h=>by
  rw [dr,List.range_succ_eq_map,dR,jC];refine .cons (dC _ _ (h 0 v rfl)) ?_;have:=UO dC r (k + 1) fun j w bf=>by
   have:=h (j + 1) w (by simpa using bf);rwa [show k + 1 + j=k + (j + 1) by omega]
  have e:(fun i=>f (k + 1 + i))=((fun i=>f (k + i)) ∘ Nat.succ):=funext fun i=>by
   show f (k + 1 + i)=f (k + (i + 1));rw [show k + 1 + i=k + (i + 1) by omega]
  rwa [e] at this
theorem akh {P:Nat->Value->Prop} {f:Nat->V} (dC:∀ i v,P i v->bD (f i) v) {acc:Array Value} {n:Nat} (h:ItemsOf P acc n):bN ((dW n).map f) acc.toList:=by
 have:=UO dC acc.toList 0 fun j v bf=>by
  rw [Ls];exact h.2 j v (by rw [<- Rp];exact bf)
 rw [show acc.toList.length=n by rw [zP];exact h.1] at this;simpa using this
end
inductive ue (K:a4) (H:aq):Nat->V->V->Bool->Prop
 | flat {k:Nat} {x y:V} (ak:k_ x=true) (aT:k_ y=true):ue K H k x y (lK x y)
 | lst {k:Nat} {p q:Addr} {xs ys:List V} {e:Nat->Bool} (ao:aW K H p xs) (aB:aW K H q ys) (ax:xs.length=ys.length) (he:∀ (j:Nat) (x y:V),xs[j]? = some x->ys[j]? = some y->ue K H k x y (e j)):ue K H (k + 1) (.ref p) (.ref q) ((dW xs.length).all e)
 | al' {k:Nat} {p q:Addr} {xs ys:List V} (ao:aW K H p xs) (aB:aW K H q ys) (ax:xs.length ≠ ys.length):ue K H (k + 1) (.ref p) (.ref q) false
 | tup {k:Nat} {p q:Addr} {xs ys:List V} {e:Nat->Bool} (ao:bY K H p xs) (aB:bY K H q ys) (he:∀ (j:Nat) (x y:V),xs[j]? = some x->ys[j]? = some y->ue K H k x y (e j)):ue K H (k + 1) (.ref p) (.ref q) ((dW (min xs.length ys.length)).all e && xs.length == ys.length)
section
variable {X:aP} {aa:List (Addr × Obj)} {σ:St} {H:aq} {s:Shared}
end
section
variable {X:aP}
end
end L2
namespace L2
open PySem PySem.Spec PyProof.Rows PySem.Builtin PySem.Builtin.ObjectAttr
theorem CR (h:H a=some o):upd H a o=H:=by
 funext b;unfold upd;by_cases e:b=a
 .rw [if_pos e,e,h]
 .rw [if_neg e]
noncomputable abbrev hy:List Value:=[.type "ValueError",.type "Exception",.type "BaseException",.type "object"]
noncomputable def u1 (K:a4) (C fI:Addr):Bool:=
 match K.lookup C with
 | some ⟨.type "type",_,.cls cd,bE⟩=>
  match cd.mro,bE.toList with
  | .ref D :: dp,[_,_,_,_,some (.builtin n),_]=>
   (D == C) && (n == "ValueError.__new__") && (cd.hasDel == false) && (cd.hasDict == true) && PySem.W.tailIn K hy dp && PySem.W.nsOkIn K cd.ns && (ur K cd.ns "__init__" == some (some (.ref fI)))
  | _,_=>false
 | _=>false
theorem ajT {K:a4} {h:Heap} {N:Addr} {x:Str} (eS:K.In h) (G:h.Ns N r0) (e:ur K N x=some (some v)):r0 x=some v:=by
 obtain ⟨b2,rows,b5,aw,az,_,look⟩:=G;unfold ur at e;split at e
 .rename_i aZ;have z:=eS _ _ aZ;rw [aw] at z;cases z;cases az;split at e
  .rename_i yJ he;cases e;rw [<- look];unfold nsFind findBy;rw [<- afw,he];rfl
  .split at e <;> cases e
 .cases e
theorem Ix {K:a4} {h:Heap} (eS:K.In h) (e:u1 K C fI=true) :
  ∃ dp N nm q bs sn sub ng co dU nI b1 iw jh m8 r0,h.get? C=some (excClassObj nm q C N bs dp true sn sub ng co dU nI b1 iw jh m8 "ValueError.__new__")/\h.Ns N r0/\r0 "__init__"=some (.ref fI)/\OwnTail h hy dp:=by
 unfold u1 at e;split at e
 .rename_i dU cd bE aZ;split at e
  .rename_i D dp nI b1 iw jh n m8 hm aG;simp only [iQ,beq_iff_eq] at e;obtain ⟨⟨⟨⟨⟨⟨aw,az⟩,bW⟩,fu⟩,lC⟩,iY⟩,p0⟩:=e;obtain ⟨nm,bs,mro,ns,rV,hd,sn,sub,ng,co,del⟩:=cd;simp only at hm bW fu iY p0;subst hm aw az bW fu;obtain ⟨l⟩:=bE;simp only at aG;subst aG;have G:h.Ns ns (h.nsMap ns):=.of_isNs (PySem.W.isNs_of_in eS iY);exact ⟨dp,ns,nm,rV,bs,sn,sub,ng,co,dU,nI,b1,iw,jh,m8,h.nsMap ns,eS _ _ aZ,G,ajT eS G p0,PySem.W.tail_of_in eS lC⟩
  .cases e
 .cases e
section
variable {P:Program} {w:World} {A:Around} {h:Heap} {g:Array GenState} {d:Drawn} {t:Nat} {os:OsState} {K:a4} {C fI:Addr} {R:Result->Shared->Prop}
theorem ajs (eS:K.In h) (e:u1 K C fI=true) (hf:T8 K (.ref fI)=some (.type "function")) (aD:us.length <= sizeLine)
  (aB:∀ h' x,h.objs.size <= x->Xw h h' x (.ref C) us->codeAny (model P w) (A.under (.builtin "type.__call__" ⟨.ref C :: us,[]⟩)) (.call (.ref fI) ⟨.ref x :: us,[]⟩) (Z4 x R) ⟨h',g,d,t,os⟩) :
  codeAny (model P w) A (.call (.ref C) ⟨us,[]⟩) R ⟨h,g,d,t,os⟩:=by
 obtain ⟨dp,N,nm,q,bs,sn,sub,ng,co,dU,nI,b1,iw,jh,m8,r0,cB,bx,aj,T⟩:=Ix eS e;have F:=WM;have f1:=tc_lookup;have f2:=tc_bind (.ref C);have ty:(⟨h,g,d,t,os⟩:Shared).TypeIs (.ref C) "type" := ⟨_,cB,rfl⟩;refine codeAny_of_tree ?_;show wpAny _ _ (callAny (.ref C) _) _ _ _
 repeat (any_goals (first | assumption | with_reducible refine wpAny_loadPart_at cB ?_ | wp_step))
 refine ⟨rfl,?_⟩;refine codeAny_call_builtin_at (Qu _ (by ac_nf)) entry_typeCall (wpAny_check_type_call_sub cB ?_)
 repeat (first | with_reducible refine wpAny_loadPart_at cB ?_ | with_reducible refine wpAny_madeBy_exc cB ?_ | wp_step)
 refine codeAny_call_builtin_code (Qu _ F.quiet) (wpAny_check_new_subT F T cB ?_);refine codeAny_exc_new_subT (rest:=us) F T cB ?_ aD;show wpAny _ _ _ _ _ _;generalize cQ:(h.push { cls:=.type "tuple",data:=.seq us.toArray }).push { cls:=.ref C,data:=.fields #[.ref h.objs.size,.none,.none,.none,.bool false,.none] }=ai;have k:∀ b o,h.get? b=some o->ai.get? b=some o:=fun b o z=>by rw [<- cQ];exact c6 _ (c6 _ z)
 have ak:ai.get? (h.objs.size + 1)=some { cls:=.ref C,data:=.fields #[.ref h.objs.size,.none,.none,.none,.bool false,.none] }:=by rw [<- cQ];heap_get
 have cR:ai.get? h.objs.size=some { cls:=.type "tuple",data:=.seq us.toArray }:=by rw [<- cQ];exact c6 _ (Heap.get?_push_at rfl rfl)
 have M:Xw h ai (h.objs.size + 1) (.ref C) us:=⟨k,Q2 (vb _),h.objs.size,ak,Q2 (bu _),cR⟩;have ad8:(de C :: dp).contains (.ref C)=true:=by simp
 unfold isInstance
 repeat (first | with_reducible refine wpAny_loadPart_at ak ?_ | wp_step)
 refine wpAny_isSubtype_exc (k _ _ cB) ?_;rw [ad8]
 repeat wp_step
 show wpAny _ _ (typeLookup (.ref C) _) _ _ _;refine wpAny_typeLookup_tail (k _ _ cB) (bx.keeps k) (T.keeps k) F.mroIs F.init.lookup ?_;rw [aj];refine wpAny_holding (wpAny_bind ((afS (eS.keeps k) _ hf).here (wpAny_bind (wpAny_call ?_))));refine codeAny_mono (aB ai _ (vb _) M) fun r s' z=>?_
 rcases r with e | (v | _ | _ | _) <;> first | exact z | exact z.elim | skip
 obtain ⟨rfl,z⟩:=z;exact wpAny_pure (wpAny_pure z)
end
noncomputable def vV:List Value->Bool
 | .ref _ :: r=>vV r
 | l=>l == hy
theorem p5 (self:Value):refuseLoop self "__setattr__" hy=pure ():=by kernel_rfl
theorem L6 (self:Value):∀ {l:List Value},vV l=true->refuseLoop self "__setattr__" l=pure ()
 | .ref c :: r,e=>by rw [refuseLoop_ref];exact L6 self (l:=r) e
 | [],e=>by cases e
 | .type n :: r,e=>by rw [show wb n :: r=hy from beq_iff_eq.mp e];exact p5 self
 | .none :: r,e=>by rw [show hg :: r=hy from beq_iff_eq.mp e];exact p5 self
 | .bool b :: r,e=>by rw [show kT b :: r=hy from beq_iff_eq.mp e];exact p5 self
 | .int b c :: r,e=>by rw [show nc b c :: r=hy from beq_iff_eq.mp e];exact p5 self
 | .str b c :: r,e=>by rw [show q4 b c :: r=hy from beq_iff_eq.mp e];exact p5 self
 | .bytes b c :: r,e=>by rw [show GU b c :: r=hy from beq_iff_eq.mp e];exact p5 self
 | .float b c :: r,e=>by rw [show Jt b c :: r=hy from beq_iff_eq.mp e];exact p5 self
 | .builtin b :: r,e=>by rw [show t5 b :: r=hy from beq_iff_eq.mp e];exact p5 self
theorem Fw (T:String) (h:hy.contains (.type T)=true):∀ {l:List Value},vV l=true->l.contains (.type T)=true
 | .ref c :: r,e=>by rw [y1,Fw T h (l:=r) e,IK]
 | [],e=>by cases e
 | .type n :: r,e=>by rw [show wb n :: r=hy from beq_iff_eq.mp e];exact h
 | .none :: r,e=>by rw [show hg :: r=hy from beq_iff_eq.mp e];exact h
 | .bool b :: r,e=>by rw [show kT b :: r=hy from beq_iff_eq.mp e];exact h
 | .int b c :: r,e=>by rw [show nc b c :: r=hy from beq_iff_eq.mp e];exact h
 | .str b c :: r,e=>by rw [show q4 b c :: r=hy from beq_iff_eq.mp e];exact h
 | .bytes b c :: r,e=>by rw [show GU b c :: r=hy from beq_iff_eq.mp e];exact h
 | .float b c :: r,e=>by rw [show Jt b c :: r=hy from beq_iff_eq.mp e];exact h
 | .builtin b :: r,e=>by rw [show t5 b :: r=hy from beq_iff_eq.mp e];exact h
structure lN (K:a4) (C:Addr):Prop where
 hd:zY K C=true
 dx:((ajx K C).any fun cd=>vV cd.mro)=true
 qe:dB K (.ref C) "__setattr__"=some (some (.builtin "object.__setattr__"))
 ga:dB K (.ref C) "__getattribute__"=some (some (.builtin "BaseException.__getattribute__"))
 gt:dB K (.ref C) "__getattr__"=some none
 ex:∃ fI,u1 K C fI=true
noncomputable def e6 (x C:Addr) (a':Option Addr):Heap->Prop:=fun h=>∃ vs bE,h.get? x=some ⟨.ref C,a',.fields vs,bE⟩/\1 < vs.size/\vs[1]? = some .none
noncomputable def jD (au:Addr) (aQ:List (Str × V)):Heap->Prop:=fun h=>∃ dt,h.Ns1 au dt/\(∀ f,hL (aQ.lookup f) (dt f))/\BR dt (aQ.map (·.1))
theorem e6.at {x C:Addr} {h h':Heap} (z:e6 x C a' h) (k:∀ o,h.get? x=some o->h'.get? x=some o):e6 x C a' h':=let ⟨vs,bE,e,r⟩:=z;⟨vs,bE,k _ e,r⟩
theorem jD.at {aQ:List (Str × V)} {h h':Heap} (z:jD au aQ h) (k:∀ o,h.get? au=some o->h'.get? au=some o):jD au aQ h':=let ⟨dt,e,r⟩:=z;⟨dt,e.at k,r⟩
theorem e6.ok {w:World} {h:Heap} {x C:Addr} (z:e6 x C a' h):dK P w H h x (.ext (e6 x C a')):=by
 obtain ⟨vs,bE,e,r⟩:=id z;exact ⟨z,⟨_,e⟩,fun af ai q k=>q.at k⟩
theorem jD.ok {w:World} {h:Heap} {aQ:List (Str × V)} (z:jD au aQ h):dK P w H h au (.ext (jD au aQ)):=by
 obtain ⟨dt,⟨o,aF,b5,e,_⟩,_⟩:=id z;exact ⟨z,⟨_,e⟩,fun af ai q k=>q.at k⟩
section
variable {prog:Program} {w:World} {A:Around} {E:Value->Shared->Prop} {K:a4} {C x:Addr} {s:Shared} {R:Result->Shared->Prop}
theorem ahU {name:Str} (eS:K.In s.heap) (b4:Ds s.heap x M3 C a') (c:lN K C) (cR:bz K C name)
  (h:wpAny (model prog w) A.in1 (storeInOwnDict (.ref x) (.ref C) (.str name cG) name v false)
   (fun fin s'=>match fin with | .done f=>R (.ok f) s' | .again dT=>dT.quiet=true/\codeAny (model prog w) A dT R s') (fun e s'=>R (.error e) s') s) :
  codeAny (model prog w) A (.call (.builtin "object.__setattr__") ⟨[.ref x,.str name cG,v],[]⟩) R s:=by
 have G:=PySem.F.store_object;obtain ⟨cd,ar,aZ⟩:=zE c.dx;have ne:cd.mro.isEmpty=false:=by
  cases q:cd.mro with
  | nil=>rw [q] at aZ;cases aZ
  | cons _ _=>rfl
 have sub:I5 (model prog w) s.heap (isInstance (.ref x) (.type "object")) true:=
  b4.type.andThen (ah0 eS (by unfold xj;rw [ar,Iu,if_neg (by rw [ne];decide),Fw "object" (by decide) aZ]))
 refine codeAny_call_builtin G.slot.plain G.entry (@PySem.W.check_slot (model prog w) _ _ s "object.__setattr__" "object" "__setattr__" (.ref x) [.str name cG,v] [] _ G.kind G.split sub (G.args (.ref x) (.str name cG) v) ?_);have hm:I5 (model prog w) s.heap (mroOf (.ref C)) cd.mro:=(N5 eS ar).andThen .now;rw [PySem.W.osa_eq,refuse_eq];refine wpAny_bind (wpAny_bind (b4.type.here (wpAny_bind (hm.here ?_))));rw [L6 _ aZ];exact wpAny_pure (wpAny_bind (b4.type.here (wpAny_bind ((Ci eS cR).here (wpAny_bind (wpAny_pure h))))))
end
section
variable {X:aP} {aa:List (Addr × Obj)} {σ:St} {H:aq} {s:Shared} {x C au:Addr} {aQ:List (Str × V)} {f:Str} {y:V} {u:Value} {A:Around} {E:Value->Shared->Prop} {Q:Unit->Shared->Prop}
theorem aaJ (J:Inv X aa σ H s) (e:H x=some (.ext (e6 x C none))) (c:lN X.K C) (n:bz X.K C f) (bw:bD y u)
  (h:∀ au s',H au=none->au ≠ x->Inv X aa σ (upd (upd H x (.ext (e6 x C (some au)))) au (.ext (jD au [(f,y)]))) s'->Q () s'):wpAny (model X.prog X.w) A (setAttr (.ref x) f u) Q E s:=by
 obtain ⟨vs,bE,ak,d_,d5⟩:=(show dK X.prog X.w H s.heap x (.ext (e6 x C none)) from J.a6 _ _ e).1;have b4:Ds s.heap x ⟨.ref C,none,.fields vs,bE⟩ C none:=⟨ak,rfl,rfl,ko⟩;refine Xt J.ep b4 c.qe (ahU (s:={ s with toks:=s.toks + 1 }) J.ep b4 c n ?_);obtain ⟨cd,ar,rC⟩:=zE c.hd;refine wpAny_bind (wpAny_pure (wpAny_bind (wpAny_bind (wpAny_loadPart ak (wpAny_bind (ac' (s:={ s with toks:=s.toks + 1 }) (N5 J.ep ar) ?_))))));rw [rC];show wpAny _ _ (alloc i_ >>= fun d=>(update x fun o=>{ o with dict:=some d }) >>= fun _=>dictMade (.ref C) x d) _ _ _;refine wpAny_bind (wpAny_alloc (wpAny_bind ?_));have k4:(s.heap.push i_).get? x=some ⟨.ref C,none,.fields vs,bE⟩:=c6 _ ak;have Xb:x < s.heap.objs.size:=cW ak;refine wpAny_update k4 (wpAny_pure ?_);have aw:(s.heap.push i_).get? s.heap.objs.size=some i_:=en s.heap rfl;have bW:(s.heap.push i_).Ns s.heap.objs.size (fun _=>none):=⟨i_,#[],_,aw,rfl,(fun e he=>absurd he (by simp)),fun _=>rfl⟩;generalize S7:(s.heap.push i_).update x (fun o=>{ o with dict:=some s.heap.objs.size })=ai;have cg:s.heap.objs.size ≠ x:=sU Xb;have iw:∀ b,b ≠ x->ai.get? b=(s.heap.push i_).get? b:=fun b ab=>by rw [<- S7];exact jM _ _ (c7 ab)
 have tY:ai.get? x=some ⟨.ref C,some s.heap.objs.size,.fields vs,bE⟩:=by rw [<- S7];exact lS _ k4 rfl
 have bQ:ai.Ns1 s.heap.objs.size (fun _=>none):=(afp bW).at fun o q=>(iw _ cg).trans q
 refine wpAny_bind (wpAny_pure (wpAny_bind ?_));refine wpAny_nsSet1 (s:={ s with heap:=ai,toks:=s.toks + 1 }) bQ fun br df s3=>?_
 have ek:BR (fun a=>if a=f then some u else none) [f]:=aaC f u (fun a aO=>absurd rfl aO);obtain ⟨aiB,XM,abm,FH,G2,HW⟩:=df.count ek;refine wpAny_bind (wpAny_lookBehind FH (by rw [G2];exact pastItsLine_dict (b8 HW (by rw [sizeLine_eq];show 1 <= _;decide))) ?_);refine wpAny_pure (h s.heap.objs.size _ (J.a6.fresh (bu _)) cg ?_);have jh:∀ b o,b ≠ x->s.heap.get? b=some o->br.get? b=some o:=fun b o ab q=>
  (s3.2 b (fun z=>by rw [z] at q;exact absurd (cW q) (lM _))).trans ((iw b ab).trans (c6 _ q))
 have Kc:br.get? x=some ⟨.ref C,some s.heap.objs.size,.fields vs,bE⟩:=(s3.2 x (c7 cg)).trans tY;generalize Em:s.heap.update x (fun o=>{ o with dict:=some s.heap.objs.size })=kg;have PH:∀ b,b ≠ x->kg.get? b=s.heap.get? b:=fun b ab=>by rw [<- Em];exact jM _ _ (c7 ab)
 have HB:kg.get? x=some ⟨.ref C,some s.heap.objs.size,.fields vs,bE⟩:=by rw [<- Em];exact lS _ ak rfl
 have aca:kg.objs.size=s.heap.objs.size:=by rw [<- Em];exact X0 _ _ _
 have vp:=J.write (x:=x) (e:=x) (o:=.ext (e6 x C (some s.heap.objs.size))) (h':=kg) (t':=s.toks) (by rw [e];exact ko) (.inl rfl) (fun b o ab q=>(PH b ab).trans q) ⟨_,HB⟩ (e6.ok ⟨vs,bE,HB,d_,d5⟩);refine vp.laid (a:=s.heap.objs.size) (h':=br) (fun b o q=>?_) (BI aca) (jD.ok ⟨_,df,fun g=>?_,ek⟩)
 .by_cases ab:b=x
  .subst ab;rw [HB] at q;rw [Kc,<- q]
  .rw [PH b ab] at q;exact jh b o ab q
 .show hL (nj g [(f,y)]) (if g=f then some u else none);by_cases aB:g=f
  .rw [if_pos aB,aB,List.lookup_cons_self];exact bw
  .rw [if_neg aB,nA,beq_false_of_ne aB];exact ko
noncomputable def f3 (x C:Addr) (a':Option Addr):Heap->Prop:=fun h=>∃ vs bE,h.get? x=some ⟨.ref C,a',.fields vs,bE⟩
theorem f3.at {x C:Addr} {h h':Heap} (z:f3 x C a' h) (k:∀ o,h.get? x=some o->h'.get? x=some o):f3 x C a' h':=let ⟨vs,bE,e⟩:=z;⟨vs,bE,k _ e⟩
theorem f3.ok {w:World} {h:Heap} {x C:Addr} (z:f3 x C a' h):dK P w H h x (.ext (f3 x C a')):=by
 obtain ⟨vs,bE,e⟩:=id z;exact ⟨z,⟨_,e⟩,fun af ai q k=>q.at k⟩
theorem Wi {b:Bool} {Q:Value->Shared->Prop} (J:Inv X aa σ H s) (e:H x=some (.ext (f3 x C (some au)))) (oj:H au=some (.ext (jD au aQ))) (c:lN X.K C) (n:bz X.K C f) (l:aQ.lookup f=some y)
  (h:∀ u s',Inv X aa σ H s'->bD y u->Q u s'):wpAny (model X.prog X.w) A (getAttr (.ref x) f b) Q E s:=by
 obtain ⟨vs,bE,ak⟩:=(show dK X.prog X.w H s.heap x (.ext (f3 x C (some au))) from J.a6 _ _ e).1;obtain ⟨dt,bH,r,ek⟩:=(show dK X.prog X.w H s.heap au (.ext (jD au aQ)) from J.a6 _ _ oj).1;obtain ⟨a',aZ,BV⟩:=NN bH;obtain ⟨u,ba,dD⟩:=hL.some_of (v:=y) (o:=dt f) (by rw [<- l];exact r f);have b4:Ds s.heap x ⟨.ref C,some au,.fields vs,bE⟩ C (some a'):=⟨ak,rfl,rfl,aZ⟩;have fin:=h u _ (J.tok (s.toks + 1)) dD;have eS:=J.ep;clear h;obtain ⟨cd,ar,rC⟩:=zE c.hd;obtain ⟨am3,l1,FW⟩:=zE c.dx;rw [ar] at l1;cases l1;have cQ:=N8 dD;obtain ⟨ao,g,d,t,os⟩:=s;have B_:=b4.type (M:=model X.prog X.w);have sA:=Ci (M:=model X.prog X.w) eS c.ga;have L2:=Ci (M:=model X.prog X.w) eS c.gt;have FY:=Ci (M:=model X.prog X.w) eS n;have uf:=PySem.W.looks_own (M:=model X.prog X.w) (name:=f) (r:=some u) eS b4 ar (by unfold PySem.W.ownOf;rw [if_pos rC];show zr f a'=_;rw [BV,ba]);have FB:=PySem.F.excAttr_ValueError;have d3:=FB.ga.bind (.ref x);have amu:(b && onTheHeap (t5 "BaseException.__getattribute__"))=false:=by cases b <;> rfl
 have UZ:(t5 "BaseException.__getattribute__" == t5 "object.__getattribute__")=false:=by ac_nf
 have k4:(onTheHeap (de C) && t5 "BaseException.__getattribute__" == t5 "object.__getattribute__")=false:=by rw [UZ];rfl
 unfold getAttr getAttrBy;refine wpAny_bind (wpAny_mkText (wpAny_holding (wpAny_bind (B_.at (wpAny_bind (sA.at ?_))))));dsimp only;rw [if_neg (by rw [k4];decide)];unfold getAttrByItsOwn
 repeat (any_goals (first | assumption | with_reducible refine PySem.W.Looks.at (by assumption) ?_ | wp_step))
 have ne:cd.mro.isEmpty=false:=by
  cases q:cd.mro with
  | nil=>rw [q] at FW;cases FW
  | cons _ _=>rfl
 have sub:I5 (model X.prog X.w) ao (isInstance (.ref x) (.type "BaseException")) true:=
  B_.andThen (ah0 eS (by unfold xj;rw [ar,Iu,if_neg (by rw [ne];decide),Fw "BaseException" (by decide) FW]))
 refine codeAny_call_builtin FB.ga.plain PySem.F.entry_bexc_ga (@PySem.W.check_slot (model X.prog X.w) _ _ ⟨ao,g,d,t + 1,os⟩ "BaseException.__getattribute__" "BaseException" "__getattribute__" (.ref x) [.str f t] [] _ (by ac_nf) (by ac_nf) sub (PySem.F.args_bexc_ga (.ref x) (.str f t)) ?_);unfold Builtin.«object.__getattribute__»
 repeat (any_goals (first | assumption | with_reducible refine PySem.W.Looks.at (by assumption) ?_ | wp_step))
 show wpAny _ _ (handedOut u) _ _ _;rw [PySem.W.handedOut_of cQ];exact wpAny_pure fin
end
noncomputable abbrev tO:=St->aq->(aq->Prop)->Prop
def sD (X:aP) (aF:List Expr) (n:Nat) (t:tO):Prop:=
 ∀ (aa:List (Addr × Obj)) (s:Shared) (σ:St) (H:aq) (Q:aq->Prop) (acc:Str) (R:Str->Shared->Prop),Inv X aa σ H s->acc.length + n <= sizeLine->t σ H Q ->
  (∀ out I s',Inv X aa σ I s'->out.length <= sizeLine->Q I->R out s')->Joins (model X.prog X.w) X.A X.cK (evalEach aF X.env) acc R s
noncomputable def Hf:tO:=fun _ H Q=>Q H
noncomputable def EH (bo:TE) (t:tO):tO:=fun σ H Q=>bo σ H fun v H1=>∃ x,v=.str x/\x.length <= 1000/\(∀ c ∈ x.cps.toList,c < 16 ^ 8)/\t σ H1 Q
noncomputable def Ei (t:tO):TE:=fun σ H Q=>t σ H fun H1=>∀ y:Str,Q (.str y) H1
section
variable {X:aP} {e:Expr} {aF:List Expr} {n:Nat} {t:tO} {bo:TE} {pos:Pos}
theorem aaH:sD X [] 0 Hf:=fun aa s σ H Q acc R J ax q h=>h acc H s J ax q
theorem ai1 {k:Nat} (h:sD X aF n t):sD X (.Constant (.str c) k pos :: aF) (n + c.length) t:=fun aa s σ H Q acc R J ax q ie=>by
 show wpAny _ _ _ _ _ _;refine acD ⟨c,_,rfl,by rw [strLen_append];omega,h aa _ σ H Q _ R (J.tok _) (by rw [strLen_append];omega) q ie⟩
theorem IN (he:bk X e bo) (h:sD X aF n t):sD X (.FormattedValue e 114 none pos :: aF) (n + 11000) (EH bo t):=fun aa s σ H Q acc R J ax q ie=>by
 show wpAny _ _ _ _ _ _;refine wpAny_FormattedValue_repr (bq (he aa s σ H _ J q) fun u s1 b0=>?_);obtain ⟨v,H1,aK,r,x,ev,ak,ar,bF⟩:=b0;subst ev;obtain ⟨cG,rfl⟩:=(show ∃ cG,u=q4 x cG from r);have aD:=ama x ar;refine wpAny_pyReprObj_str ?_ (by rw [sizeLine_eq];omega);exact formatField_str (fun t' SG=>⟨_,_,rfl,by rw [strLen_append];omega,h aa _ σ H1 Q _ R ((aK.tok _).tok _) (by rw [strLen_append];omega) bF ie⟩) (by rw [sizeLine_eq];omega)
theorem U8 (h:sD X (e :: az :: aF) n t) (aH:n <= sizeLine):bk X (.JoinedStr (e :: az :: aF) pos) (Ei t):=by
 intro aa s σ H Q J q;refine wpAny_JoinedStr (h aa s σ H _ _ _ J (by show 0 + n <= _;omega) q fun out I s' ib ax cS=>⟨ax,?_⟩);exact ⟨.str out,I,ib.tok _,⟨_,rfl⟩,cS out⟩
end
structure Fz (K:a4) (L:Addr) (m:Str):Prop where
 fg:acQ K L (.type "type")=true
 fd:X8 K (.ref L) (.type "type") m=some (.val (.builtin "ValueError.__init__"))
 ga:tE K (.ref L) "__getattribute__"=some (some (.builtin "type.__getattribute__"))
noncomputable def JQ (K:a4) (t:d2):TE:=fun σ H Q=>t σ H fun vs H1=>∃ x C a' v,vs=[.ref x,v]/\H1 x=some (.ext (e6 x C a'))/\lN K C/\Q .bT H1
section
variable {X:aP} {L:Addr} {x:Str} {p pos eB:Pos} {e:Expr} {aF:List Expr} {t:d2}
theorem aaK {A:Around} (J:Inv X aa σ H s) (cP:H a=some (.ext (e6 a C a'))) (c:lN X.K C)
  (h:∀ s',Inv X aa σ H s'->Q .none s'):wpAny (model X.prog X.w) A (call (.builtin "ValueError.__init__") [.ref a,u]) Q E s:=by
 obtain ⟨vs,bE,ak,d_,d5⟩:=(show dK X.prog X.w H s.heap a (.ext (e6 a C a')) from J.a6 _ _ cP).1;obtain ⟨fI,J3⟩:=c.ex;obtain ⟨dp,N,nm,q,bs,sn,sub,ng,co,dU,nI,b1,iw,jh,m8,r0,cB,bx,aj,T⟩:=Ix J.ep J3;have F:=WM;obtain ⟨v0,h0⟩:∃ v0,vs[0]? = some v0:=⟨vs[0]'(by omega),ae_ (by omega)⟩;obtain ⟨cQ,g,d,tt,os⟩:=s;refine wpAny_call (codeAny_call_builtin F.init.plain F.initEntry (wpAny_check_init_subT F T cB ak rfl ?_));show wpAny _ _ (newTuple [u] >>= fun eG=>(do
  let old <- field (.ref a) 0
  setField (.ref a) 0 eG
  if let .ref _:=old then letGo [old] []) >>= fun _=>ret .none) _ _ _
 have k4:(cQ.push { cls:=.type "tuple",data:=.seq [u].toArray }).get? a=some ⟨.ref C,a',.fields vs,bE⟩:=c6 _ ak;refine wpAny_bind (wpAny_newTuple (wpAny_bind (wpAny_bind (wpAny_field k4 rfl h0 (wpAny_bind (wpAny_setField k4 rfl (by omega) ?_))))));have tY:=lS (h:=cQ.push { cls:=.type "tuple",data:=.seq [u].toArray }) (nM (·.setIfInBounds 0 (.ref cQ.objs.size))) k4 rfl;have fin:∀ s',s'=(⟨(cQ.push { cls:=.type "tuple",data:=.seq [u].toArray }).update a (nM (·.setIfInBounds 0 (.ref cQ.objs.size))),g,d,tt,os⟩:Shared)->Q .none s':=by
  rintro s' rfl;refine h _ ?_;have aK:Inv X aa σ H ⟨cQ.push { cls:=.type "tuple",data:=.seq [u].toArray },g,d,tt,os⟩:=J.kept (t':=tt) fun b o q=>c6 _ q
  have:=aK.write (x:=a) (e:=a) (o:=.ext (e6 a C a')) (h':=(cQ.push { cls:=.type "tuple",data:=.seq [u].toArray }).update a (nM (·.setIfInBounds 0 (.ref cQ.objs.size)))) (t':=tt) (by rw [cP];exact ko) (.inl rfl)
   (fun b o ab q=>(jM _ _ (c7 ab)).trans q) ⟨_,tY⟩ (e6.ok ⟨vs.setIfInBounds 0 (.ref cQ.objs.size),bE,tY,by simpa using d_,by rw [Array.getElem?_setIfInBounds_ne (by decide)];exact d5⟩)
  rwa [CR cP] at this
 cases v0 with
 | ref b=>exact wpAny_bind (wpAny_holding (wpAny_point (wpAny_pure (wpAny_pure (fin _ rfl)))))
 | _=>exact wpAny_pure (wpAny_pure (fin _ rfl))
theorem ajB (bj:hn X x) (hm:X.ah x=some (.ref L)) (c:Fz X.K L m) (aO:ei X (e :: aF) t)
  (fc:(x == ("__debug__" : Str))=false:=by decide) (fE:starEach (e :: aF) X.env=(false,eval e X.env) :: starEach aF X.env:=by rfl) (eE:(backTo pos (starEach aF X.env)).any (·.1)=false:=by rfl)
  (cR:eval (.Call (.Attribute (.Name x p) m eB) (e :: aF) [] pos) X.env=(do
   let dx <- eval (.Name x p) X.env
   standAt eB.atName
   let (f,first) <- holding [dx] (getMethod dx m pl)
   callWith pos f first (backTo pos (starEach (e :: aF) X.env)) (backToKw pos (keywordEach [] X.env))):=by rfl) :
  bk X (.Call (.Attribute (.Name x p) m eB) (e :: aF) [] pos) (JQ X.K t):=by
 intro aa s σ H Q J h;refine wh (pl:=pl) (nX J bj hm ?_ fc) cR;refine Yh J.ep c.ga (abl J.ep c.fg c.fd rfl ?_);refine afV (bq (aO pos aa _ σ H _ (J.tok (s.toks + 1)) h) fun us s2 b0=>?_) fE eE;obtain ⟨vs,ay,bl,r,a,C,a',v,ev,cP,V8,q⟩:=b0;subst ev;obtain ⟨fm,h7,rfl,bR,cw⟩:=C8 r;obtain rfl:fm=de a:=bR;exact aaK bl cP V8 fun s3 dA=>⟨.bT,ay,dA,rfl,q⟩
end
structure ti (K:a4) (C fI:Addr):Prop where
 e:u1 K C fI=true
 fn:T8 K (.ref fI)=some (.type "function")
 bh:pJ K (.ref C)=true
noncomputable def ED (C:Addr) (sp:bI) (t:d2):TE:=fun σ H Q=>t σ H fun vs H1=>vs.length <= sizeLine/\∀ x,H1 x=none->sp (.ref x :: vs) (upd H1 x (.ext (e6 x C none))) (fun v ay=>v=.bT/\Q (.ref x) ay) (fun _ _ _=>False)
noncomputable def QB (K:a4) (aV fj:TE) (f:Str):dz:=fun D σ H=>fj σ H fun y H1=>aV σ H1 fun x ay=>∃ a C,x=.ref a/\ay a=some (.ext (e6 a C none))/\lN K C/\bz K C f /\
 ∀ au,ay au=none->au ≠ a->D.cg σ (upd (upd ay a (.ext (e6 a C (some au)))) au (.ext (jD au [(f,y)])))
noncomputable def IG (K:a4) (aV:TE) (f:Str):TE:=fun σ H Q=>aV σ H fun x H1=>∃ a C au aQ v,x=.ref a/\H1 a=some (.ext (f3 a C (some au)))/\H1 au=some (.ext (jD au aQ))/\lN K C/\bz K C f/\aQ.lookup f=some v/\Q v H1
section
variable {X:aP} {k:Nat} {f C:Addr} {fd:FuncData} {ps:List Str} {sp:bI} {x g:Str} {p pos pos' eB:Pos} {e o value:Expr} {aF:List Expr} {aV fj:TE} {t:d2}
theorem ag7 (M:ti X.K C f) (F:bt X.prog X.w X.K X.ah X.base (fun _ _ _ _ _ _=>False) k f fd ps sp) (av:eh (k + 1) X.A) (ab:bZ X.K fd ps [])
  (J:Inv X aa σ H s) (r:bN vs us) (aD:vs.length <= sizeLine) (h:∀ x,H x=none->sp (.ref x :: vs) (upd H x (.ext (e6 x C none))) (fun v ay=>v=.bT/\Q (.ref x) ay) (fun _ _ _=>False)) :
  wpAny (model X.prog X.w) X.A (call (.ref C) us) (fS X aa σ Q) X.cK s:=by
 obtain ⟨cQ,g,d,tt,os⟩:=s;refine wpAny_call (ajs (fI:=f) J.ep M.e M.fn (by rw [<- r.length];exact aD) fun h' x ak TQ=>?_);obtain ⟨eG,M3,_,_⟩:=TQ.there;have bl:=J.laid (a:=x) (o:=.ext (e6 x C none)) (h':=h') (t':=tt) TQ.keeps ak (e6.ok ⟨_,_,M3,Nat.lt_of_lt_of_eq (show 1 < 6 by decide) rfl,rfl⟩);have aB:=h x (J.a6.fresh ak);have cw:bN (V.ref x :: vs) (de x :: us):=.cons rfl r;have ax:((de x :: us) ++ []).length=ps.length:=by
  rw [me,<- cw.length];exact F.len _ _ _ _ aB
 have ma:=ab ⟨h',g,d,tt,os⟩ (de x :: us) bl.ep ax;rw [me] at ma;refine codeAny_mono (F.run _ X.stack _ _ ⟨de x :: us,[]⟩ (de x :: us) _ _ _ (av.make C us []) (bl.AW.make C us []) ma cw aB) fun r s' oW=>?_
 rcases r with e | (u | _ | _ | _) <;> first | exact jI oW | skip
 obtain ⟨v,I,dA,bV,ev,eV⟩:=bl.after oW;subst ev;exact ⟨bV,⟨V.ref x,I,dA,rfl,eV⟩⟩
theorem VI (M:ti X.K C f) (F:bt X.prog X.w X.K X.ah X.base (fun _ _ _ _ _ _=>False) k f fd ps sp) (av:eh (k + 1) X.A) (bj:hn X x) (hm:X.ah x=some (.ref C)) (ab:bZ X.K fd ps [])
  (aO:ei X (e :: aF) t) (fc:(x == ("__debug__" : Str))=false:=by decide) (he:starEach (e :: aF) X.env=(false,eval e X.env) :: starEach aF X.env:=by rfl) (eE:(backTo pos (starEach aF X.env)).any (·.1)=false:=by rfl) :
  bk X (.Call (.Name x p) (e :: aF) [] pos) (ED C sp t):=by
 intro aa s σ H Q J h;refine wpAny_Call_Name_kw (nX J bj hm ?_ fc);exact xl (h₀:=X.base) J.ok.mod.o4 M.bh (bq (aO pos aa s σ H _ J h) fun us s1 ⟨vs,H1,aK,r,aD,q⟩=>⟨aK.ep,ag7 M F av ab aK r aD q⟩) he eE
theorem ajO (aO:bk X o aV) (aU:bk X value fj) (aG:swapsWith value (some (.Attribute o g pos')) pos.line X.env=pure false):e2 X (.Assign [.Attribute o g pos'] value pos) (QB X.K aV fj g):=by
 intro aa s σ H D J h;refine plainObj_wpAny_Assign_Attribute (bq (aU aa s σ H _ J h) fun u s1 b3=>dG b3 fun y H1 aK bw q=>bq (aO aa s1 σ H1 _ aK q) fun dx s2 b0=>?_) aG;obtain ⟨x,ay,bl,bg,a,C,ex,cP,c,n,cA⟩:=b0;subst ex;obtain rfl:dx=de a:=bg;exact aaJ bl cP c n bw fun au s3 hd cf dA=>⟨σ,_,dA,cA au hd cf⟩
theorem aiV (he:bk X e aV) (ab:attributeBase e g X.env (eval e X.env)=eval e X.env):bk X (.Attribute e g pos) (IG X.K aV g):=by
 intro aa s σ H Q J h;refine PO ab (bq (he aa s σ H _ J h) fun u s1 b0=>?_);obtain ⟨x,H1,aK,bg,a,C,au,aQ,v,ex,cP,oj,c,n,l,q⟩:=b0;subst ex;obtain rfl:u=de a:=bg;exact Wi aK cP oj c n l fun u s2 bl dD=>⟨v,H1,bl,dD,q⟩
end
def jH (x C:Addr) (a':Option Addr) (T:Addr) (cb:Value) (h:Heap):Prop:=
 T ≠ x/\∃ vs bE lj g0,h.get? x=some ⟨.ref C,a',.fields vs,bE⟩/\vs[1]? = some (.ref T)/\h.get? T=some lj/\lj.data=.fields g0/\g0[3]? = some cb
theorem jH.nZ {x C T:Addr} {h:Heap} (z:jH x C a' T cb h):f3 x C a' h:=let ⟨_,vs,bE,_,_,e,_⟩:=z;⟨vs,bE,e⟩
structure mS (aQ:List Addr) (x:Addr) (q5:Option Addr) (h h':Heap):Prop where
 keep:∀ b o,h.get? b=some o->b ∉ aQ->b ≠ x->some b ≠ q5->h'.get? b=some o
 slot:∀ b o,h.get? b=some o->b ∈ aQ->∃ bE,h'.get? b=some { o with slots:=bE }
 there:∀ b o,h.get? b=some o->∃ cM,h'.get? b=some cM
section
variable {M:Model} {A:Around} {E:Value->Shared->Prop} {s:Shared}
theorem wJ {base h:Heap} (ax:h.FunFrames base l) (e:h.get? b=some o) (d:o.data=.fields vs):b ∉ g_ l:=fun hm=>by
 obtain ⟨_,cM,cy,jL⟩:=ax.mem hm;rw [e] at cy;cases cy;exact jL vs d
theorem akk {env env':Env} (hf:env.frame=some L) (oJ:env'.frame=some L):E_ env'=E_ env:=by
 unfold E_;rw [oJ,hf]
theorem Pm {base:Heap} {env env':Env} {outer:List Env} {L x C:Addr} {aH:Bool}
  (nD:A.frames=some (env :: outer)) (ax:s.heap.FunFrames base (env :: outer)) (hf:env.frame=some L) (oJ:env'.frame=some L) (he:s.heap.get? x=some ⟨.ref C,a',.fields vs,bE⟩) (aD:1 < vs.size)
  (h:∀ h' T,mS (g_ (env :: outer)) x none s.heap h'->s.heap.objs.size <= T->jH x C a' T (rawInt L) h'->Q () { s with heap:=h' }) :
  wpAny M A (do let a <- E_ env';let pl <- entryPlaceOf L aH;let b <- afc head a .none (rawInt L) .none pl;setField (.ref x) 1 b) Q E s:=by
 have cg:x ∉ g_ (env :: outer):=wJ ax he rfl;rw [akk hf oJ];refine wpAny_bind (wpAny_frameOf_fun nD ax hf fun af S=>wpAny_bind (wpAny_entryPlaceOf fun pl ao=>?_));unfold afc newFields;refine wpAny_bind (wpAny_newObj_type ?_ (ao.sizeOk5 _ _ _ _ _));have aw:af.get? x=some ⟨.ref C,a',.fields vs,bE⟩:=(S.2.1 x cg).trans he;obtain ⟨g0,ajm,br⟩:∃ g0:Array Value,([head,.ref L,.none,rawInt L,.none] ++ (if pl.isEmpty then F9 6 hg else pl)).toArray=g0/\g0[3]? = some (rawInt L):=⟨_,rfl,by simp⟩;rw [ajm];have az:=c6 (h:=af) { cls:=.type "traceback",dict:=none,data:=.fields g0 } aw;have ne:af.objs.size ≠ x:=sU (cW aw);have gj:af.objs.size=s.heap.objs.size:=S.1;refine wpAny_setField az rfl aD (h _ af.objs.size ⟨fun b o q bH bQ _=>?_,fun b o q bH=>?_,fun b o q=>?_⟩ (BI gj.symm) ⟨ne,vs.setIfInBounds 1 (.ref af.objs.size),bE,{ cls:=.type "traceback",dict:=none,data:=.fields g0 },g0,lS _ az rfl,by simp [aD],?_,rfl,br⟩)
 .rw [jM _ _ (c7 bQ)];exact c6 _ ((S.2.1 b bH).trans q)
 .obtain ⟨z6,bW⟩:=S.2.2 b o q;have nb:x ≠ b:=fun z=>cg (by rw [z];exact bH)
  exact ⟨z6,(jM _ _ nb).trans (c6 _ bW)⟩
 .by_cases ab:b=x
  .rw [ab];exact ⟨_,lS _ az rfl⟩
  .obtain ⟨z6,bW⟩:=S.2.2 b o q;exact ⟨_,by rw [jM _ _ (c7 ab)];exact c6 _ bW⟩
 .exact (jM _ _ (c7 ne)).trans (en af rfl)
theorem akc {base:Heap} {env env':Env} {outer:List Env} {L x C:Addr}
  (nD:A.frames=some (env :: outer)) (ax:s.heap.FunFrames base (env :: outer)) (hf:env.frame=some L) (oJ:env'.frame=some L) (he:s.heap.get? x=some ⟨.ref C,a',.fields vs,bE⟩) (af:vs[1]? = some .none)
  (h:∀ h' T,mS (g_ (env :: outer)) x none s.heap h'->s.heap.objs.size <= T->jH x C a' T (rawInt L) h'->Q () { s with heap:=h' }) :
  wpAny M A (noteFrame (.ref x) env') Q E s:=by
 unfold noteFrame;simp only [oJ];refine wpAny_bind (wpAny_field he rfl af ?_);rw [if_neg (by decide)];exact Pm nD ax hf oJ he (D'.mp af).1 h
theorem NA {base:Heap} {env env':Env} {outer:List Env} {L x C T:Addr}
  (nD:A.frames=some (env :: outer)) (ax:s.heap.FunFrames base (env :: outer)) (hf:env.frame=some L) (oJ:env'.frame=some L) (z:jH x C a' T cb s.heap) (cf:¬ (cb == rawInt L)=true)
  (h:∀ h' kE,mS (g_ (env :: outer)) x (some T) s.heap h'->s.heap.objs.size <= kE->jH x C a' kE (rawInt L) h'->Q () { s with heap:=h' }) :
  wpAny M A (noteFrame (.ref x) env') Q E s:=by
 obtain ⟨ne,vs,bE,lj,g0,he,af,dc,hd,br⟩:=z;unfold noteFrame;simp only [oJ];refine wpAny_bind (wpAny_field he rfl af ?_);rw [if_pos (show (de T != hg)=true from by simp)];refine wpAny_bind (wpAny_field dc hd br ?_);rw [if_neg cf];refine wpAny_bind (wpAny_setField dc hd (D'.mp br).1 ?_);have gb:T ∉ g_ (env :: outer):=wJ ax dc hd;have m5:∀ b,b ≠ T->(s.heap.update T (nM (·.setIfInBounds 3 hg))).get? b=s.heap.get? b:=fun b ab=>jM _ _ (c7 ab)
 have CA:∃ cM,(s.heap.update T (nM (·.setIfInBounds 3 hg))).get? T=some cM:=⟨_,lS _ dc (NT (Bo hd _))⟩;have p9:(s.heap.update T (nM (·.setIfInBounds 3 hg))).FunFrames base (env :: outer):=ax.of_keeps fun b o e jL=>⟨o,(m5 b fun q=>by rw [q,dc] at e;cases e;exact jL g0 hd).trans e,rfl⟩
 refine Pm (s:={ s with heap:=s.heap.update T (nM (·.setIfInBounds 3 hg)) }) nD p9 hf oJ ((m5 x (c7 ne)).trans he) (D'.mp af).1 fun h' kE k w f=>h h' kE ⟨fun b o q bH bQ df=>?_,fun b o q bH=>?_,fun b o q=>?_⟩ ?_ f
 .exact k.keep b o ((m5 b fun y=>df (by rw [y])).trans q) bH bQ (fun y=>by cases y)
 .exact k.slot b o ((m5 b fun y=>gb (y ▸ bH)).trans q) bH
 .by_cases ab:b=T
  .subst ab;obtain ⟨cM,cy⟩:=CA;exact k.there _ _ cy
  .exact k.there b o ((m5 b ab).trans q)
 .exact b8 (BI (X0 _ _ _).symm) w
theorem qv {x C T:Addr} {aQ:List Addr} (o:Option Addr) (z:jH x C a' T cb s.heap) (gb:T ∉ aQ)
  (h:∀ h',mS aQ x (some T) s.heap h'->jH x C a' T (o.elim .none fun f=>rawInt f) h'->Q () { s with heap:=h' }):wpAny M A (setFlight (.ref x) o) Q E s:=by
 obtain ⟨ne,vs,bE,lj,g0,he,af,dc,hd,br⟩:=z;have tI:3 < g0.size:=(D'.mp br).1;have m5:∀ b,b ≠ T->(s.heap.update T (nM (·.setIfInBounds 3 (o.elim hg fun f=>rawInt f)))).get? b=s.heap.get? b:=fun b ab=>jM _ _ (c7 ab)
 have CA:=lS (nM (·.setIfInBounds 3 (o.elim hg fun f=>rawInt f))) dc (NT (Bo hd _));unfold setFlight;refine wpAny_bind (wpAny_field he rfl af ?_);rw [if_pos (show (de T != hg)=true from by simp)];refine wpAny_setField dc hd tI (h _ ⟨fun b o q _ _ df=>(m5 b fun y=>df (by rw [y])).trans q,fun b o q bH=>⟨o.slots,(m5 b fun y=>gb (y ▸ bH)).trans q⟩,fun b o q=>?_⟩
  ⟨ne,vs,bE,_,_,(m5 x (c7 ne)).trans he,af,CA,Bo hd _,by simp [tI]⟩)
 by_cases ab:b=T
 .subst ab;exact ⟨_,CA⟩
 .exact ⟨o,(m5 b ab).trans q⟩
end
section
variable {P:Program} {w:World} {H:aq} {h h':Heap} {aQ:List Addr} {x C T:Addr} {a':Option Addr} {cb:Value} {q5:Option Addr} {o:ey}
theorem mS.a6 (k:mS aQ x q5 h h') (ok:dY P w H h) (R8:∀ b ∈ aQ,H b=none) (dc:∀ t,q5=some t->H t=none) (eO:lu (H x)) (new:f3 x C a' h'):dY P w (upd H x (.ext (f3 x C a'))) h':=fun b u q=>by
 have yM:∀ c y,H c=some (.own y)->c ≠ x:=fun c y r z=>by subst z;rw [r] at eO;exact eO
 have HP:∀ c xs,H c=some (.tup xs)->c ≠ x:=fun c xs r z=>by subst z;rw [r] at eO;exact eO
 have nB:∀ c v,c ≠ x->H c ≠ none->h.get? c=some v->h'.get? c=some v:=fun c v bH bQ r=>k.keep c v r (fun z=>bQ (R8 c z)) bH fun z=>bQ (dc c z.symm)
 by_cases ab:b=x
 .subst ab;rw [aS] at q;cases q;exact new.ok
 .rw [aX ab] at q;refine (ok b u q).kG (fun c v ar r=>?_) (fun c r=>by rw [aX (yM c b r)];exact r) fun c xs r=>by rw [aX (HP c xs r)];exact r
  rcases ar with rfl | ar
  .exact nB c v ab (by rw [q];exact fun z=>by cases z) r
  .exact nB c v (yM c b ar) (by rw [ar];exact fun z=>by cases z) r
theorem mS.un (k:mS aQ x q5 h h') (dc:∀ t,q5=some t->H t=none) (eO:lu (H x)):gq aQ q5.toList H (upd H x o) h h':=by
 have ak:∀ b,H b=none->b ≠ x:=fun b n z=>by subst z;rw [n] at eO;exact eO
 have hm:∀ b u,H b=some u->¬ lu (some u)->b ≠ x:=fun b u q nm z=>by subst z;rw [q] at eO;exact nm eO
 refine ⟨fun b u q n bH bQ=>k.keep b u q bH (ak b n) fun z=>bQ (by rw [<- z];simp),fun b u q n bH bQ=>k.slot b u q bH,fun b u q n _=>by rw [aX (ak b n)];exact n,fun b u q _=>k.there b u q,
  fun b xs q=>by rw [aX (hm b _ q fun z=>z)];exact q,fun b u xs q=>by rw [aX (hm b _ q fun z=>z)];exact q,fun b ps q=>⟨#[],by rw [aX (hm b _ q fun z=>z),q];simp⟩⟩
end
noncomputable def hr (P:Program) (w:World):hF:=fun outer H s E e s'=>
 ∃ x C a' I T,e=.ref x/\s'.os=s.os/\AllBare s'.gens/\gq (g_ outer) [] H I s.heap s'.heap/\dY P w I s'.heap/\I x=some (.ext (f3 x C a'))/\s.heap.objs.size <= T/\I T=none/\jH x C a' T .none s'.heap/\E (.ref C) a' I
def Kv (X:aP) (E:St->cZ):Prop:=∀ (aa:List (Addr × Obj)) (σ:St) (H:aq) (s:Shared) (x C:Addr) (a':Option Addr),Inv X aa σ H s->H x=some (.ext (e6 x C a'))->E σ (.ref C) a' (upd H x (.ext (f3 x C a')))->X.cK (.ref x) s
def Jf (CX:hF) (X:aP) (E:St->cZ):Prop:=∀ (aa:List (Addr × Obj)) (σ:St) (H:aq) (s:Shared) (e:Value) (s':Shared),Inv X aa σ H s->CX X.stack H s (E σ) e s'->X.cK e s'
structure k7 (X:aP):Prop where
 st:X.stack=X.env :: X.outer
 fr:X.env.frame=some X.env.locals
def vR (X:aP) (aa:List (Addr × Obj)) (T:Addr):Prop:=(T ∈ X.ex\/X.eA.heap.objs.size <= T)/\T ≠ X.env.locals/\(∀ x c,X.env.cells.lookup x=some c->c ≠ T)/\∀ p ∈ X.h8 ++ aa,p.1 ≠ T
def j9 (X:aP) (aa:List (Addr × Obj)) (E:St->cZ) (cb:Value) (e:Value) (s':Shared):Prop:=
 ∃ aL I x C a' T,e=.ref x/\Inv X aa aL I s'/\I x=some (.ext (f3 x C a'))/\I T=none/\vR X aa T/\jH x C a' T cb s'.heap/\E aL (.ref C) a' I
def H' (X:aP) (aa:List (Addr × Obj)) (E:St->cZ) (e:Value) (s':Shared):Prop:=
 ∃ aL I x C a',e=.ref x/\Inv X aa aL I s'/\I x=some (.ext (e6 x C a'))/\E aL (.ref C) a' (upd I x (.ext (f3 x C a')))
def nr (X:aP) (aa:List (Addr × Obj)) (E:St->cZ) (e:Value) (s':Shared):Prop:=H' X aa E e s'\/∃ cb,j9 X aa E cb e s'
def pP (X:aP) (E:St->cZ) (e:Value) (s':Shared):Prop:=∃ aa,nr X aa E e s'
section
variable {X:aP} {aa:List (Addr × Obj)} {σ:St} {H:aq} {s:Shared} {T x C:Addr} {a':Option Addr} {E:St->cZ} {M:Model} {A:Around} {uo:Value->Shared->Prop} {Q:Unit->Shared->Prop} {e cb:Value} {h':Heap}
theorem rY (J:Inv X aa σ H s) (dc:s.heap.objs.size <= T):vR X aa T:=by
 have lt:∀ {b:Addr} {o:Obj},s.heap.get? b=some o->b ≠ T:=fun q z=>by
  subst z;exact absurd (h2 (cW q) dc) (lM _)
 refine ⟨.inr (b8 J.gj dc),fun z=>?_,fun x c e=>?_,fun p ao=>lt (J.pin p ao).1⟩
 .obtain ⟨m,⟨o,aF,b5,aZ,_⟩,_⟩:=J.loc;exact lt aZ z.symm
 .obtain ⟨v,o,aZ,_⟩:=J.cell x c e;exact lt aZ
theorem KZ (J:Inv X aa σ H s) (k:mS (g_ X.stack) x (some T) s.heap h') (ex:H x=some (.ext (f3 x C a'))) (gC:H T=none) (gb:vR X aa T) (nZ:f3 x C a' h'):Inv X aa σ H { s with heap:=h' }:=by
 have eO:lu (H x):=by rw [ex];exact ko
 have z:∀ t,some T=some t->H t=none:=fun t z=>by cases z;exact gC
 have fm:=k.un (H:=H) (o:=.ext (f3 x C a')) z eO;have b1:=k.a6 J.a6 J.zc z eO nZ;rw [CR ex] at fm b1;exact J.p3 (s':={ s with heap:=h' }) (ch:=[T]) rfl fm b1 J.bare fun b ab=>by
  obtain rfl:b=T:=by simpa using ab
  exact gb
theorem R3 (F:k7 X) (J:Inv X aa σ H s) (k:mS (g_ (X.env :: X.outer)) x (some T) s.heap h') (ex:H x=some (.ext (f3 x C a'))) (gC:H T=none) (gb:vR X aa T) (nZ:f3 x C a' h'):Inv X aa σ H { s with heap:=h' }:=
 KZ J (by rw [F.st];exact k) ex gC gb nZ
theorem j9.note (F:k7 X) (q:j9 X aa E cb e s) (cf:¬ (cb == rawInt X.env.locals)=true) (h:∀ s',j9 X aa E (rawInt X.env.locals) e s'->Q () s'):wpAny M X.A (noteFrame e X.env) Q uo s:=by
 obtain ⟨σ,H,x,C,a',T,rfl,J,ex,gC,gb,f,w⟩:=q;have aQ:s.heap.FunFrames X.base (X.env :: X.outer):=by rw [<- F.st];exact J.stack
 exact NA (by rw [<- F.st];exact J.ok.frames) aQ F.fr F.fr f cf fun h' kE k dX pU=>h _ ⟨σ,H,x,C,a',kE,rfl,R3 F J k ex gC gb pU.nZ,ex,J.a6.fresh dX,rY J dX,pU,w⟩
theorem j9.X_ (F:k7 X) (q:j9 X aa E (rawInt X.env.locals) e s) (h:Q () s):wpAny M X.A (noteFrame e X.env) Q uo s:=by
 obtain ⟨σ,H,x,C,a',T,rfl,J,ex,gC,gb,⟨ne,vs,bE,lj,g0,he,af,dc,hd,br⟩,w⟩:=q;unfold noteFrame;simp only [F.fr];refine wpAny_bind (wpAny_field he rfl af ?_);rw [if_pos (show (de T != hg)=true from by simp)];refine wpAny_bind (wpAny_field dc hd br ?_);rw [if_pos (show (rawInt X.env.locals == rawInt X.env.locals)=true from by simp)];exact wpAny_pure h
theorem H'.note (F:k7 X) (q:H' X aa E e s) (h:∀ s',j9 X aa E (rawInt X.env.locals) e s'->Q () s'):wpAny M X.A (noteFrame e X.env) Q uo s:=by
 obtain ⟨σ,H,x,C,a',rfl,J,ex,w⟩:=q;have aQ:s.heap.FunFrames X.base (X.env :: X.outer):=by rw [<- F.st];exact J.stack
 obtain ⟨vs,bE,ak,d_,d5⟩:=(show dK X.prog X.w H s.heap x (.ext (e6 x C a')) from J.a6 _ _ ex).1;have eO:lu (H x):=by rw [ex];exact ko
 refine akc (by rw [<- F.st];exact J.ok.frames) aQ F.fr F.fr ak d5 fun h' T k dX f=>h _ ?_
 have z:∀ t,none=some t->H t=none:=fun t z=>by cases z
 have fm:=k.un (H:=H) (o:=.ext (f3 x C a')) z eO;have b1:=k.a6 J.a6 (by rw [<- F.st];exact J.zc) z eO f.nZ;rw [<- F.st] at fm;have bl:=J.p3 (s':={ s with heap:=h' }) (ch:=[]) rfl fm b1 J.bare fun b ab=>absurd ab (by simp)
 exact ⟨σ,_,x,C,a',T,rfl,bl,aS,by rw [aX f.1];exact J.a6.fresh dX,rY J dX,f,w⟩
theorem nr.note (F:k7 X) (q:nr X aa E e s) (h:∀ s',j9 X aa E (rawInt X.env.locals) e s'->Q () s'):wpAny M X.A (noteFrame e X.env) Q uo s:=by
 rcases q with q | ⟨cb,q⟩
 .exact q.note F h
 .by_cases c:(cb == rawInt X.env.locals)=true
  .rw [beq_iff_eq] at c;subst c;exact q.X_ F (h _ q)
  .exact q.note F c h
theorem j9.qv (F:k7 X) (o:Option Addr) (q:j9 X aa E cb e s) (h:∀ s',j9 X aa E (o.elim .none fun f=>rawInt f) e s'->Q () s'):wpAny M A (setFlight e o) Q uo s:=by
 obtain ⟨σ,H,x,C,a',T,rfl,J,ex,gC,gb,f,w⟩:=q;have aQ:s.heap.FunFrames X.base (X.env :: X.outer):=by rw [<- F.st];exact J.stack
 have jL:T ∉ g_ (X.env :: X.outer):=by
  obtain ⟨_,_,_,lj,g0,_,_,e,d,_⟩:=id f;exact wJ aQ e d
 exact L2.qv o f jL fun h' k pU=>h _ ⟨σ,H,x,C,a',T,rfl,R3 F J k ex gC gb pU.nZ,ex,gC,gb,pU,w⟩
theorem nr.leave (F:k7 X) (q:nr X aa E e s) (h:∀ s',j9 X aa E .none e s'->Q () s'):wpAny M X.A (leaving X.env e) Q uo s:=by
 unfold leaving;exact wpAny_bind (q.note F fun s' cS=>cS.qv F none h)
theorem Xe (F:k7 X):PassesOwn M X.A X.env (nr X aa E):=fun e s' q=>by
 refine q.note F fun s2 cA=>?_
 show wpAny _ _ _ _ _ _;obtain ⟨σ,H,x,C,a',T,rfl,J,ex,gC,gb,⟨ne,vs,bE,lj,g0,he,af,dc,hd,br⟩,w⟩:=id cA;refine wpAny_bind (wpAny_field he rfl af ?_);rw [if_neg (show ¬ (de T == hg)=true from by simp)];rw [F.fr];exact cA.qv F _ fun s3 eV=>.inr ⟨_,eV⟩
theorem DR (F:k7 X):PassesOwn M X.A X.env (pP X E):=fun e s' ⟨aa,q⟩=>by
 have z:=Xe (M:=M) F e s' q;refine wpAny_mono z (fun _ s2 cA=>?_) fun az s2 cA=>?_
 all_goals exact wpAny_mono cA (fun _ s3 eV=>⟨aa,eV⟩) fun bW s3 eV=>⟨aa,eV⟩
theorem afG:Kv (X.dV (pP X E)) E:=fun aa σ H s x C a' J ex q=>⟨aa,.inl ⟨σ,H,x,C,a',rfl,J.jO,ex,q⟩⟩
theorem ZZ {E0:cZ} (J:Inv X aa σ H s) (aB:hr X.prog X.w X.stack H s E0 e s') (h:∀ C a' I,E0 C a' I->E σ C a' I):nr X aa E e s':=by
 obtain ⟨x,C,a',ay,T,rfl,os,bare,un,a6,ex,dc,gC,cb,q⟩:=aB;exact .inr ⟨_,σ,ay,x,C,a',T,rfl,J.p3 os un a6 bare (fun b z=>absurd z (by simp)),ex,gC,rY J dc,cb,h _ _ _ q⟩
end
theorem B1 {X:aP} {E:cZ}:ly (hr X.prog X.w) (X.dV (pP X fun _=>E)) E:=fun aa σ H s e s' J aB=>⟨aa,ZZ J.jO aB fun _ _ _ z=>z⟩
theorem agu {X:aP} {E:cZ}:Kv (X.dV (pP X fun _=>E)) (fun _=>E):=afG
section
variable {P:Program} {w:World} {K:a4} {ah:Str->Option Value} {base:Heap} {N:List Str} {qual:Str} {scope:Scope} {f:Addr} {cd:Value} {A:Around} {outer:List Env} {s:Shared} {H:aq} {E:cZ}
theorem ae0 {e:Value} (q:pP (mE (hr P w) P w K ah base N qual scope f cd A outer s H E) (fun _=>E) e s'):(mE (hr P w) P w K ah base N qual scope f cd A outer s H E).cK e s':=by
 obtain ⟨aa,q⟩:=q;refine q.leave ⟨rfl,rfl⟩ fun s2 cA=>?_
 obtain ⟨σ,ay,x,C,a',T,rfl,J,ex,gC,gb,cb,q⟩:=cA;refine ⟨x,C,a',ay,T,rfl,J.os,J.bare,J.base,J.a6,ex,?_,gC,cb,q⟩;rcases gb.1 with z | z
 .exact absurd z (by show T ∉ ([]:List Addr);simp)
 .exact z
end
noncomputable def K0 (C:Addr) (m:Str) (sp:bI) (dvs:List V) (E:St->cZ) (aV:TE) (t:d2):TE:=fun σ H Q=>aV σ H fun x H1=>∃ a au aQ,x=.ref a/\H1 a=some (.ins C au aQ)/\aQ.lookup m=none /\
 t σ H1 fun vs ay=>sp (x :: (vs ++ dvs)) ay Q (E σ)
section
variable {X:aP} {CX:hF} {k:Nat} {f C:Addr} {fd:FuncData} {ps:List Str} {sp:bI} {dvs:List V} {ds:List Value} {E:St->cZ} {x m:Str} {p pos eB:Pos} {e o:Expr} {aF:List Expr} {aV:TE} {t:d2}
theorem afL (F:bt X.prog X.w X.K X.ah X.base CX k f fd ps sp) (av:eh k X.A) (ab:bZ X.K fd ps ds) (hd:bN dvs ds) (ak:Jf CX X E)
  (J:Inv X aa σ H s) (r:bN vs us) (h:sp (vs ++ dvs) H Q (E σ)):wpAny (model X.prog X.w) X.A (call (.ref f) us) (fS X aa σ Q) X.cK s:=by
 have cw:bN (vs ++ dvs) (us ++ ds):=r.append hd;have ax:(us ++ ds).length=ps.length:=by rw [<- cw.length];exact F.len _ _ _ _ h
 refine wpAny_call (codeAny_mono (F.run X.A X.stack s H ⟨us,[]⟩ (us ++ ds) (vs ++ dvs) Q (E σ) av J.AW (ab s us J.ep ax) cw h) fun r s' aB=>?_);rcases r with e | (u | _ | _ | _)
 .exact ak aa σ H s e s' J aB
 all_goals first | exact J.after aB | exact jI aB
theorem ab9 (he:bk X o aV) (c:et X.K C) (hm:ed X.K C m f) (F:bt X.prog X.w X.K X.ah X.base CX k f fd ps sp) (av:eh k X.A) (ab:bZ X.K fd ps ds) (hd:bN dvs ds) (ak:Jf CX X E) (aO:ei X (e :: aF) t)
  (fE:starEach (e :: aF) X.env=(false,eval e X.env) :: starEach aF X.env:=by rfl) (eE:(backTo pos (starEach aF X.env)).any (·.1)=false:=by rfl)
  (cR:eval (.Call (.Attribute o m eB) (e :: aF) [] pos) X.env=(do
   let dx <- eval o X.env
   standAt eB.atName
   let (f,first) <- holding [dx] (getMethod dx m pl)
   callWith pos f first (backTo pos (starEach (e :: aF) X.env)) (backToKw pos (keywordEach [] X.env))):=by rfl) :
  bk X (.Call (.Attribute o m eB) (e :: aF) [] pos) (K0 C m sp dvs E aV t):=by
 intro aa s σ H Q J h;refine wh (pl:=pl) (bq (he aa s σ H _ J h) fun u s1 b0=>?_) cR;obtain ⟨x,H1,aK,bg,a,au,aQ,ex,cP,l,q⟩:=b0;subst ex;obtain rfl:u=de a:=bg;refine ze aK cP c hm l (xl (first:=[.ref a]) (h₀:=X.base) J.ok.mod.o4 hm.bh (bq (aO pos aa s1 σ H1 _ aK q) fun us s2 ⟨vs,ay,bl,r,cA⟩=>⟨bl.ep,?_⟩) fE eE);exact afL (us:=.ref a :: us) (vs:=.ref a :: vs) F av ab hd ak bl (.cons rfl r) cA
end
noncomputable abbrev aP.h5 (X:aP) (h8:List (Addr × Obj)) (E:Value->Shared->Prop):aP:={ X with h8:=X.h8 ++ h8,cK:=E }
noncomputable abbrev aP.aH (X:aP) (e:Value):aP:={ X with A:=X.A.mark (some e),calm:=false,cK:=fun _ _=>False }
section
variable {X:aP} {aa pC:List (Addr × Obj)} {σ:St} {H:aq} {s:Shared} {E:Value->Shared->Prop} {e:Value}
theorem aP.Ok.h5 (ok:X.Ok) (h8:List (Addr × Obj)) (E:Value->Shared->Prop):(X.h5 h8 E).Ok:=
 ⟨ok.mod,ok.kind,ok.glob,ok.blt,ok.above,ok.inj,ok.has,ok.oz,ok.hd,ok.frames,ok.o3,ok.tN,ok.bs,ok.jq,ok.oF,ok.nF,ok.iD,ok.kc⟩
theorem aP.Ok.m3 {h8:List (Addr × Obj)} (ok:(X.h5 h8 E).Ok):X.Ok:=
 ⟨ok.mod,ok.kind,ok.glob,ok.blt,ok.above,ok.inj,ok.has,ok.oz,ok.hd,ok.frames,ok.o3,ok.tN,ok.bs,ok.jq,ok.oF,ok.nF,ok.iD,ok.kc⟩
theorem aP.Ok.aH (ok:X.Ok) (e:Value):(X.aH e).Ok:=
 ⟨ok.mod,ok.kind,ok.glob,ok.blt,ok.above,ok.inj,ok.has,ok.oz,(fun z=>Bool.noConfusion z),ok.frames,ok.o3,ok.tN,ok.bs,ok.jq,ok.oF,ok.nF,ok.iD,ok.kc⟩
theorem Inv.h5 (J:Inv X aa σ H s) (E:Value->Shared->Prop):Inv (X.h5 aa E) [] σ H s:=⟨J.ok.h5 aa E,J.os,J.bare,J.base,J.loc,J.cell,J.free,J.iK,fun p ao=>J.pin p (by simpa using ao),J.a6,J.len⟩
theorem Inv.m3 (J:Inv (X.h5 aa E) pC σ H s):Inv X aa σ H s:=⟨J.ok.m3,J.os,J.bare,J.base,J.loc,J.cell,J.free,J.iK,fun p ao=>J.pin p (sM _ ao),J.a6,J.len⟩
theorem Inv.aH (J:Inv X aa σ H s) (e:Value):Inv (X.aH e) aa σ H s:=⟨J.ok.aH e,J.os,J.bare,J.base,J.loc,J.cell,J.free,J.iK,J.pin,J.a6,J.len⟩
theorem Inv.CU (ok:X.Ok) (J:Inv (X.aH e) aa σ H s):Inv X aa σ H s:=⟨ok,J.os,J.bare,J.base,J.loc,J.cell,J.free,J.iK,J.pin,J.a6,J.len⟩
theorem fi.m3 (h:fi (X.h5 aa E) pC D f s'):fi X aa D f s':=by
 cases f with
 | next=>obtain ⟨aL,I,J,q⟩:=h;exact ⟨aL,I,J.m3,q⟩
 | brk=>obtain ⟨aL,I,J,q⟩:=h;exact ⟨aL,I,J.m3,q⟩
 | cont=>obtain ⟨aL,I,J,q⟩:=h;exact ⟨aL,I,J.m3,q⟩
 | ret u=>obtain ⟨v,aL,I,J,r,q⟩:=h;exact ⟨v,aL,I,J.m3,r,q⟩
end
theorem akv {X:aP} {aa:List (Addr × Obj)} {E:St->cZ}:Jf (hr X.prog X.w) (X.h5 aa (nr X aa E)) E:=by
 intro pC σ H s e s' J aB;obtain ⟨x,C,a',ay,T,rfl,os,bare,un,a6,ex,dc,gC,cb,q⟩:=aB;have bl:=J.p3 os un a6 bare (fun b z=>absurd z (by simp));exact .inr ⟨_,σ,ay,x,C,a',T,rfl,bl.m3,ex,gC,rY J.m3 dc,cb,q⟩
theorem CL {A:Around} (J:Inv X aa σ H s) (bx:X.N.Nodup) (aj:X.N[i]? = some n)
  (ax:X.env.scope.names.lookup n=some .local) (h:∀ s',Inv X aa (σ.set i none) H s'->Q () s'):wpAny (model X.prog X.w) A (do bindName X.env n .none;unbindBehindTheSuite X.env n pos) Q E s:=by
 have vE:i < σ.length:=by rw [J.len];exact (cV.mp aj).1
 refine wpAny_bind (wpAny_bindName (w1 J bx aj (.inl ax) (v:=.bT) (u:=.none) rfl (fun s1 aK=>?_) (.inr ax)));obtain ⟨m,aH,BV⟩:=aK.loc;have aJ:X.env.kindOf n=some .local:=ax;obtain ⟨u,dD,lk⟩:=BV i n .bT aj (Js vE) (.inl ax);have aep:(m n).isSome=true:=by
  rcases lk with ⟨_,e⟩ | ⟨k,_⟩
  .rw [e];rfl
  .rcases k with k | k <;> (rw [aJ] at k;cases k)
 have ao:(X.env.scope.kind == .class || (X.env.scope.kind == .module && X.env.locals != X.env.globals))=false:=by rw [J.ok.kind];rfl
 unfold unbindBehindTheSuite;refine wpAny_onRaise ?_;unfold unbindName;refine wpAny_bind (wpAny_point (wpAny_bind ?_));unfold deleteName;simp only [aJ,ao];rw [if_neg (by decide)];refine wpAny_bind (wpAny_nsDel_keeps aH fun ai v2 o' aG=>?_);rw [aep];refine wpAny_pure (wpAny_point (h _ ?_));have uP:∀ b o,X.eA.heap.get? b=some o->b ≠ X.env.locals:=fun b o e=>eb (h2 (cW e) aK.ok.above)
 refine ⟨aK.ok,aK.os,aK.bare,⟨fun b o e h1 ab ak=>(aG.2 b (uP b o e)).trans (aK.base.keep b o e h1 ab ak),fun b o e h1 ab ak=>?_,aK.base.free,fun b o e ak=>?_,aK.base.lZ,aK.base.ki,aK.base.mc⟩,⟨_,o',fun j y v aw az bW=>?_⟩,fun y c e=>?_,aK.free,aK.iK,fun p ao=>?_,fun b gJ e=>?_,by simpa using J.len⟩
 .obtain ⟨bE,aw⟩:=aK.base.slot b o e h1 ab ak;exact ⟨bE,(aG.2 b (uP b o e)).trans aw⟩
 .obtain ⟨cM,aw⟩:=aK.base.there b o e ak;exact ⟨cM,(aG.2 b (uP b o e)).trans aw⟩
 .by_cases bf:j=i
  .subst bf;rw [Js vE] at az;cases az
  .rw [Jq (c7 bf)] at az;obtain ⟨gJ,d1,q⟩:=BV j y v aw (by rw [Jq (c7 bf)];exact az) bW;refine ⟨gJ,d1,?_⟩;rcases q with ⟨k,e⟩ | ⟨k,c,e,z⟩
   .refine .inl ⟨k,?_⟩;have:y ≠ n:=fun e=>bf (HR bx aw (e ▸ aj))
    simp [this,e]
   .exact .inr ⟨k,c,e,z.sameBut aG (aK.oP y c e)⟩
 .obtain ⟨dX,z⟩:=aK.cell y c e;exact ⟨dX,z.sameBut aG (aK.oP y c e)⟩
 .obtain ⟨e,h1,ne,jL,d⟩:=aK.pin p ao;exact ⟨(aG.2 p.1 ne).trans e,h1,ne,jL,d⟩
 .have aeA:∀ c,H c ≠ none->c ≠ X.env.locals:=fun c q z=>q (by rw [z];exact aK.free)
  refine (aK.a6 b gJ e).kG (fun c v ar q=>(aG.2 c (aeA c ?_)).trans q) (fun _ q=>q) fun _ _ q=>q
  rcases ar with rfl | ar
  .rw [e];exact fun z=>by cases z
  .rw [ar];exact fun z=>by cases z
noncomputable def gz.gone (D:gz) (i:Nat):gz:={ cg:=fun σ H=>D.cg (σ.set i none) H,kV:=D.kV,cq:=fun σ H=>D.cq (σ.set i none) H,e9:=fun σ H=>D.e9 (σ.set i none) H }
noncomputable def HY (K:a4) (c:Addr) (i:Nat) (iU:dz) (D:gz):St->cZ:=fun σ C a' H=>∃ k8,C=.ref k8/\Ab K C (.ref c)=some true/\∀ x,H x=some (.ext (f3 x k8 a'))->iU (D.gone i) (σ.set i (some (.ref x))) H
noncomputable def JA (K:a4) (c:Addr) (i:Nat) (ct:(St->cZ)->dz) (iU:dz):dz:=fun D σ H=>ct (HY K c i iU D) D σ H
section
variable {X:aP} {body Bq:List Stmt} {ua:Stmt} {x n:Str} {c:Addr} {i:Nat} {ct:(St->cZ)->dz} {iU:dz} {TH ao pos:Pos}
theorem aaB (ab:∀ aa E,f_ (X.h5 aa (nr X aa E)) body (ct E)) (bj:hn X x) (hm:X.ah x=some (.ref c)) (cQ:∀ e,f_ (X.aH e) (ua :: Bq) iU) (bx:X.N.Nodup) (aj:X.N[i]? = some n)
  (ax:X.env.scope.names.lookup n=some .local) (F:k7 X:=by exact ⟨rfl,rfl⟩) (fc:(x == ("__debug__" : Str))=false:=by decide) :
  e2 X (.Try body [.ExceptHandler (some (.Name x TH)) (some n) (ua :: Bq) ao] [] [] pos) (JA X.K c i ct iU):=by
 intro aa s σ H D J h;refine wpAny_Try_except (wpAny_mono (ab aa _ [] s σ H D (J.h5 _) h) (fun f s1 q=>?_) fun e s1 q=>?_)
 .have cS:=q.m3;cases f with
  | next=>exact wpAny_execs_nil cS
  | brk=>exact cS
  | cont=>exact cS
  | ret u=>exact cS
 .refine q.note F fun s2 cA=>cA.qv F none fun s3 eV=>?_
  obtain ⟨jt,H1,a,C,a',T,rfl,bl,cP,gC,gb,cb,k8,GH,em,w⟩:=id eV;cases GH;refine wpAny_handleBy_cons (codeAny_handlers_test (nX (bl.aH (.ref a)) bj hm ?_ fc)) (fun z=>by cases z);have LT:I5 (model X.prog X.w) s3.heap (typeOf (.ref a)) (.ref C):=by
   obtain ⟨vs,bE,e⟩:=cb.nZ;exact (alj e).andThen .now
  refine (PySem.W.exm_one bl.ep LT em).here ?_;rw [if_pos rfl];refine codeAny_handlers_suite_as (eV.qv F none fun s4 lX=>?_)
  .obtain ⟨jt,H1,t4,C,a',T,EN,dA,cP,gC,gb,cb,k8,GH,em,w⟩:=lX;cases GH;cases EN;refine w1 (X:=X.aH (.ref a)) (dA.aH (.ref a)) bx aj (.inl ax) (v:=.ref a) (u:=.ref a) rfl (fun s5 fT=>?_) (.inr ax);refine wpAny_mono (cQ (.ref a) aa s5 _ H1 (D.gone i) fT (w a cP)) (fun f s5 yB=>?_) fun _ _ z=>jI z
   cases f with
   | next=>obtain ⟨aL,I,b4,q⟩:=yB;exact CL (b4.CU J.ok) bx aj ax fun e5 kx=>⟨_,_,kx,q⟩
   | brk=>obtain ⟨aL,I,b4,q⟩:=yB;exact CL (b4.CU J.ok) bx aj ax fun e5 kx=>⟨_,_,kx,q⟩
   | cont=>obtain ⟨aL,I,b4,q⟩:=yB;exact CL (b4.CU J.ok) bx aj ax fun e5 kx=>⟨_,_,kx,q⟩
   | ret u=>obtain ⟨v,aL,I,b4,r,q⟩:=yB;exact CL (b4.CU J.ok) bx aj ax fun e5 kx=>⟨v,_,_,kx,r,q⟩
end
theorem aen {x n:Str} (ab:∀ aa E,∃ t,f_ (X.h5 aa (nr X aa E)) body t/\t=ct E) (bj:hn X x) (hm:X.ah x=some (.ref c))
  (cQ:∀ e,∃ t,f_ (X.aH e) (ua :: Bq) t/\t=iU) (bx:X.N.Nodup) (aj:X.N[i]? = some n) (ax:X.env.scope.names.lookup n=some .local) (F:k7 X:=by exact ⟨rfl,rfl⟩)
  (fc:(x == ("__debug__" : Str))=false:=by decide):e2 X (.Try body [.ExceptHandler (some (.Name x TH)) (some n) (ua :: Bq) ao] [] [] pos) (JA X.K c i ct iU):=
 aaB (fun aa E=>by obtain ⟨t,h,rfl⟩:=ab aa E;exact h) bj hm (fun e=>by obtain ⟨t,h,rfl⟩:=cQ e;exact h) bx aj ax F fc
theorem Ln (K:a4):JA K c i ct iU D σ H=ct (HY K c i iU D) D σ H:=rfl
theorem Nv (K:a4) :
  HY K c i iU D σ C a' H = ∃ k8,C=.ref k8/\Ab K C (.ref c)=some true/\∀ x,H x=some (.ext (f3 x k8 a'))->iU (D.gone i) (σ.set i (some (.ref x))) H:=rfl
theorem K7 (D:gz) (i:Nat) (σ:St) (H:aq):(D.gone i).cg σ H=D.cg (σ.set i none) H:=rfl
theorem OU (D:gz) (i:Nat) (v:V) (H:aq):(D.gone i).kV v H=D.kV v H:=rfl
theorem OwnTail.has {h:Heap} {bm dp:List Value} (T:OwnTail h bm dp) (e:bm.contains v=true):dp.contains v=true:=by
 induction T with
 | base=>exact e
 | own _ _ _ _ a_=>rw [y1,a_,IK]
noncomputable def C' (K:a4) (E:St->cZ) (bo:TE):dz:=fun D σ H=>bo σ H fun v H1=>∃ x C a',v=.ref x/\H1 x=some (.ext (e6 x C a'))/\lN K C/\E σ (.ref C) a' (upd H1 x (.ext (f3 x C a')))
theorem Vb {A:Around} {env:Env} {x:Sem Value} (cQ:A.handled=none)
  (h:wpAny M A x (fun v s1=>∃ e C a' vs bE nm q N bs bm LC sn sub ng col dU nI b1 iw jh m8 newId,v=.ref e/\bm.contains (.type "BaseException")=true /\
   s1.heap.get? C=some (excClassObj nm q C N bs bm LC sn sub ng col dU nI b1 iw jh m8 newId)/\s1.heap.get? e=some ⟨.ref C,a',.fields vs,bE⟩/\vs[1]? = some .none/\E (.ref e) s1) E s) :
  wpAny M A (raiseStmt env (some x) none) Q E s:=by
 unfold raiseStmt;refine wpAny_bind (wpAny_mono h (fun v s1 af=>?_) fun _ _ x=>x);obtain ⟨e,C,a',vs,bE,nm,q,N,bs,bm,LC,sn,sub,ng,col,dU,nI,b1,iw,jh,m8,newId,rfl,ab,cB,he,af,iv⟩:=af;have aa6:(de C :: bm).contains (.type "BaseException")=true:=by rw [y1,ab,IK]
 obtain ⟨ao,g,d,cG,os⟩:=s1
 repeat (first | with_reducible refine wpAny_loadPart_at he ?_ | with_reducible refine wpAny_loadPart_at cB ?_ | (with_reducible refine wpAny_isSubtype_exc cB ?_;rw [aa6]) | (with_reducible refine wpAny_field he rfl af ?_) | wp_step)
 exact wpAny_raiseNew_none cQ iv
section
variable {X:aP} {e:Expr} {bo:TE} {pos:Pos} {E:St->cZ}
theorem Zo (he:bk X e bo) (dc:Kv X E) (ar:X.calm=true:=by rfl):e2 X (.Raise (some e) none pos) (C' X.K E bo):=by
 intro aa s σ H D J h;rw [arm_exec_Raise];refine wpAny_bind (wpAny_standAt (Vb (J.ok.hd ar) ?_));refine wpAny_bind (bq (he aa s σ H _ J h) fun u s1 ⟨v,H1,aK,r,x,C,a',ev,ex,c,q⟩=>wpAny_bind (wpAny_standAt (wpAny_pure ?_)));subst ev;obtain rfl:u=de x:=r;obtain ⟨vs,bE,ak,d_,d5⟩:=(show dK X.prog X.w H1 s1.heap x (.ext (e6 x C a')) from aK.a6 _ _ ex).1;obtain ⟨fI,J3⟩:=c.ex;obtain ⟨dp,N,nm,cS,bs,sn,sub,ng,co,dU,nI,b1,iw,jh,m8,r0,cB,bx,aj,T⟩:=Ix aK.ep J3;exact ⟨x,C,a',vs,bE,nm,cS,N,bs,dp,true,sn,sub,ng,co,dU,nI,b1,iw,jh,m8,_,rfl,L2.OwnTail.has T (by decide),cB,ak,d5,dc aa σ H1 s1 x C a' aK ex q⟩
end
theorem a7.uD {w:World} {K:a4} {ah:Str->Option Value} {base:Heap} {x qual:Str} {st:Stmt} {fd:FuncData} {N ps:List Str} {k:Nat} (F:a7 K x qual st f fd) (S:b9 N ps (bG st))
  (len:∀ vs H Q E,sp vs H Q E->vs.length=ps.length)
  (wu:∀ (e7:Value) (A:Around) (outer:List Env) (s:Shared) (H:aq) (vs:List V) (Q:cc) (E:cZ),eh k (A.deeper (envOfC qual (bG st) s.heap.objs.size f e7))->sp vs H Q E ->
   ∃ t,f_ ((mE (hr P w) P w K ah base N qual (bG st) f e7 A outer s H E).dV (pP (mE (hr P w) P w K ah base N qual (bG st) f e7 A outer s H E) fun _=>E)) (tX st) t/\t { cg:=fun _ I=>Q .bT I,kV:=Q } (start N vs) H):bt P w K ah base (hr P w) (k + 1) f fd ps sp:=by
 obtain ⟨mT,a',dO,doc,pm,an,e7,e9,qC,rfl,lk,kL⟩:=F.ex;refine Oy lk kL S len fun A outer s H vs Q E av hU=>?_
 obtain ⟨t,h,q⟩:=wu e7 A outer s H vs Q E av hU;exact ⟨t,fun aa s1 σ H1 D J hw=>wpAny_mono (h aa s1 σ H1 D (J.dV _) hw) (fun _ _ q=>q.jO) fun _ _ z=>ae0 z,q⟩
def hE (B:aP) (E:cZ) (e:Value) (s':Shared):Prop:=
 ∃ aa cb aL I x C a' T,e=.ref x/\Inv B aa aL I s'/\I x=some (.ext (f3 x C a'))/\I T=none/\vR B aa T/\B.eA.heap.objs.size <= T/\jH x C a' T cb s'.heap/\E (.ref C) a' I
theorem ace {B:aP} {E:cZ}:ly (hr B.prog B.w) (B.dV (hE B E)) E:=fun aa σ H s e s' J aB=>by
 obtain ⟨x,C,a',ay,T,rfl,os,bare,un,a6,ex,dc,gC,cb,q⟩:=aB;exact ⟨aa,_,σ,ay,x,C,a',T,rfl,J.jO.p3 os un a6 bare (fun b z=>absurd z (by simp)),ex,gC,rY J.jO dc,b8 J.jO.gj dc,cb,q⟩
def Hx (X:aP) (E:St->cZ):Prop:=∀ aa cb e s',j9 X aa E cb e s'->X.cK e s'
theorem abW {X:aP} {E:St->cZ}:Hx (X.dV (pP X E)) E:=fun aa cb e s' ⟨σ,H,x,C,a',T,af,J,r⟩=>⟨aa,.inr ⟨cb,σ,H,x,C,a',T,af,J.jO,r⟩⟩
theorem adK {X:aP} {E:cZ}:Hx (X.dV (pP X fun _=>E)) (fun _=>E):=abW
structure PP (X:aP) (scope:Scope) (N:List Str) (cz elt:Expr) (ifs:List Expr) (g:e1) (cu:TT) (bo:cZ->TE):Prop where
 J8:∀ E C s H a9,lB ((X.block scope C N s H a9).dV (hE (X.block scope C N s H a9) E)) cz g
 tests:∀ E C s H a9,u7 ((X.block scope C N s H a9).dV (hE (X.block scope C N s H a9) E)) ifs cu
 elem:∀ E C s H a9,bk ((X.block scope C N s H a9).dV (hE (X.block scope C N s H a9) E)) elt (bo E)
theorem PP.of {N:List Str} (af:∀ E C s H a9,lB ((X.block scope C N s H a9).dV (hE (X.block scope C N s H a9) E)) cz g)
  (ai:∀ E C s H a9,∃ t,u7 ((X.block scope C N s H a9).dV (hE (X.block scope C N s H a9) E)) ifs t/\t=cu) (br:∀ E C s H a9,∃ t,bk ((X.block scope C N s H a9).dV (hE (X.block scope C N s H a9) E)) elt t/\t=bo E):PP X scope N cz elt ifs g cu bo:=
 ⟨af,fun E C s H a9=>by obtain ⟨t,h,rfl⟩:=ai E C s H a9;exact h,fun E C s H a9=>by obtain ⟨t,h,e⟩:=br E C s H a9;rw [<- e];exact h⟩
theorem acC {prog:Program} {w:World} {A:Around} {R:Result->Shared->Prop} {s:Shared} {elt ny iter:Expr} {ifs:List Expr} {scope:Scope} {pos:Pos} {it acc:Value} {env:Env} {EB:Value->Shared->Prop} (J:Nat->Shared->Prop) (iv:∀ x s,EB x s->notedBy (model prog w) A env (fun x s'=>R (.error x) s') x s)
  (turn:∀ n s,J n s->wpAny (model prog w) A (pyNext it) (fun r cN=>match r with
   | none=>R (.ok .next) cN
   | some v=>wpAny (model prog w) A (letOwnedTupleGo ny it v) (fun _ eA=>wpAny (model prog w) A (assign ny env v) (fun _ bP=>
     wpAny (model prog w) A (forIn ifs true fun c r=>if r=true then do let ok <- isTrue c env (eval c env);pure (rF ok) else pure (rF r)) (fun ok gv=>
      if ok=true then wpAny (model prog w) A (eval elt env) (fun x nQ=>
       wpAny (model prog w) A (call (.builtin "list.append") [acc,x]) (fun _ wQ=>∃ m,m < n/\J m wQ) EB nQ) EB gv
      else ∃ m,m < n/\J m gv) EB bP) EB eA) EB cN) EB s)
  (n:Nat) (h:J n s) :
  codeAny (model prog w) A (.compLoop (.ListComp elt [⟨ny,iter,ifs,0⟩] scope pos) 0 it acc env) R s:=by
 refine codeAny_loop rfl J (fun n s rz=>?_) n h;show wpAny _ A ((compTurn (.ListComp elt [⟨ny,iter,ifs,0⟩] scope pos) 0 it acc env).onRaise (fun x=>do noteFrame x env;theTreesLotGoes x)) _ _ s;refine wpAny_noted (wpAny_mono (E:=EB) ?_ (fun _ _ z=>z) iv);rw [compTurn_list];refine wpAny_bind (wpAny_standAt (wpAny_bind (wpAny_mono (turn n s rz) (fun r cN h₁=>?_) fun _ _ h'=>h')));cases r with
 | none=>exact wpAny_pure h₁
 | some v=>
  refine wpAny_bind (wpAny_mono h₁ (fun _ eA h₀=>?_) fun _ _ h'=>h');refine wpAny_bind (wpAny_mono h₀ (fun _ bP sd=>wpAny_bind (wpAny_mono sd (fun ok gv rd=>?_) fun _ _ h'=>h')) fun _ _ h'=>h');cases ok with
  | false=>exact wpAny_pure ⟨rfl,rd⟩
  | true=>
   exact wpAny_bind (wpAny_bind (wpAny_mono rd (fun x nQ Fj=>wpAny_bind (wpAny_mono Fj (fun _ wQ Gk=>wpAny_pure (wpAny_pure ⟨rfl,Gk⟩)) fun _ _ h'=>h')) fun _ _ h'=>h'))
def aeC (b4:hJ) (g:e1) (cu:TT) (bo:TE) (cI:St) (Q:cc) (H:aq):Prop:=∃ W:Nat->Nat->List V->aq->Prop,(∃ m,W 0 m [] H)/\oL b4 g cu bo cI Q W
noncomputable def SO (ek:TI) (g:e1) (cu:TT) (bo:cZ->TE) (sel:List (Option Nat)) (E:St->cZ):TE:=fun σ H Q=>ek σ H fun b4 H1=>aeC b4 g cu (bo (E σ)) (hP sel σ) Q H1
section
variable {X:aP} {elt cz iter:Expr} {ifs:List Expr} {scope:Scope} {pos:Pos} {ek:TI} {g:e1} {cu:TT} {bo:cZ->TE} {N:List Str} {sel:List (Option Nat)}
theorem XO {aa:List (Addr × Obj)} {bP:Shared} {σ:St} {c8:aq} {Q:cc} {it:Addr} {a9:List Addr} {du:Nat->Heap->Prop} {b4:hJ} {W:Nat->Nat->List V->aq->Prop} {E:Value->Shared->Prop} {RR:Value->Addr->Result->Shared->Prop} {E0:cZ}
  (ar:X.calm=true) (S:nH X.env scope) (lp:q7 X.N scope N sel) (B:PP X scope N cz elt ifs g cu bo) (bl:Inv X aa σ c8 bP) (T:l6 X.prog X.w X.K cz b4 a9 it du) (kp:du 0 bP.heap) (f2:∀ b ∈ a9,gm X aa c8 b)
  (hY:∃ m,W 0 m [] c8) (hh:oL b4 g cu (bo E0) (hP sel σ) Q W)
  (fin:∀ D C ys I s',Inv X aa σ (upd I D (.lst ys)) s'->(∃ m,s'.heap.Ns C m)->gm X aa (upd I D (.lst ys)) C->Q (.ref D) (upd I D (.lst ys))->RR (.ref D) C (.ok .next) s')
  (YU:∀ D C e s',bP.heap.objs.size <= C->hE (X.block scope C N bP c8 a9) E0 e s'->notedBy (model X.prog X.w) X.A (compEnvC scope (gS X.env.cells scope.names []) C X.env) (fun x oM=>RR (.ref D) C (.error x) oM) e s') :
  wpAny (model X.prog X.w) X.A (newList []) (fun acc gv=>wpAny (model X.prog X.w) X.A (newFunctionEnv scope X.env.globals (gS X.env.cells scope.names []) [] X.env.qual none .none (some X.env)) (fun uR nQ=>
   codeAny (model X.prog X.w) X.A (.compStart (.ListComp elt [⟨cz,iter,ifs,0⟩] scope pos) 0 (.ref it) acc { uR with scope:=relabel scope X.env }) (RR acc uR.locals) nQ) E gv) E bP:=by
 refine wpAny_newObj_type (wpAny_newFunctionEnv S.yL (by intro y aT;simp at aT) (fun h₁ rQ n9=>?_) S.kind);dsimp only at rQ n9 ⊢;generalize ll:bP.heap.push { cls:=.type "list",dict:=none,data:=.seq ([]:List Value).toArray }=ay at rQ n9 ⊢;have cB:ay.objs.size=bP.heap.objs.size + 1:=by rw [<- ll,wV]
 have mN:bP.heap.objs.size ≠ ay.objs.size:=by rw [cB];exact eb (xv _)
 have oB:bP.heap.objs.size <= ay.objs.size:=by rw [cB];exact vb _
 have below:∀ b,b < bP.heap.objs.size->b ≠ ay.objs.size/\b ≠ bP.heap.objs.size:=fun b ab=>⟨by rw [cB];exact eb (AJ ab),eb ab⟩
 have old:∀ b o,bP.heap.get? b=some o->h₁.get? b=some o:=fun b o e=>n9.extBut b o (below b (cW e)).1 (c6 _ (ll ▸ c6 _ e))
 have xe:h₁.get? bP.heap.objs.size=some { cls:=.type "list",data:=.seq ([]:List Value).toArray }:=n9.extBut _ _ mN (c6 _ (ll ▸ en _ rfl));have mm:∀ b ∈ a9,b < bP.heap.objs.size:=fun b ab=>by
  obtain ⟨o,e,_⟩:=T.obj _ _ kp b ab;exact cW e
 generalize WS:ay.objs.size=C at *;generalize g4:bP.heap.objs.size=D at *;have wL:du 0 h₁:=T.keep _ _ _ kp fun b _ o e=>old b o e
 have GQ:Inv (X.block scope C N bP c8 a9) [] (hP sel σ) c8 { bP with heap:=h₁,toks:=bP.toks + ([]:List (Str × Value)).length }:=
  Pw bl S f2 (fun b ab=>by rw [g4];exact mm b ab) (by rw [g4];exact oB) old rQ lp
 have q0:D ∉ (X.block scope C N bP c8 a9).aQ:=fun z=>by
  have dk:=bl.vK D z;rcases cX.mp dk with e | e
  .exact absurd bl.lt (by rw [<- e,g4];exact lM _)
  .exact bl.Ie (by rw [g4];exact bu _) e
 have loop:∀ gv:Shared,gv = { bP with heap:=h₁,toks:=bP.toks + ([]:List (Str × Value)).length } ->
   codeAny (model X.prog X.w) X.A (.compLoop (.ListComp elt [⟨cz,iter,ifs,0⟩] scope pos) 0 (.ref it) (.ref D) (compEnvC scope (gS X.env.cells scope.names []) C X.env)) (RR (.ref D) C) gv:=by
  rintro gv rfl;obtain ⟨m0,hY⟩:=hY;refine acC (EB:=hE (X.block scope C N bP c8 a9) E0) (fun k s'=>∃ i ys us n I,Inv ((X.block scope C N bP c8 a9).dV (hE (X.block scope C N bP c8 a9) E0)) [(D,{ cls:=.type "list",data:=.seq us n })] (hP sel σ) I s'/\(∃ vs:List Value,us=vs.toArray/\bN ys vs)/\ys.length <= sizeLine/\du i s'.heap/\(∀ b ∈ a9,I b=none)/\W i k ys I) (fun x s' q=>YU D C x s' (by first | exact oB | (rw [g4];exact oB)) q) ?_ m0
   ⟨0,[],_,0,c8,(GQ.dV _).p2 fun p ao=>?_,⟨[],rfl,.nil⟩,fL _,wL,fun b ab=>(f2 b ab).1,hY⟩
  .rintro k s' ⟨i,ys,us,n,I,hp,⟨vs,rfl,bV⟩,vt,st,fr,w⟩;have qO:∀ {pl:List (Addr × Obj)} {d7:aq},(∀ p ∈ pl,p.1=D)->(∀ b ∈ a9,d7 b=none)->∀ b ∈ a9,gm ((X.block scope C N bP c8 a9).dV (hE (X.block scope C N bP c8 a9) E0)) pl d7 b:=fun {pl d7} ao aH b ab=>
    ⟨aH b ab,(below b (mm b ab)).1,(DH (N:=N) (C:=C) bl S f2 (fun b ab=>by rw [g4];exact mm b ab) (by rw [g4];exact oB)).nF b ab,.inl ab,fun x c e=>(f2 b ab).2.2.2.2.1 x c (r8 e),fun p vF z=>by
     have J2:p ∈ pl:=by simpa using vF
     exact (below b (mm b ab)).2 (by rw [<- z];exact ao p J2)⟩
   have r6:∀ p ∈ [((D,{ cls:=.type "list",data:=.seq vs.toArray n }):Addr × Obj)],p.1=D:=fun p ao=>by
    have e:p=(D,{ cls:=.type "list",data:=.seq vs.toArray n }):=by simpa using ao
    rw [e]
   rcases hh i k ys I w with ⟨stop,rV⟩ | ⟨go,hlen,step⟩
   .refine bq (T.done ((X.block scope C N bP c8 a9).dV (hE (X.block scope C N bP c8 a9) E0)) rfl rfl rfl ar i _ s' _ I _ hp (qO r6 fr) st stop) fun r s4 b0=>?_
    obtain ⟨av,fT⟩:=b0;subst av;have jz:=fT.pin (D,{ cls:=.type "list",data:=.seq vs.toArray n }) (by simp);have x9:I D=none:=jz.2.1;have wc:Inv X aa σ I s4:=bl.p3 (ch:=a9) fT.os fT.base fT.a6 fT.bare fun b ab=>⟨(f2 b ab).2.2.2.1,(f2 b ab).2.1,(f2 b ab).2.2.2.2.1,(f2 b ab).2.2.2.2.2⟩
    have jG:gm X aa I D:=bl.jc (by rw [g4];exact bu _) x9;have vp:Inv X aa σ (upd I D (.lst ys)) s4:=wc.adopt jG ⟨vt,vs,n,bV,jz.1⟩;obtain ⟨EI,Kp,_⟩:=fT.loc;refine fin D C ys I s4 vp ⟨EI,Kp⟩ (bl.jc (by rw [g4];exact oB) ?_) (rV D x9);rw [aX (c7 mN)];exact fT.free
   .refine bq (T.item ((X.block scope C N bP c8 a9).dV (hE (X.block scope C N bP c8 a9) E0)) rfl rfl rfl ar i _ s' _ I _ hp (qO r6 fr) st go) fun r s4 b0=>?_
    obtain ⟨u,av,cm⟩:=b0;subst av;refine bq cm fun _ s5 b0=>?_
    obtain ⟨x,fY,rk,oQ,yl,mL,yN⟩:=b0;have vr:=rk.pinned (qO r6 yN) (T.obj _ _ mL);refine bq (B.J8 E0 C bP c8 a9 _ s5 _ fY x u _ vr oQ (step x fY yl)) fun _ e5 b0=>?_
    obtain ⟨mw,la,kx,gV,px⟩:=b0;refine bq (B.tests E0 C bP c8 a9 _ e5 mw la _ kx px) fun c hD b0=>?_
    obtain ⟨hb,h_,jZ⟩:=b0;have again:∀ {rG:St} {dI:aq} {fK:Shared},Inv ((X.block scope C N bP c8 a9).dV (hE (X.block scope C N bP c8 a9) E0)) ([(D,{ cls:=.type "list",data:=.seq vs.toArray n })] ++ tL a9 s5.heap) rG dI fK->du (i + 1) fK.heap/\(∀ b ∈ a9,dI b=none):=fun {rG dI fK} h4=>by
     refine ⟨T.keep _ _ _ mL fun b ab o e=>(h4.pin (b,o) (jP _ (jP _ (tS ab e)))).1,fun b ab=>?_⟩;obtain ⟨o,e,d⟩:=T.obj _ _ mL b ab;exact (h4.pin (b,o) (jP _ (jP _ (tS ab e)))).2.1
    have back:∀ {dI:aq} {fK:Shared} {pl:List (Addr × Obj)},Inv ((X.block scope C N bP c8 a9).dV (hE (X.block scope C N bP c8 a9) E0)) pl mw dI fK->Inv ((X.block scope C N bP c8 a9).dV (hE (X.block scope C N bP c8 a9) E0)) pl (hP sel σ) dI fK:=fun {dI fK pl} h4=>h4.weak gV.1.symm gV.2
    cases c with
    | false=>
     obtain ⟨c2,hm,dX⟩:=jZ;obtain ⟨t1,ju⟩:=again h_;exact ⟨c2,hm,i + 1,ys,_,n,hb,back h_.wU,⟨vs,rfl,bV⟩,vt,t1,ju,dX⟩
    | true=>
     refine bq (B.elem E0 C bP c8 a9 _ hD mw hb _ h_ jZ) fun v fK b0=>?_
     obtain ⟨y,dI,h4,Gu,c2,hm,dX⟩:=b0;obtain ⟨t1,ju⟩:=again h4;have jz:=h4.pin (D,{ cls:=.type "list",data:=.seq vs.toArray n }) (by simp);refine append_at (hsz:=by have:=bV.length;rw [eg];omega) jz.1 fun Hb n3 Hj=>?_
     have GW:Inv ((X.block scope C N bP c8 a9).dV (hE (X.block scope C N bP c8 a9) E0)) [] (hP sel σ) dI fK:=(back h4).p2 fun p ao=>nomatch ao
     have jG:gm ((X.block scope C N bP c8 a9).dV (hE (X.block scope C N bP c8 a9) E0)) [] dI D:=⟨jz.2.1,mN,q0,.inr (by show bP.heap.objs.size <= D;rw [g4];exact bu _),(fun x c e z=>by
      obtain ⟨XE,o,aZ,hd⟩:=h4.cell x c e;rw [z,jz.1] at aZ;cases aZ;cases hd),(fun p ao=>nomatch ao)⟩
     have Iv:Inv ((X.block scope C N bP c8 a9).dV (hE (X.block scope C N bP c8 a9) E0)) [] (hP sel σ) dI { fK with heap:=Hb }:=GW.turned (t':=fK.toks) (it:=D) (fun b o ab e=>(n3.2 b ab).trans e) jG.1 jG.2.1 jG.2.2.2.1 jG.2.2.2.2.1 jG.2.2.2.2.2;refine ⟨c2,hm,i + 1,ys ++ [y],vs.toArray.push v,n + 1,dI,Iv.p2 fun p ao=>?_,⟨vs ++ [v],by simp,FT bV Gu⟩,by rw [dq,v_];omega,T.keep _ _ _ t1 fun b ab o e=>(n3.2 b (below b (mm b ab)).2).trans e,ju,dX⟩;have e:p=(D,{ cls:=.type "list",data:=.seq (vs.toArray.push v) (n + 1) }):=by simpa using ao
     subst e;exact ⟨Hj,jz.2.1,mN,q0,fun v z=>by cases z⟩
  .have e:p=(D,{ cls:=.type "list",data:=.seq ([]:List Value).toArray }):=by simpa using ao
   subst e;exact ⟨xe,bl.a6.fresh (by rw [g4];exact bu _),mN,q0,fun v z=>by cases z⟩
 exact codeAny_compStart_list (loop _ rfl) (T.self _ 0 _ _ _ wL (loop _ rfl))
theorem jH.but {x C T c:Addr} {h h':Heap} (z:jH x C a' T cb h) (bH:x ≠ c) (bQ:T ≠ c) (k:∀ b,b ≠ c->h'.get? b=h.get? b):jH x C a' T cb h':=by
 obtain ⟨ne,vs,bE,lj,g0,he,af,dc,hd,br⟩:=z;exact ⟨ne,vs,bE,lj,g0,(k _ bH).trans he,af,(k _ bQ).trans dc,hd,br⟩
end
structure alo (K:a4) (C:Addr):Prop where
 cl:et K C
 aO:dB K (.ref C) "__class__"=some (some (.builtin "object.__class__"))
 aH:tE K (.builtin "object.__class__") "__get__"=some (some (.builtin "getset_descriptor.__get__"))
 C2:IZ K (.builtin "object.__class__")=some true
 hm:xj K C (.type "object")=some true
end L2
namespace L2
open PySem PySem.Spec PyProof.Rows
section
variable {X:aP} {cz:Expr}
end
section
variable {prog:Program} {w:World} {A:Around} {E:Value->Shared->Prop} {s:Shared} {it l:Addr} {items:Array Value}
end
section
variable {X:aP}
end
section
variable {prog:Program} {w:World} {A:Around} {R:Result->Shared->Prop} {J:Addr} {a9 wr:List Addr} {n:Nat} {P:Nat->Value->Prop} {St:Nat->Heap->Prop}
def ai2 (P:Nat->Value->Prop) (pK:Nat->Nat->Bool) (j:Nat) (acc:Array Value):Prop:=(j=0/\acc=#[])\/∃ l3 i,j=i + 1/\acc=#[l3,l3]/\P (argBest pK i) l3
end
section
variable {prog:Program} {w:World} {A:Around} {E:Value->Shared->Prop} {s:Shared}
end
section
variable {X:aP}
end
structure alv (K:a4) (C:Addr):Prop where
 x:lN K C
 aO:dB K (.ref C) "__class__"=some (some (.builtin "object.__class__"))
 aH:tE K (.builtin "object.__class__") "__get__"=some (some (.builtin "getset_descriptor.__get__"))
 C2:IZ K (.builtin "object.__class__")=some true
 hm:xj K C (.type "object")=some true
section
variable {prog:Program} {w:World} {A:Around} {E:Value->Shared->Prop} {s:Shared} {K:a4} {x C:Addr} {a':Obj} {au:Addr} {vs:Array Value} {bE:Array (Option Value)}
end
section
variable {X:aP}
end
structure aeV (k:Nat) (A:Around):Prop where
 xx:A.depth + 3 * k + 5 < recursionLimit
 un:A.units + 16 * k + 200 < cLine
structure akY (P:Program) (w:World) (K:a4) (ah:Str->Option Value) (base:Heap) (CX:hF) (k:Nat) (f:Addr) (fd:FuncData) (ps:List Str) (sp:bI):Prop where
 len:∀ vs H Q E,sp vs H Q E->vs.length=ps.length
 run:∀ (A:Around) (outer:List Env) (s:Shared) (H:aq) (args:Args) (us:List Value) (vs:List V) (Q:cc) (E:cZ),aeV k A->m7 P w K ah base A outer s H->BindsTo s fd args (ps.zip us)->bN vs us->sp vs H Q E ->
  codeAny (model P w) A (.call (.ref f) args) (LO CX outer P w H s Q E) s
section
variable {X:aP} {CX:hF} {k:Nat} {f C:Addr} {fd:FuncData} {ps:List Str} {sp:bI} {dvs:List V} {ds:List Value} {E:cZ} {x m:Str} {p pos eB:Pos} {e o:Expr} {aF:List Expr} {aV:TE} {t:d2}
end
noncomputable def afm (CX:hF) (P:Program) (w:World) (K:a4) (ah:Str->Option Value) (base:Heap) (N:List Str) (qual:Str) (scope:Scope) (f:Addr) (cd:Value) (A:Around) (outer:List Env) (s:Shared) (H:aq) (E:cZ):aP where
 prog:=P
 w:=w
 K:=K
 ah:=ah
 base:=base
 A:=A.deeper (envOfC qual scope s.heap.objs.size f cd)
 N:=N
 eA:=s
 tC:=H
 env:=envOfC qual scope s.heap.objs.size f cd
 outer:=outer
 stack:=envOfC qual scope s.heap.objs.size f cd :: outer
 ex:=[]
 calm:=false
 fn:=fun _=>true
 h8:=[]
 cK:=fun e s'=>wpAny (model P w) (A.deeper (envOfC qual scope s.heap.objs.size f cd)) (leaving (envOfC qual scope s.heap.objs.size f cd) e) (fun _ oM=>CX outer H s E e oM) (fun cy oM=>CX outer H s E cy oM) s'
section
variable {P:Program} {w:World} {K:a4} {ah:Str->Option Value} {base:Heap}
end
section
variable {X:aP}
end
section
variable {α:Type} {M:List α->Prop}
theorem gE (h:∀ a,M [a]):∀ us:List α,us.length=1->M us | [a],_=>h a
theorem hQ (h:∀ a b,M [a,b]):∀ us:List α,us.length=2->M us | [a,b],_=>h a b
theorem ix (h:∀ a b c,M [a,b,c]):∀ us:List α,us.length=3->M us | [a,b,c],_=>h a b c
theorem E3 (h:∀ a b c d,M [a,b,c,d]):∀ us:List α,us.length=4->M us | [a,b,c,d],_=>h a b c d
theorem ahl (h:∀ a b c d e,M [a,b,c,d,e]):∀ us:List α,us.length=5->M us | [a,b,c,d,e],_=>h a b c d e
theorem BP (h:∀ a b c d e f g,M [a,b,c,d,e,f,g]):∀ us:List α,us.length=7->M us | [a,b,c,d,e,f,g],_=>h a b c d e f g
theorem Zm (h:∀ a b c d e f g i,M [a,b,c,d,e,f,g,i]):∀ us:List α,us.length=8->M us | [a,b,c,d,e,f,g,i],_=>h a b c d e f g i
end
structure Kx (K:a4) (C:Addr):Prop where
 hd:zY K C=true
 dx:((ajx K C).any fun cd=>vV cd.mro)=true
 qe:dB K (.ref C) "__setattr__"=some (some (.builtin "object.__setattr__"))
 ga:dB K (.ref C) "__getattribute__"=some (some (.builtin "BaseException.__getattribute__"))
 gt:dB K (.ref C) "__getattr__"=some none
theorem Yj {K:a4} (b:Kx K C) (m:ti K C f):lN K C:=⟨b.hd,b.dx,b.qe,b.ga,b.gt,_,m.e⟩
structure hp (K:a4) (C:Addr):Prop where
 aO:dB K (.ref C) "__class__"=some (some (.builtin "object.__class__"))
 aH:tE K (.builtin "object.__class__") "__get__"=some (some (.builtin "getset_descriptor.__get__"))
 C2:IZ K (.builtin "object.__class__")=some true
 hm:xj K C (.type "object")=some true
theorem Xa {K:a4} (i:Gn K (.ref f)=true) (e:u1 K C f=true) (k:pJ K (.ref C)=true):ti K C f:=⟨e,beq_iff_eq.mp i,k⟩
theorem XB {bB:List Int}:∀ {aI:List Value},bN (bB.map V.int) aI->∃ xs:List (Int × Tok),aI=xs.map (fun p=>nc p.1 p.2)/\xs.map (·.1)=bB:=by
 induction bB with
 | nil=>intro aI r;cases r;exact ⟨[],rfl,rfl⟩
 | cons k bB a_=>
  intro aI r;cases r with
  | cons h t=>
   obtain ⟨xs,aw,az⟩:=a_ t;obtain ⟨cG,rfl⟩:=(show ∃ t,_=nc k t from h);exact ⟨(k,cG) :: xs,by rw [dR,<- aw],by rw [dR,az]⟩
section
variable {X:aP}
end
noncomputable def ajE (p d:Addr):Heap->Prop:=fun h=>PySem.W.KdlKeysView h p d
section
variable {X:aP}
noncomputable def oG:V->List V->aq->cc->Prop:=fun x vs H Q=>∃ d aE,x=.ref d/\vs=[]/\H d=some (.dN aE)/\∀ p,H p=none->Q (.ref p) (upd H p (.ext (ajE p d)))
end
noncomputable abbrev ajD:=St->aq->Str->(Str->aq->Prop)->Prop
section
variable {X:aP} {e:Expr} {aF:List Expr} {t:ajD} {bo:TE} {pos:Pos}
end
section
variable {X:aP}
end
structure ald (X:aP) (c D3:Addr):Prop where
 code:X.env.code=.ref c
 hd:PySem.W.CodeHd X.base c D3
 bm:X.base.BuiltinsAt X.ah D3
section
variable {X:aP} {aa:List (Addr × Obj)} {σ:St} {H:aq} {s:Shared} {params:Arguments} {body:Expr} {scope:Scope} {pos:Pos} {c D3:Addr} {amE:List (Str × Addr)} {Q:Value->Shared->Prop}
end
section
variable {P:Program} {w:World} {K:a4} {ah:Str->Option Value} {base:Heap}
end
structure aly (p y:Str) (sc:Scope):Prop where
 kind:sc.kind=.function
 co:sc.isCoroutine=false
 gen:sc.isGenerator=false
 ne:p ≠ y
 par:sc.names.lookup p=some .local
 ac3:sc.names.lookup y=some .free
 yL:∀ z ∈ sc.names,z.2 ≠ .cell
 one:∀ z ∈ sc.names,z.2=.free->z.1=y
section
variable {X:aP} {aa:List (Addr × Obj)} {σ:St} {H:aq} {s:Shared} {k:Nat} {f dT cl:Addr} {q p y:Str} {params:Arguments} {body:Expr} {scope:Scope} {v:V} {t:TE}
end
section
variable {P:Program} {w:World} {A:Around} {E:Value->Shared->Prop} {s:Shared}
structure o2 (h:Heap) (d:Addr) (o:Obj) (aF:Array DictEntry) (b5:Nat):Prop where
 at_:h.get? d=some o
 ex:o.ExactDict
 dat:o.data=.dict aF b5
theorem Mi (r:o2 s.heap d o aF b5):s.TypeIs (.ref d) "dict" := ⟨o,r.at_,r.ex.1⟩
theorem ahK (hd:(d == sysModules)=false) (r:o2 s.heap d o aF b5)
  (a5:Q (.ref s.heap.objs.size) { s with heap:=s.heap.push { cls:=.type "dict_keyiterator",data:=.fields #[.ref d,.int 0 0,.int aF.size 0,.int b5 0] } }) :
  wpAny (model P w) A (pyIter (.ref d)) Q E s:=by
 have dc:=Mi r;refine wpAny_pyIter_slot dc T2 (wpAny_call_entry T2 dc F.entry_dict_iter ?_ (F.args_dict_iter_1 _));unfold Builtin.«dict.__iter__» akV;refine wpAny_bind (wpAny_bind (wpAny_notOrdered_dict dc (wpAny_pure ?_)));show wpAny _ _ (NP d >>= _) _ _ s;unfold NP;rw [if_neg (by rw [hd];exact fh)];refine wpAny_bind (wpAny_pure (wpAny_bind (wpAny_dictEntries r.at_ r.dat (wpAny_bind (wpAny_dictEpoch r.at_ r.dat ?_)))));refine wpAny_bind (wpAny_newObj_type (wpAny_pure ⟨_,rfl,"dict_keyiterator",_,⟨_,en _ rfl,rfl⟩,Aq.lookup,?_⟩));simpa [rawInt] using a5
theorem af9 {it d:Addr} {e:DictEntry} (hit:s.heap.IsKeyIter it d i aF.size b5) (r:o2 s.heap d o aF b5) (ak:aF[i]? = some e)
  (a5:∀ h',h'.IsKeyIter it d (i + 1) aF.size b5->qd it s.heap h'->Q (some e.key) { s with heap:=h' }):wpAny (model P w) A (pyNext (.ref it)) Q E s:=by
 obtain ⟨aj5,aZ,ar,hd⟩:=id hit;have Dx:aev "dict_keyiterator"=false:=by decide
 have cH:i < aF.size:=by
  rcases yy i aF.size with h | h
  .exact h
  .rw [Sp h] at ak;cases ak
 unfold pyNext;refine wpAny_bind (wpAny_attempt (wpAny_callSpecial?_slot (name:=ag "__next__") hit.typeIs Aq
  (wpAny_call_entry Aq hit.typeIs U7 ?_ (ajb _))))
 refine wpAny_bind (wpAny_pure (wpAny_bind (wpAny_bind ?_)))
 first | refine wpAny_bind (wpAny_typeNameOfWhole_keyiter hit.typeIs (wpAny_pure ?_)) | refine wpAny_bind (wpAny_typeNameOf_keyiter hit.typeIs (wpAny_pure ?_))
 refine wpAny_bind (wpAny_fieldsOf aZ hd ?_);simp only [Dx,wj,if_false];show wpAny _ _ (if (de d == hg)=true then _ else _) _ _ s;rw [if_neg (show ¬ ((de d == hg)=true) from fh)];refine wpAny_bind (wpAny_pure (wpAny_bind (wpAny_dictEntries r.at_ r.dat ?_)));rw [if_neg (by simp)];refine wpAny_bind (wpAny_pure (wpAny_bind (wpAny_dictEpoch r.at_ r.dat ?_)));rw [if_neg (by simp)];refine wpAny_pure ?_;simp only [show ¬ ((i:Int) < 0) from by omega,if_false,Sm,ak];refine wpAny_bind ?_
 first | refine wpAny_bind (wpAny_typeNameOfWhole_keyiter hit.typeIs (wpAny_pure ?_)) | refine wpAny_bind (wpAny_typeNameOf_keyiter hit.typeIs (wpAny_pure ?_))
 refine wpAny_bind (wpAny_isOneOf_keyiter hit.typeIs ?_);show wpAny _ _ (setField (.ref it) 1 (rawInt ((i:Int) + 1)) >>= _) _ _ s;refine wpAny_bind (wpAny_setField aZ hd (by simp) ?_);have PV:(s.heap.update it (nM (·.setIfInBounds 1 (rawInt ((i:Int) + 1))))).IsKeyIter it d (i + 1) aF.size b5:=
  ⟨_,lS _ aZ (NT (Bo hd _)),(Obj.cls_mapFields ..).trans ar,by rw [Bo hd];simp [rawInt]⟩
 refine wpAny_bind (wpAny_holding (wpAny_bind (wpAny_isOneOf_keyiter (s:={ s with heap:=s.heap.update it (nM (·.setIfInBounds 1 (rawInt ((i:Int) + 1)))) }) PV.typeIs ?_)));show wpAny _ _ (pure e.key) _ _ _;exact wpAny_pure (wpAny_pure ⟨_,rfl,wpAny_pure (a5 _ PV (EZ ..))⟩)
theorem YS {it d:Addr} (cQ:A.handled=none) (hit:s.heap.IsKeyIter it d i aF.size b5) (r:o2 s.heap d o aF b5) (ak:aF.size <= i)
  (a5:∀ h',W4 it s.heap h'->Q none { s with heap:=h' }):wpAny (model P w) A (pyNext (.ref it)) Q E s:=by
 obtain ⟨aj5,aZ,ar,hd⟩:=id hit;have Dx:aev "dict_keyiterator"=false:=by decide
 unfold pyNext;refine wpAny_bind (wpAny_attempt (wpAny_callSpecial?_slot (name:=ag "__next__") hit.typeIs Aq
  (wpAny_call_entry Aq hit.typeIs U7 ?_ (ajb _))))
 refine wpAny_bind (wpAny_pure (wpAny_bind (wpAny_bind ?_)))
 first | refine wpAny_bind (wpAny_typeNameOfWhole_keyiter hit.typeIs (wpAny_pure ?_)) | refine wpAny_bind (wpAny_typeNameOf_keyiter hit.typeIs (wpAny_pure ?_))
 refine wpAny_bind (wpAny_fieldsOf aZ hd ?_);simp only [Dx,wj,if_false];show wpAny _ _ (if (de d == hg)=true then _ else _) _ _ s;rw [if_neg (show ¬ ((de d == hg)=true) from fh)];refine wpAny_bind (wpAny_pure (wpAny_bind (wpAny_dictEntries r.at_ r.dat ?_)));rw [if_neg (by simp)];refine wpAny_bind (wpAny_pure (wpAny_bind (wpAny_dictEpoch r.at_ r.dat ?_)));rw [if_neg (by simp)];refine wpAny_pure ?_;simp only [show ¬ ((i:Int) < 0) from by omega,if_false,Sm,Sp ak];refine wpAny_bind ?_
 first | refine wpAny_bind (wpAny_typeNameOfWhole_keyiter hit.typeIs (wpAny_pure ?_)) | refine wpAny_bind (wpAny_typeNameOf_keyiter hit.typeIs (wpAny_pure ?_))
 show wpAny _ _ (setField (.ref it) 0 .none >>= _) _ _ s;refine wpAny_bind (wpAny_setField aZ hd (by simp) ?_);show wpAny _ _ (newExc (.type "StopIteration") [] >>= _) _ _ _;refine wpAny_bind ?_;simp only [newExc,newTuple];refine wpAny_bind (wpAny_newObj_type ?_ (by size_fits));refine wpAny_bind (m:=firstArgMember _ _) (wpAny_of_eq (a:=hg) (by first | rfl | (simp only [firstArgMember];rfl)) ?_);refine wpAny_newObj_type ?_ (by size_fits);simp only [raiseNew];refine wpAny_bind (wpAny_handled ?_);rw [show A.in1.handled=none from cQ];refine wpAny_bind (wpAny_pure (wpAny_throw ?_));refine wpAny_bind (wpAny_isInstance (T := "StopIteration") (b:=true) ⟨_,en _ rfl,rfl⟩ isSubtype_stop ?_);exact wpAny_pure (a5 _ (((EZ ..).extBut.push _).push _))
end
noncomputable def hs (a:Addr) (o:Obj):Heap->Prop:=fun h=>h.get? a=some o
theorem NM {α β:Type} {F:α->β->Prop} {l₁:List α} {l₂:List β} (r:Paired F l₁ l₂):∀ {i:Nat} {a:α},l₁[i]? = some a->∃ b,l₂[i]? = some b/\F a b:=by
 induction r with
 | nil=>intro i a e;cases e
 | cons h _ a_=>
  intro i a e;cases i with
  | zero=>cases e;exact ⟨_,rfl,h⟩
  | succ j=>exact a_ (by simpa using e)
theorem Ps (r:Paired F l₁ l₂):l₁.length=l₂.length:=by
 induction r with
 | nil=>rfl
 | cons _ _ a_=>simp [a_]
structure IW (P:Program) (w:World) (H:aq) (a:Addr) (aE:List (List Key × V)) (o:Obj) (aF:Array DictEntry) (b5:Nat) (xs:List (List Key × Addr × Value)):Prop where
 at_:H a=some (.ext (hs a o))
 ex:o.ExactDict
 dat:o.data=.dict aF b5
 ent:aF.toList=xs.map (entryOfKey (tupleKind (ig P w)))
 aC:(xs.map (·.1)).Nodup
 bB:Paired (fun (p:List Key × V) (q:List Key × Addr × Value)=>p.1=q.1/\H q.2.1=some (.tup (p.1.map dO))/\bD p.2 q.2.2) aE xs
 gj:aE.length <= sizeLine
 ns:(a == sysModules)=false
def gg (P:Program) (w:World) (H:aq) (a:Addr) (aE:List (List Key × V)):Prop:=∃ o aF b5 xs,IW P w H a aE o aF b5 xs
section
variable {P:Program} {w:World} {H I:aq} {h:Heap} {a:Addr} {aE:List (List Key × V)}
theorem fv (d:gg P w H a aE) (s:aN H I):gg P w I a aE:=by
 obtain ⟨o,aF,b5,xs,r⟩:=d;exact ⟨o,aF,b5,xs,s _ _ r.at_,r.ex,r.dat,r.ent,r.aC,Paired.pf r.bB fun p q z=>⟨z.1,s _ _ z.2.1,z.2.2⟩,r.gj,r.ns⟩
theorem Zf {p:Addr} (d:gg P w H a aE) (ao:p ≠ a) (cR:∀ xs,H p ≠ some (.tup xs)):gg P w (upd H p u) a aE:=by
 obtain ⟨o,aF,b5,xs,r⟩:=d;exact ⟨o,aF,b5,xs,by rw [aX (c7 ao)];exact r.at_,r.ex,r.dat,r.ent,r.aC,Paired.pf r.bB fun q cS z=>⟨z.1,by rw [aX (fun e=>cR _ (e ▸ z.2.1))];exact z.2.1,z.2.2⟩,r.gj,r.ns⟩
theorem A5 (ok:dY P w H h) (r:IW P w H a aE o aF b5 xs):o2 h a o aF b5:=
 ⟨(ok a _ r.at_).1,r.ex,r.dat⟩
theorem Na (ok:dY P w H h) (d:gg P w H a aE):lu (H a)/\(∃ u,h.get? a=some u)/\dK P w (upd H a (.fU aE)) h a (.fU aE):=by
 obtain ⟨o,aF,b5,xs,r⟩:=d;have e:=(A5 ok r).at_;refine ⟨by rw [r.at_];exact ko,⟨o,e⟩,r.gj,r.ns,xs,Paired.pf r.bB fun q cS z=>⟨z.1,?_,z.2.2⟩,o,aF,b5,e,r.ex,r.dat,r.ent,r.aC⟩;rw [aX (fun e=>by have:=z.2.1;rw [e,r.at_] at this;cases this)];exact z.2.1
theorem KX (ok:dY P w H h) (d:gg P w H a aE):dY P w (upd H a (.fU aE)) h:=
 have z:=Na ok d
 ok.write z.1 (.inl rfl) (fun _ _ _ q=>q) z.2.1 z.2.2
theorem Wo (d:gg P w H a aE) (e:H b=some (.tup xs)):b ≠ a:=fun z=>by
 obtain ⟨o,aF,b5,ys,r⟩:=d;have:=r.at_;rw [<- z,e] at this;cases this
end
section
variable {X:aP} {aa:List (Addr × Obj)} {σ:St} {H:aq} {s:Shared} {a b:Addr} {aE:List (List Key × V)} {k:List Key} {v:V} {r:Value} {A:Around} {E:Value->Shared->Prop}
theorem AC (J:Inv X aa σ H s) (eO:lu (H a)) (ex:∃ u,s.heap.get? a=some u) (new:dK X.prog X.w (upd H a cM) s.heap a cM):Inv X aa σ (upd H a cM) s:=
 J.un (t':=s.toks) (h':=s.heap) (gq.write eO (.inl rfl) (fun _ _ _ q=>q) ex) (J.a6.write eO (.inl rfl) (fun _ _ _ q=>q) ex new)
theorem YB (J:Inv X aa σ H s) (d:gg X.prog X.w H a aE):Inv X aa σ (upd H a (.fU aE)) s:=
 have z:=Na J.a6 d
 AC J z.1 z.2.1 z.2.2
theorem Pz (J:Inv X aa σ H s) (e:H a=some (.fU aE)):∃ o,Inv X aa σ (upd H a (.ext (hs a o))) s/\gg X.prog X.w (upd H a (.ext (hs a o))) a aE:=by
 obtain ⟨z,y,xs,r,o,aF,b5,af,ai,br,cm,gK⟩:=(show dK X.prog X.w H s.heap a (.fU aE) from J.a6 a _ e);refine ⟨o,AC J (by rw [e];exact ko) ⟨o,af⟩ ⟨af,⟨o,af⟩,fun _ _ q k=>k o q⟩,o,aF,b5,xs,aS ..,ai,br,cm,gK,Paired.pf r fun p q z=>⟨z.1,?_,z.2.2⟩,z,y⟩;rw [aX (fun q=>by have:=z.2.1;rw [q,e] at this;cases this)];exact z.2.1
theorem ajP (ba:A.units + 1 < cLine) (J:Inv X aa σ H s) (d:gg X.prog X.w H a aE) (ef:H b=some (.tup (k.map dO))) (l:dg aE k=some v) (h:∀ dX s',Inv X aa σ H s'->bD v dX->Q dX s') :
  wpAny (model X.prog X.w) A (getItem (.ref a) (.ref b)) Q E s:=by
 obtain ⟨z,hd,xs,rel,dU⟩:=Fp (KX J.a6 d) (aS ..);obtain ⟨dX,hw,hj⟩:=hL.some_of (v:=v) (o:=(atKey xs k).map (·.2)) (by rw [<- l];exact rel.val k);obtain ⟨p,ao,c5⟩:=UH.mp hw;refine wpAny_getItem_heap (tupleKind_room_in1 ba) (rg J.a6 ef) dU ao ?_;rw [c5];exact h dX _ (J.tok _) hj
theorem af2 (ba:A.units + 1 < cLine) (J:Inv X aa σ H s) (d:gg X.prog X.w H a aE) (ef:H b=some (.tup (k.map dO))) (h:∀ s',Inv X aa σ H s'->Q (.bool (dg aE k).isSome) s') :
  wpAny (model X.prog X.w) A (compareOp .In (.ref b) (.ref a)) Q E s:=by
 obtain ⟨z,hd,xs,rel,dU⟩:=Fp (KX J.a6 d) (aS ..);refine wpAny_in_heap (tupleKind_room_in1 ba) (rg J.a6 ef) hd dU ?_;have q:=(rel.val k).CD;rw [MC] at q;rw [<- q];exact h _ (J.tok _)
theorem abZ (ba:A.units + 1 < cLine) (J:Inv X aa σ H s) (d:gg X.prog X.w H a aE) (ef:H b=some (.tup (k.map dO))) (ax:aE.length < sizeLine) (bV:bD v r)
  (h:∀ o s',Inv X aa σ (upd H a (.ext (hs a o))) s'->gg X.prog X.w (upd H a (.ext (hs a o))) a (fs aE k v)->Q () s'):wpAny (model X.prog X.w) A (setItem (.ref a) (.ref b) r) Q E s:=by
 refine R2 ba (YB J d) (n0.t (aS ..) (by rw [aX (Wo d ef)];exact ef) ax) (show bD (.ref b) (.ref b) from rfl) bV fun s' ib=>?_
 rw [nk] at ib;obtain ⟨o,bl,dE⟩:=Pz ib (aS ..);rw [nk] at bl dE;exact h o s' bl dE
end
noncomputable def JZ (P:Program) (w:World) (fa ty:TE):TE:=fun σ H Q=>fa σ H fun x H1=>ty σ H1 fun y ay=>∃ a b aE k v,x=.ref a/\y=.ref b/\gg P w ay a aE/\ay b=some (.tup (k.map dO))/\dg aE k=some v/\Q v ay
noncomputable def F7 (P:Program) (w:World) (ty fa:TE):TE:=fun σ H Q=>ty σ H fun y H1=>fa σ H1 fun x ay=>∃ a b aE k,x=.ref a/\y=.ref b/\gg P w ay a aE/\ay b=some (.tup (k.map dO))/\Q (.bp (dg aE k).isSome) ay
noncomputable def El (P:Program) (w:World) (fa ty fj:TE):dz:=fun D σ H=>fj σ H fun v H1=>fa σ H1 fun x ay=>ty σ ay fun y bA=>∃ a b aE k,x=.ref a/\y=.ref b/\gg P w bA a aE/\bA b=some (.tup (k.map dO))/\aE.length < sizeLine/\∀ o,gg P w (upd bA a (.ext (hs a o))) a (fs aE k v)->D.cg σ (upd bA a (.ext (hs a o)))
noncomputable def C1 (P:Program) (w:World):TE:=fun _ H Q=>∀ p o,H p=none->gg P w (upd H p (.ext (hs p o))) p []->Q (.ref p) (upd H p (.ext (hs p o)))
section
variable {X:aP} {o i e value:Expr} {pos pos' rt:Pos} {fa ty fj:TE}
theorem L' (ba:X.A.units + 1 < cLine) (aZ:bk X o fa) (aj:bk X i ty) (aG:CQ i):bk X (.Subscript o i pos) (JZ X.prog X.w fa ty):=by
 intro aa s σ H Q J h;refine Kd LR.lookup aG (bq (aZ aa s σ H _ J h) fun u s1 b3=>dG b3 fun x H1 aK bg bF=>bq (aj aa s1 σ H1 _ aK bF) fun gX s2 b0=>?_);obtain ⟨y,ay,bl,bw,a,b,aE,k,v,ex,gN,d,ef,l,cA⟩:=b0;subst ex gN;obtain rfl:u=de a:=bg;obtain rfl:gX=de b:=bw;refine ⟨?_,ajP ba bl d ef l fun dX s3 dA hj=>⟨v,ay,dA,hj,cA⟩⟩;obtain ⟨b2,aF,b5,xs,r⟩:=d;exact Mi (A5 bl.a6 r)
theorem ud (ba:X.A.units + 1 < cLine) (aj:bk X i ty) (aZ:bk X o fa):y7 X .In i o (F7 X.prog X.w ty fa):=by
 intro aa s σ H Q J h;refine bq (aj aa s σ H _ J h) fun gX s1 b3=>dG b3 fun y H1 aK bw bF=>bq (aZ aa s1 σ H1 _ aK bF) fun u s2 b0=>?_
 obtain ⟨x,ay,bl,bg,a,b,aE,k,ex,gN,d,ef,cA⟩:=b0;subst ex gN;obtain rfl:u=de a:=bg;obtain rfl:gX=de b:=bw;exact af2 ba bl d ef fun s3 dA=>⟨.bp (dg aE k).isSome,ay,dA,rfl,cA⟩
theorem Ai (ba:X.A.units + 1 < cLine) (aZ:bk X o fa) (aj:bk X i ty) (aU:bk X value fj) (aG:swapsWith value (some (.Subscript o i pos')) pos.line X.env=pure false) :
  e2 X (.Assign [.Subscript o i pos'] value pos) (El X.prog X.w fa ty fj):=by
 intro aa s σ H D J h;refine wpAny_Assign_Subscript (bq (aU aa s σ H _ J h) fun r s1 b3=>dG b3 fun v H1 aK bV bF=>bq (aZ aa s1 σ H1 _ aK bF) fun u s2 b3=>dG b3 fun x ay bl bg cA=>bq (aj aa s2 σ ay _ bl cA) fun gX s3 b0=>?_) aG;obtain ⟨y,bA,dA,bw,a,b,aE,k,ex,gN,d,ef,ax,eV⟩:=b0;subst ex gN;obtain rfl:u=de a:=bg;obtain rfl:gX=de b:=bw;exact abZ ba dA d ef ax bV fun b2 s4 fT Ka=>⟨σ,_,fT,eV b2 Ka⟩
theorem Dm:bk X (.Dict [] [] pos) (C1 X.prog X.w):=fun aa s σ H Q J h=>by
 refine bq (Zw aa s σ H (fun x H1=>∃ p,x=.ref p/\H p=none/\H1=upd H p (.fU [])) J fun p ao=>⟨p,rfl,ao,rfl⟩) fun v s1 b0=>?_
 obtain ⟨x,H1,aK,bR,p,ex,ao,wm⟩:=b0;subst ex wm;obtain ⟨o,bl,dE⟩:=Pz aK (aS ..);rw [nk] at bl dE;exact ⟨.ref p,_,bl,bR,h p o ao dE⟩
end
noncomputable def T6 (d:Addr) (o:Obj) (aE:List (List Key × V)) (xs:List (List Key × Addr × Value)):hJ:=
 ⟨fun i H=>H d=some (.ext (hs d o))/\i < aE.length,fun i H x I=>I=H/\∃ k b u,xs[i]? = some (k,b,u)/\x=.ref b,fun i H=>H d=some (.ext (hs d o))/\aE.length <= i⟩
theorem abx {w:World} {K:a4} {d it:Addr} (ex:o.ExactDict) (aZ:o.data=.dict aF b5)
  (ent:aF.toList=xs.map (entryOfKey (tupleKind (ig P w)))) (ax:aE.length=xs.length):l6 P w K cz (T6 d o aE xs) [it] it (fun i h=>h.IsKeyIter it d i aF.size b5) where
 mem:=by simp
 obj:=fun i h st b ab=>by
  have e:b=it:=by simpa using ab
  subst e;obtain ⟨o,e,c,d⟩:=st;exact ⟨o,e,fun v z=>by rw [d] at z;cases z⟩
 keep:=fun i h h' st k=>st.at fun o e=>k it (by simp) o e
 item:=by
  intro X dC hw d0 ar i aa s σ H E J hf st bj;subst dC hw d0;obtain ⟨aB,ak⟩:=bj;have r:o2 s.heap d o aF b5:=⟨(J.a6 d _ aB).1,ex,aZ⟩;obtain ⟨f0,f1,f2,d3,f4,el⟩:=hf it (by simp);obtain ⟨q,y'⟩:∃ q,xs[i]? = some q:=⟨_,cJ (by omega)⟩;refine af9 st r (e:=entryOfKey (tupleKind (ig X.prog X.w)) q) (by rw [entry_at ent,y'];rfl) fun h' j3 gV=>?_
  have aK:Inv X aa σ H { s with heap:=h' }:=J.turned (t':=s.toks) (fun b o ab e=>(gV.2 b ab).trans e) f0 f1 d3 f4 el;obtain ⟨nh,e,c,dU⟩:=id j3;exact ⟨_,rfl,vC (s:={ s with heap:=h' }) e c dU (by decide) ⟨.ref q.2.1,H,aK,rfl,⟨rfl,q.1,q.2.1,q.2.2,y',rfl⟩,j3,fun b ab=>(hf b ab).1⟩⟩
 done:=by
  intro X dC hw d0 ar i aa s σ H E J hf st bj;subst dC hw d0;obtain ⟨aB,ak⟩:=bj;have r:o2 s.heap d o aF b5:=⟨(J.a6 d _ aB).1,ex,aZ⟩;obtain ⟨f0,f1,f2,d3,f4,el⟩:=hf it (by simp);have aD:aF.size=xs.length:=size_of_entries ent;exact YS (J.ok.hd ar) st r (by omega) fun h' ef=>⟨rfl,J.turned (t':=s.toks) (fun b o ab e=>ef b o ab e) f0 f1 d3 f4 el⟩
 self:=fun _ _ _ _ _ st h=>wpAny_pyIter_keyiter st h
section
variable {X:aP} {cz:Expr}
noncomputable def Hr (P:Program) (w:World) (dp:TE):TI:=fun σ H R=>dp σ H fun x H1=>∃ d aE,x=.ref d/\gg P w H1 d aE/\∀ o aF b5 xs,IW P w H1 d aE o aF b5 xs->R (T6 d o aE xs) H1
theorem Jk (ax:bk X l dp):kA X cz l (Hr X.prog X.w dp):=by
 intro aa s σ H R J h;refine bq (ax aa s σ H _ J h) fun v s1 b3=>dG b3 fun x H1 aK bR bF=>?_
 obtain ⟨d,aE,e,⟨o,aF,b5,xs,r⟩,q⟩:=bF;subst e;cases bR;refine ahK r.ns (A5 aK.a6 r) ?_;refine ⟨s1.heap.objs.size,[s1.heap.objs.size],_,_,_,rfl,aK.kept (t':=s1.toks) fun b o e=>c6 _ e,abx r.ex r.dat r.ent (Ps r.bB),⟨_,en _ rfl,rfl,rfl⟩,fun b ab=>?_,q o aF b5 xs r⟩;have e:b=s1.heap.objs.size:=by simpa using ab
 subst e;exact aK.jc (bu _) (aK.a6.fresh (bu _))
end
structure amw (H I:aq) (l:Addr) (as:List Addr) (aE:List (Key × V)):Prop where
 same:∀ b o,H b=some o->I b=some o
 fresh:H l=none
 akX:∀ a ∈ as,H a=none
 at_:I l=some (.lst (as.map V.ref))
 len:as.length=aE.length
 al:∀ (j:Nat) (a:Addr) (q:Key × V),as[j]? = some a->aE[j]? = some q->I a=some (.tup [dO q.1,q.2])
 only:∀ b o,I b=some o->H b=some o\/o=.lst (as.map V.ref)\/∃ q ∈ aE,o=.tup [dO q.1,q.2]
section
variable {X:aP}
end
section
open AutoSeq1 (wpAny_loadPart')
open MeetsSeq MeetsSeq2 MeetsSeq3 SeqRoads2
variable {P:Program} {w:World} {l b:Addr} {xs ys:Array Value} {n m:Nat} {dU kk:Option Addr} {bE ck:Array (Option Value)}
end
section
variable {X:aP} {aa:List (Addr × Obj)} {σ:St} {H:aq} {s:Shared}
structure alm (H:aq) (p:Addr) (ps:List Addr) (bB:List (List (Key × V))):Prop where
 at_:H p=some (.lst (ps.map V.ref))
 len:ps.length=bB.length
 al:∀ (j:Nat) (a:Addr) (aE:List (Key × V)),ps[j]? = some a->bB[j]? = some aE->H a=some (.dN aE)
end
section
variable {X:aP}
end
section
variable {X:aP} {aa:List (Addr × Obj)} {σ:St} {H:aq} {s:Shared} {d:Addr} {o:Obj} {aE:List (Key × V)}
end
section
variable {X:aP} {cz:Expr}
end
theorem afE {w:World} {K:a4} (x:K.lookup a=some ⟨.type "dict",none,.dict aF n,#[]⟩) (y:HK w.params aF.toList)
  (z:∀ x v,(x,v) ∈ aE->∃ gJ,ur K a x=some (some gJ)/\bD v gJ):BM w K (.ref a) aE:=⟨a,aF,n,rfl,x,y,z⟩
theorem X1 {K:a4} {x:Str} (h:ur K a x=some (some u)) (r:bD v u):∃ gJ,ur K a x=some (some gJ)/\bD v gJ:=⟨u,h,r⟩
structure al5 (X:aP) (aa:List (Addr × Obj)) (H:aq) (S:Addr):Prop where
 nn:H S=none
 nl:S ≠ X.env.locals
 ge:X.eA.heap.objs.size <= S
 akK:∀ x c,X.env.cells.lookup x=some c->c ≠ S
 np:∀ p ∈ X.h8 ++ aa,p.1 ≠ S
 jL:S ∉ X.aQ
section
variable {X:aP} {A:Around} {aa:List (Addr × Obj)} {σ:St} {H:aq} {l q J S:Addr} {n:Nat} {P:Nat->Value->Prop} {R:Result->Shared->Prop}
end
structure alJ (p y z:Str) (sc:Scope):Prop where
 kind:sc.kind=.function
 co:sc.isCoroutine=false
 gen:sc.isGenerator=false
 ne:y ≠ z
 par:sc.names.lookup p=some .local
 ac3:sc.names.lookup y=some .free
 Pt:sc.names.lookup z=some .free
 yL:∀ z ∈ sc.names,z.2 ≠ .cell
 two:∀ b ∈ sc.names,b.2=.free->b.1=y\/b.1=z
section
variable {X:aP} {A:Around} {aa:List (Addr × Obj)} {σ:St} {H:aq} {s:Shared} {k:Nat} {f dT g6 kZ:Addr} {q p y z:Str} {params:Arguments} {body:Expr} {scope:Scope} {v1 v2:V} {t:TE}
end
theorem di (t u:dz) (D:gz) (σ:St) (H:aq):Jg t u D σ H=(t { D with cg:=u D } σ H):=rfl
theorem K2 (K:a4):Tv K aV fj f D σ H=(fj σ H fun y H1=>aV σ H1 fun x ay=>eC x fun a=>∃ C au aQ,ay a=some (.ins C au aQ)/\et K C/\bz K C f/\aQ.length < 1000 /\
 D.cg σ (upd ay a (.ins C au (Tk f y aQ)))):=rfl
theorem Oh (K:a4) (fg:V->V->aq->cc->Prop):Pc K aV fj fg f D σ H=(aV σ H fun x H1=>∃ a C au aQ v,x=.ref a/\H1 a=some (.ins C au aQ)/\et K C/\bz K C f/\aQ.lookup f=some v /\
 fj σ H1 fun y ay=>fg v y ay fun z bA=>∃ hG mZ,bA a=some (.ins C hG mZ)/\mZ.length < 1000/\D.cg σ (upd bA a (.ins C hG (Tk f z mZ)))):=rfl
theorem Lu (t:d2):Ij C m sp dvs E aV t σ H Q=(aV σ H fun x H1=>eC x fun a=>∃ au aQ,H1 a=some (.ins C au aQ)/\aQ.lookup m=none /\
 t σ H1 fun vs ay=>sp (x :: (vs ++ dvs)) ay Q E):=rfl
theorem LI (t:d2):E7 C sp dvs E t σ H Q=(t σ H fun vs H1=>∀ x au,H1 x=none->H1 au=none->au ≠ x ->
 sp (.ref x :: (vs ++ dvs)) (upd (upd H1 au (.own x)) x (.ins C au [])) (fun v ay=>v=.bT/\Q (.ref x) ay) E):=rfl
theorem QL (K:a4) (x:V) (lo:Option Int) (aj:Option Int) (H:aq) (Q:cc):Q7 K x lo aj H Q=(∃ a xs,x=.ref a/\bY K H a xs /\
 ¬ (ea.cC xs.length 0 lo=0/\ea.cC xs.length xs.length aj=xs.length)/\∀ p,H p=none->Q (.ref p) (upd H p (.tup (hk xs lo aj)))):=rfl
theorem TV (K:a4) (x:V):Tr K x y H Q=(∃ a b xs ys,x=.ref a/\y=.ref b/\bY K H a xs/\bY K H b ys/\xs ≠ []/\xs.length + ys.length <= sizeLine /\
 (ys=[]->Q (.ref a) H)/\(ys ≠ []->∀ p,H p=none->Q (.ref p) (upd H p (.tup (xs ++ ys))))):=rfl
theorem Q3 (t:d2):Om l_ m mf E aV t σ H Q=(aV σ H fun x H1=>∃ a C au aQ,x=.ref a/\H1 a=some (.ins C au aQ)/\l_ C/\aQ.lookup m=none /\
 t σ H1 fun vs ay=>mf C (x :: vs) ay Q E):=rfl
theorem SJ (K:a4):QB K aV fj f D σ H=(fj σ H fun y H1=>aV σ H1 fun x ay=>∃ a C,x=.ref a/\ay a=some (.ext (e6 a C none))/\lN K C/\bz K C f /\
 ∀ au,ay au=none->au ≠ a->D.cg σ (upd (upd ay a (.ext (e6 a C (some au)))) au (.ext (jD au [(f,y)])))):=rfl
theorem Pe (t:d2):K0 C m sp dvs E aV t σ H Q=(aV σ H fun x H1=>∃ a au aQ,x=.ref a/\H1 a=some (.ins C au aQ)/\aQ.lookup m=none /\
 t σ H1 fun vs ay=>sp (x :: (vs ++ dvs)) ay Q (E σ)):=rfl
def ap (b4:hJ) (g:e1) (ct:dz) (D:gz) (σ:St) (H:aq):Prop:=∃ W:Nat->Nat->St->aq->Prop,(∃ m,W 0 m σ H)/\∀ i m σ H,W i m σ H ->
 (b4.stop i H/\D.cg σ H)\/(b4.go i H/\∃ N:St->aq->Prop,(∀ aL I,N aL I->∃ c2,c2 < m/\W (i + 1) c2 aL I)/\∀ x I,b4.pN i H x I->g x σ I fun c4 ay=>ct { D with cg:=N,e9:=N,cq:=D.cg } c4 ay)
theorem Mx:FS ek g ct D σ H=ek σ H fun b4 H1=>ap b4 g ct D σ H1:=rfl
def cY (b4:hJ) (g:e1) (cu:TT) (bo:TE) (cI:St) (Q:cc) (H:aq):Prop:=∃ W:Nat->Nat->List V->aq->Prop,(∃ m,W 0 m [] H)/\oL b4 g cu bo cI Q W
theorem L4:SO ek g cu bo sel E σ H Q=ek σ H fun b4 H1=>cY b4 g cu (bo (E σ)) (hP sel σ) Q H1:=rfl
theorem RQ:F0 ek g cu bo sel σ H Q=ek σ H fun b4 H1=>cY b4 g cu bo (hP sel σ) Q H1:=rfl
theorem UD:SI aV σ H R=(aV σ H fun vs H1=>k' vs fun x=>fC x fun j=>-4611686018427387904 <= j/\j < 4611686018427387904/\R (jJ 0 j.toNat) H1):=rfl
theorem Ld:N2 aV σ H R=(aV σ H fun vs H1=>∃ i j:Int,vs=[.int i,.int j]/\(-4611686018427387904 <= i/\i < 4611686018427387904/\-4611686018427387904 <= j/\j < 4611686018427387904)/\R (jJ i (j - i).toNat) H1):=rfl
theorem abY (f:α->β):[].map f=[]:=rfl
theorem ajF (f:α->β) (a:α) (l:List α):(a :: l).map f=f a :: l.map f:=rfl
theorem aeh (l:List α):[] ++ l=l:=rfl
theorem XP (a:α) (l r:List α):(a :: l) ++ r=a :: (l ++ r):=rfl
theorem W0 (a b:α) (l:List α):(a :: l).set 0 b=b :: l:=rfl
theorem Z' (a b:α) (l:List α) (n:Nat):(a :: l).set (n + 1) b=a :: l.set n b:=rfl
theorem adw (a:α) (l:List α):(a :: l)[0]? = some a:=rfl
theorem ahZ (a:α) (l:List α) (n:Nat):(a :: l)[n + 1]? = l[n]?:=rfl
theorem acL:([]:List α).length=0:=rfl
theorem ad' (a:α) (l:List α):(a :: l).length=l.length + 1:=rfl
theorem abq (f:α->Option β):(none:Option α).bind f=none:=rfl
theorem aip (f:α->Option β) (a:α):(some a).bind f=f a:=rfl
theorem aib (a:Option α):(some a).join=a:=rfl
theorem aj_:(none:Option (Option α)).join=none:=rfl
theorem Si (sel:List (Option Nat)) (σ:St):hP sel σ=sel.map fun o=>o.bind fun j=>(σ[j]?).join:=rfl
theorem dh {t u:dz} (b:Bool) (ar:∀ Q:Bool->aq->Prop,Q b H->c σ H Q) (af:b=true->t D σ H) (ai:b=false->u D σ H):GI c t u D σ H:=by
 refine ar _ ?_;cases b with
 | true=>exact af rfl
 | false=>exact ai rfl
theorem lF {t u:dz} (R:Bool->aq->Prop) (ar:∀ Q:Bool->aq->Prop,(∀ b I,R b I->Q b I)->c σ H Q) (af:∀ I,R true I->t D σ I) (ai:∀ I,R false I->u D σ I):GI c t u D σ H:=by
 refine ar _ fun b I r=>?_
 cases b with
 | true=>exact af I r
 | false=>exact ai I r
theorem vd {t:dz} {D:gz} {σ:St} {H:aq} (R:St->aq->Prop) (h:∀ gH:gz,(∀ σ H,R σ H->gH.cg σ H)->gH.kV=D.kV->gH.cq=D.cq->gH.e9=D.e9->t gH σ H) (ie:∀ σ H,R σ H->D.cg σ H):t D σ H:=h D ie rfl rfl rfl
theorem Lo {t:dz} {D:gz} {σ:St} {H:aq} (R:St->aq->Prop) (h:∀ gH:gz,(∀ σ H,R σ H->gH.cg σ H)->t gH σ H) (ie:∀ M,M=D.cg->∀ σ H,R σ H->M σ H):t D σ H:=h D (ie _ rfl)
theorem O7 {p:Prop} (h:∀ q,q=p->q):p:=h p rfl
theorem alN {t:dz} {D:gz} {σ:St} {H:aq} (R:St->aq->Prop) (h:∀ gH:gz,(∀ σ H,R σ H->gH.cg σ H)->t gH σ H) (ie:∀ σ H,R σ H->D.cg σ H):t D σ H:=h D ie
theorem ML {t u:dz} {D:gz} {σ:St} {H:aq} (R:St->aq->Prop) (h:∀ gH:gz,(∀ σ H,R σ H->gH.cg σ H)->t gH σ H) (ie:∀ M,M=u D->∀ σ H,R σ H->M σ H):Jg t u D σ H:=h { D with cg:=u D } (ie _ rfl)
theorem aau (v:V) (ar:∀ Q:cc,Q v H->bo σ H Q) (h:g v σ H D.cg):pI bo g D σ H:=ar _ h
theorem aiv (v:V) (ar:∀ Q:cc,Q v H->bo σ H Q) (h:D.kV v H):Cr bo D σ H:=ar _ h
theorem HV (x y:Str):(x ++ y).length=x.length + y.length:=by
 show (x.cps ++ y.cps).size=_;rw [SA];rfl
theorem ap.range {lo:Int} {n:Nat} {g:e1} {ct:dz} {D:gz} {σ:St} {H:aq} (Pv:Nat->St->aq->Prop) (h0:Pv 0 σ H)
  (aG:∀ i σ H,i < n->Pv i σ H->g (.int (lo + i)) σ H fun c4 ay=>ct { D with cg:=Pv (i + 1),e9:=Pv (i + 1),cq:=D.cg } c4 ay) (hd:∀ σ H,Pv n σ H->D.cg σ H):ap (jJ lo n) g ct D σ H:=aaw Pv h0 aG hd
theorem ap.list {K:a4} (Pv:Nat->St->aq->Prop) (h0:Pv 0 σ H) (ax:∀ i σ H,i <= xs.length->Pv i σ H->aW K H a xs)
  (aG:∀ i x σ H,xs[i]? = some x->Pv i σ H->g x σ H fun c4 ay=>ct { D with cg:=Pv (i + 1),e9:=Pv (i + 1),cq:=D.cg } c4 ay) (hd:∀ σ H,Pv xs.length σ H->D.cg σ H):ap (lr K a) g ct D σ H:=X6 Pv h0 ax aG hd
theorem cY.list {K:a4} (Pv:Nat->List V->aq->Prop) (aD:xs.length <= sizeLine) (h0:Pv 0 [] H) (ax:∀ i ys H,i <= xs.length->Pv i ys H->aW K H a xs/\ys.length <= i)
  (aG:∀ i x ys H,xs[i]? = some x->Pv i ys H->nt Pv g cu bo cI i x ys H) (hd:∀ ys H,Pv xs.length ys H->∀ p,H p=none->Q (.ref p) (upd H p (.lst ys))):cY (lr K a) g cu bo cI Q H:=agz Pv aD h0 ax aG hd
theorem cY.aI (Pv:Nat->List V->aq->Prop) (aD:xs.length <= sizeLine) (h0:Pv 0 [] H) (ax:∀ i ys H,i <= xs.length->Pv i ys H->ys.length <= i)
  (aG:∀ i x ys H,xs[i]? = some x->Pv i ys H->nt Pv g cu bo cI i x ys H) (hd:∀ ys H,Pv xs.length ys H->∀ p,H p=none->Q (.ref p) (upd H p (.lst ys))):cY (yA xs) g cu bo cI Q H:=ZE Pv aD h0 ax aG hd
theorem cY.range {lo:Int} {n:Nat} {g:e1} {cu:TT} {bo:TE} {cI:St} {Q:cc} {H:aq} (Pv:Nat->List V->aq->Prop) (aD:n <= sizeLine) (h0:Pv 0 [] H) (ax:∀ i ys H,i <= n->Pv i ys H->ys.length <= i)
  (aG:∀ i ys H,i < n->Pv i ys H->nt Pv g cu bo cI i (.int (lo + i)) ys H) (hd:∀ ys H,Pv n ys H->∀ p,H p=none->Q (.ref p) (upd H p (.lst ys))):cY (jJ lo n) g cu bo cI Q H:=NE Pv aD h0 ax aG hd
theorem SE {α β:Type} {xs:List α} {i:Nat} {x:α} (f:α->β) (h:xs[i]? = some x):(xs.take (i + 1)).map f=(xs.take i).map f ++ [f x]:=by
 rw [i9,h,eD];rfl
theorem cY.aj0 {xs:List V} {g:e1} {bo:TE} {cI:St} {Q:cc} {H:aq} (f:V->V) (aD:xs.length <= sizeLine) (aG:∀ (i:Nat) (x:V) (N:V->aq->Prop),xs[i]? = some x->N (f x) H->g x cI H fun c4 ay=>Sub cI c4/\bo c4 ay N)
  (hd:∀ p,H p=none->Q (.ref p) (upd H p (.lst (xs.map f)))):cY (yA xs) g nN bo cI Q H:=by
 refine cY.aI (fun i ys I=>I=H/\ys=(xs.take i).map f) aD ⟨rfl,rfl⟩ (fun i ys I aj ⟨_,e⟩=>?_) (fun i x ys I ak ⟨aw,az⟩ N bx=>?_) (fun ys I ⟨aw,az⟩ p ao=>?_)
 .rw [e,bb,eX];omega
 .subst aw;exact aG i x (fun y dH=>N (ys ++ [y]) dH) ak (bx _ _ ⟨rfl,by rw [az,SE f ak]⟩)
 .subst aw;rw [az,jg];exact hd p ao
theorem cY.VY {K:a4} {a:Addr} {xs:List V} {g:e1} {bo:TE} {cI:St} {Q:cc} {H:aq} (f:V->V) (ax:aW K H a xs) (aD:xs.length <= sizeLine) (aG:∀ (i:Nat) (x:V) (N:V->aq->Prop),xs[i]? = some x->N (f x) H->g x cI H fun c4 ay=>Sub cI c4/\bo c4 ay N)
  (hd:∀ p,H p=none->Q (.ref p) (upd H p (.lst (xs.map f)))):cY (lr K a) g nN bo cI Q H:=by
 refine cY.list (fun i ys I=>I=H/\ys=(xs.take i).map f) aD ⟨rfl,rfl⟩ (fun i ys I aj ⟨eu,e⟩=>?_) (fun i x ys I ak ⟨aw,az⟩ N bx=>?_) (fun ys I ⟨aw,az⟩ p ao=>?_)
 .subst eu;exact ⟨ax,by rw [e,bb,eX];omega⟩
 .subst aw;exact aG i x (fun y dH=>N (ys ++ [y]) dH) ak (bx _ _ ⟨rfl,by rw [az,SE f ak]⟩)
 .subst aw;rw [az,jg];exact hd p ao
theorem cY.Rk {lo:Int} {n:Nat} {g:e1} {bo:TE} {cI:St} {Q:cc} {H:aq} (f:Nat->V) (aD:n <= sizeLine) (aG:∀ (i:Nat) (N:V->aq->Prop),i < n->N (f i) H->g (.int (lo + i)) cI H fun c4 ay=>Sub cI c4/\bo c4 ay N)
  (hd:∀ p,H p=none->Q (.ref p) (upd H p (.lst ((dW n).map f)))):cY (jJ lo n) g nN bo cI Q H:=by
 refine cY.range (fun i ys I=>I=H/\ys=(dW i).map f) aD ⟨rfl,rfl⟩ (fun i ys I aj ⟨_,e⟩=>?_) (fun i ys I aj ⟨aw,az⟩ N bx=>?_) (fun ys I ⟨aw,az⟩ p ao=>?_)
 .rw [e,bb,kS];exact bu _
 .subst aw;exact aG i (fun y dH=>N (ys ++ [y]) dH) aj (bx _ _ ⟨rfl,by rw [az,oy,eD];rfl⟩)
 .subst aw;rw [az];exact hd p ao
theorem cY.akl {K:a4} (f:V->ey) (ax:aW K H a xs) (aD:xs.length <= sizeLine) (aH:∀ x,ov (f x)=true)
  (aG:∀ (i:Nat) (x:V) (H1:aq) (N:V->aq->Prop),xs[i]? = some x->aN H H1->(aY H->aY H1)->(∀ q,H1 q=none->N (.ref q) (upd H1 q (f x)))->g x cI H1 fun c4 ay=>Sub cI c4/\bo c4 ay N)
  (hd:∀ (qs:List Addr) (H1:aq),aN H H1->(aY H->aY H1)->qs.length=xs.length->(∀ (j:Nat) (q:Addr) (x:V),qs[j]? = some q->xs[j]? = some x->H1 q=some (f x)/\H q=none)->∀ p,H1 p=none->Q (.ref p) (upd H1 p (.lst (qs.map V.ref)))):cY (lr K a) g nN bo cI Q H:=by
 refine cY.list (fun i ys I=>∃ qs:List Addr,ys=qs.map V.ref/\qs.length=i/\aN H I/\(aY H->aY I)/\∀ (j:Nat) (q:Addr) (x:V),qs[j]? = some q->xs[j]? = some x->I q=some (f x)/\H q=none) aD
  ⟨[],rfl,rfl,aN.refl H,id,fun j q x h _=>by simp at h⟩ ?_ ?_ ?_
 .rintro i ys I aj bU;refine O7 fun wB bM=>?_
  obtain ⟨qs,e,az,ck,_,_⟩:=bU;subst bM;exact ⟨ax.same ck,by rw [e,bb];omega⟩
 .rintro i x ys I ak ⟨qs,aw,az,ck,bc,al⟩ N bx;refine aG i x I (fun y dH=>N (ys ++ [y]) dH) ak ck bc fun q aB=>bx _ _ ⟨qs ++ [q],by rw [aw,eD];rfl,by rw [dq,az];rfl,ck.hM (ck.free aB),fun n=>(bc n).upd (aH x),fun j cS I8 af ai=>?_⟩
  by_cases bf:j < qs.length
  .rw [kq bf] at af;obtain ⟨d_,d5⟩:=al j cS I8 af ai;exact ⟨by rw [aX (Db d_ aB)];exact d_,d5⟩
  .rw [kd (by omega)] at af;have qc:j - qs.length=0:=by
    cases cQ:j - qs.length with
    | zero=>rfl
    | succ n=>rw [cQ] at af;simp at af
   rw [qc] at af;have bW:q=cS:=by simpa using af
   subst bW;have fu:j=i:=by omega
   subst fu;rw [ak] at ai;cases ai;exact ⟨aS,ck.free aB⟩
 .rintro ys I ⟨qs,aw,az,ck,bc,al⟩ p ao;subst aw;exact hd qs I ck bc az al p ao
theorem ap.of (Pv:Nat->St->aq->Prop) (h0:Pv 0 σ H) (tl:∀ i σ H,i < n->Pv i σ H->b4.go i H) (fE:∀ σ H,Pv n σ H->b4.stop n H)
  (aG:∀ i σ H x I,i < n->Pv i σ H->b4.pN i H x I->g x σ I fun c4 ay=>ct { D with cg:=Pv (i + 1),e9:=Pv (i + 1),cq:=D.cg } c4 ay) (hd:∀ σ H,Pv n σ H->D.cg σ H):ap b4 g ct D σ H:=by
 refine ⟨fun i m σ H=>m=n - i/\i <= n/\Pv i σ H,⟨n,by simp,fL _,h0⟩,?_⟩;rintro i m σ H ⟨rfl,aj,p⟩;by_cases cH:i < n
 .exact .inr ⟨tl i σ H cH p,Pv (i + 1),fun aL I iu=>⟨n - (i + 1),by omega,rfl,cH,iu⟩,fun x I y=>aG i σ H x I cH p y⟩
 .have e:i=n:=by omega
  subst e;exact .inl ⟨fE σ H p,hd σ H p⟩
theorem cY.of (Pv:Nat->List V->aq->Prop) (aD:n <= sizeLine) (h0:Pv 0 [] H) (tl:∀ i ys H,i < n->Pv i ys H->b4.go i H) (fE:∀ ys H,Pv n ys H->b4.stop n H) (ax:∀ i ys H,i < n->Pv i ys H->ys.length <= i)
  (aG:∀ i ys H x I,i < n->Pv i ys H->b4.pN i H x I->nt Pv g cu bo cI i x ys I) (hd:∀ ys H,Pv n ys H->∀ p,H p=none->Q (.ref p) (upd H p (.lst ys))):cY b4 g cu bo cI Q H:=by
 refine ⟨fun i m ys H=>m=n - i/\i <= n/\Pv i ys H,⟨n,by simp,fL _,h0⟩,?_⟩;rintro i m ys H ⟨rfl,aj,p⟩;by_cases cH:i < n
 .have tf:=ax i ys H cH p;refine .inr ⟨tl i ys H cH p,by omega,fun x I y=>?_⟩;exact aG i ys H x I cH p y (fun iZ I=>∃ c2,c2 < n - i/\c2=n - (i + 1)/\i + 1 <= n/\Pv (i + 1) iZ I) fun iZ I r=>⟨n - (i + 1),by omega,rfl,cH,r⟩
 .have e:i=n:=by omega
  subst e;exact .inl ⟨fE ys H p,hd ys H p⟩
section
variable {K:a4} {a b:Addr} {xs ys:List V} {g:e1} {ct:dz} {D:gz} {σ cI:St} {H:aq} {cu:TT} {bo:TE} {Q:cc}
theorem ap.enum (Pv:Nat->St->aq->Prop) (h0:Pv 0 σ H) (ax:∀ i σ H,i <= xs.length->Pv i σ H->aW K H a xs)
  (aG:∀ i x σ H p,xs[i]? = some x->Pv i σ H->H p=none->g (.ref p) σ (upd H p (.tup [.int i,x])) fun c4 ay=>ct { D with cg:=Pv (i + 1),e9:=Pv (i + 1),cq:=D.cg } c4 ay) (hd:∀ σ H,Pv xs.length σ H->D.cg σ H):ap (Ar K a) g ct D σ H:=by
 refine ap.of (n:=xs.length) Pv h0 (fun i σ H aj p=>⟨xs,xs[i],ax i σ H (nu aj) p,by simp [aj]⟩) (fun σ H p=>⟨xs,ax _ σ H (bu _) p,bu _⟩) (fun i σ H v I aj p y=>?_) hd;obtain ⟨q,x,aB,rfl,ak,rfl⟩:=y;exact aG i x σ H q (ak xs (ax i σ H (nu aj) p)) p aB
theorem cY.enum (Pv:Nat->List V->aq->Prop) (aD:xs.length <= sizeLine) (h0:Pv 0 [] H) (ax:∀ i ys H,i <= xs.length->Pv i ys H->aW K H a xs/\ys.length <= i)
  (aG:∀ i x ys H p,xs[i]? = some x->Pv i ys H->H p=none->nt Pv g cu bo cI i (.ref p) ys (upd H p (.tup [.int i,x]))) (hd:∀ ys H,Pv xs.length ys H->∀ p,H p=none->Q (.ref p) (upd H p (.lst ys))):cY (Ar K a) g cu bo cI Q H:=by
 refine cY.of (n:=xs.length) Pv aD h0 (fun i ys H aj p=>⟨xs,xs[i],(ax i ys H (nu aj) p).1,by simp [aj]⟩) (fun ys H p=>⟨xs,(ax _ ys H (bu _) p).1,bu _⟩) (fun i ys H aj p=>(ax i ys H (nu aj) p).2) (fun i zs H v I aj p y=>?_) hd;obtain ⟨q,x,aB,rfl,ak,rfl⟩:=y;exact aG i x zs H q (ak xs (ax i zs H (nu aj) p).1) p aB
theorem ox {p:Addr} {x y:V} (h:bY K H p [x,y]) (q:R ((σ.set i (some x)).set j (some y)) H):t_ K 2 (qF (hX i) (qF (hX j) yq)) (.ref p) σ H R:=
 ⟨p,_,rfl,h,rfl,x,_,rfl,y,_,rfl,rfl,q⟩
theorem si {p:Addr} {x y:V} (q:R ((σ.set i (some x)).set j (some y)) (upd H p (.tup [x,y]))):t_ K 2 (qF (hX i) (qF (hX j) yq)) (.ref p) σ (upd H p (.tup [x,y])) R:=
 ox (.inl (.inl aS)) q
end
theorem Sub.r2 {v w:Option V}:Sub (none :: none :: r) (v :: w :: r):=by
 refine ⟨rfl,fun i u h=>?_⟩
 match i with
 | 0=>cases h
 | 1=>cases h
 | i + 2=>exact h
theorem cY.As {K:a4} (ax:aW K H a xs) (aD:xs.length <= sizeLine) (he:zs.length=xs.length)
  (aG:∀ (i:Nat) (x z:V) (N:V->aq->Prop),xs[i]? = some x->zs[i]? = some z->N z H->g x cI H fun c4 ay=>Sub cI c4/\bo c4 ay N) (hd:∀ p,H p=none->Q (.ref p) (upd H p (.lst zs))):cY (lr K a) g nN bo cI Q H:=by
 refine cY.list (fun i ys I=>I=H/\ys=zs.take i) aD ⟨rfl,rfl⟩ (fun i ys I aj ⟨eu,e⟩=>?_) (fun i x ys I ak ⟨aw,az⟩ N bx=>?_) (fun ys I ⟨aw,az⟩ p ao=>?_)
 .subst eu;exact ⟨ax,by rw [e,eX];omega⟩
 .subst aw;have aj:i < zs.length:=by rw [he];exact (cV.mp ak).1
  have hA:zs[i]? = some zs[i]:=cJ aj;exact aG i x zs[i] (fun y dH=>N (ys ++ [y]) dH) ak hA (bx _ _ ⟨rfl,by rw [az,i9,hA];rfl⟩)
 .subst aw;rw [az,<- he,jg];exact hd p ao
theorem cY.Z5 {K:a4} (ax:bY K H a xs) (aD:xs.length <= sizeLine) (he:zs.length=xs.length)
  (aG:∀ (i:Nat) (x z:V) (N:V->aq->Prop),xs[i]? = some x->zs[i]? = some z->N z H->g x cI H fun c4 ay=>Sub cI c4/\bo c4 ay N) (hd:∀ p,H p=none->Q (.ref p) (upd H p (.lst zs))):cY (zw K a) g nN bo cI Q H:=by
 refine RZ (xs:=xs) (fun i ys I=>I=H/\ys=zs.take i) aD ⟨rfl,rfl⟩ (fun i ys I aj ⟨eu,e⟩=>?_) (fun i x ys I ak ⟨aw,az⟩ N bx=>?_) (fun ys I ⟨aw,az⟩ p ao=>?_)
 .subst eu;exact ⟨ax,by rw [e,eX];omega⟩
 .subst aw;have aj:i < zs.length:=by rw [he];exact (cV.mp ak).1
  have hA:zs[i]? = some zs[i]:=cJ aj;exact aG i x zs[i] (fun y dH=>N (ys ++ [y]) dH) ak hA (bx _ _ ⟨rfl,by rw [az,i9,hA];rfl⟩)
 .subst aw;rw [az,<- he,jg];exact hd p ao
theorem cY.Nq {K:a4} {a:Addr} {xs:List V} {ss:List (Option V)} {g:e1} {cu:TT} {bo:TE} {cI:St} {Q:cc} {H:aq} (ax:aW K H a xs) (aD:xs.length <= sizeLine) (he:ss.length=xs.length)
  (aG:∀ (i:Nat) (x:V) (o:Option V) (ys:List V) (N:List V->aq->Prop),xs[i]? = some x->ss[i]? = some o->N (ys ++ o.toList) H->g x cI H fun c4 ay=>Sub cI c4/\cu c4 ay fun c bA=>if c=true then bo c4 bA fun y dH=>N (ys ++ [y]) dH else N ys bA)
  (hd:∀ p,H p=none->Q (.ref p) (upd H p (.lst (ss.flatMap KL)))):cY (lr K a) g cu bo cI Q H:=by
 refine cY.list (fun i ys I=>I=H/\ys=(ss.take i).flatMap KL/\ys.length <= i) aD ⟨rfl,rfl,bu _⟩ (fun i ys I aj ⟨eu,e,cy⟩=>?_) (fun i x ys I ak ⟨aw,az,bW⟩ N bx=>?_) (fun ys I ⟨aw,az,_⟩ p ao=>?_)
 .subst eu;exact ⟨ax,cy⟩
 .subst aw;have aj:i < ss.length:=by rw [he];exact (cV.mp ak).1
  have hA:ss[i]? = some ss[i]:=cJ aj;refine aG i x ss[i] ys N ak hA (bx _ _ ⟨rfl,by rw [az,i9,hA,Mk];simp,?_⟩);rw [dq];cases ss[i] <;> simp <;> omega
 .subst aw;rw [az,<- he,jg];exact hd p ao
theorem Sub.name:Sub (none :: r) (v :: r):=by
 refine ⟨rfl,fun i w h=>?_⟩;cases i with
 | zero=>cases h
 | succ i=>exact h
theorem bL {x:Str} {e:Expr} (bx:X.N.Nodup) (he:bk X e bo) (aj:X.N[i]? = some x:=by rfl) (ak:Loc X.env.scope x:=by exact lY rfl) (aG:swapsWith e (some (.Name x pos')) pos.line X.env=pure false:=by rfl) (hf:X.fn x=true\/X.env.scope.names.lookup x=some .local:=by first | exact .inl rfl | exact .inr rfl | assumption):e2 X (.Assign [.Name x pos'] e pos) (pI bo (hX i)):=BG bx aj ak he aG hf
theorem b6 {x:Str} (bx:X.N.Nodup) (aj:X.N[i]? = some x:=by rfl) (ak:Loc X.env.scope x:=by exact lY rfl) (hf:X.fn x=true\/X.env.scope.names.lookup x=some .local:=by first | exact .inl rfl | exact .inr rfl | assumption):lB X (.Name x pos) (hX i):=EM bx aj ak hf
theorem cD (av:vm X r) (aO:bk X a aV) (ab:bk X b ct) (aG:LV b:=by exact fun _ _=>rfl):bk X (.Subscript a b pos) (sa r aV ct):=acf av aO ab aG
theorem bK {k:Nat} {fd:FuncData} {x:Str} {p pos:Pos} {e:Expr} {t:d2} (F:bt X.prog X.w X.K X.ah X.base b7 k f fd ps sp) (av:eh k X.A) (hm:X.ah x=some (.ref f)) (aJ:pJ X.K (.ref f)=true) (ab:bZ X.K fd ps []) (aO:ei X (e :: aF) t) (bj:hn X x:=by rfl) (fc:(x == ("__debug__" : Str))=false:=by decide) (he:starEach (e :: aF) X.env=(false,eval e X.env) :: starEach aF X.env:=by rfl) (eE:(backTo pos (starEach aF X.env)).any (·.1)=false:=by rfl):bk X (.Call (.Name x p) (e :: aF) [] pos) (vW sp [] E0 t):=E9 F av bj hm aJ ab .nil cT aO fc he eE
end L2
local macro_rules|`(tactic|nofun)=>do let f(s:String):=(s.splitOn " ").toArray.map fun x=>Lean.mkCIdent x.toName;let c:=f "L2.y4 L2.sj L2.z0 L2.GS L2.KJ L2.Ja L2.HH L2.Gb L2.Fh L2.ft L2.di L2.F4 L2.Cr L2.Hq L2.Fn L2.hX L2.yq L2.qF L2.t_ L2.FK L2.pI L2.G_ L2.Jo L2.Ju L2.sa L2.Fi L2.tk L2.p4 L2.z4 L2.Dk L2.C0 L2.FC L2.DP L2.K2 L2.Oh L2.Fb L2.tU L2.HZ L2.HF L2.HO L2.vW L2.Lu L2.LI L2.CG L2.It L2.Hs L2.D5 L2.QL L2.TV L2.Ek L2.IY L2.Er L2.JN L2.G7 L2.Co L2.G6 L2.HT L2.Jv L2.E4 L2.H4 L2.DI L2.Kt L2.KO L2.HC L2.JY L2.Fe L2.nN L2.ET L2.Io L2.EA L2.DK L2.Q3 L2.J0 L2.Hh L2.EJ L2.Eh L2.Hf L2.EH L2.Ei L2.JQ L2.ED L2.SJ L2.IG L2.Pe L2.C' L2.oG L2.JZ L2.F7 L2.El L2.C1 L2.Hr L2.Mx L2.RQ L2.UD L2.Ld L2.Ln L2.Nv L2.L4 L2.K7 L2.OU L2.Qr L2.TD L2.N0 L2.Pf L2.Nz L2.start L2.Si Nat.reduceAdd Nat.reduceSub List.replicate";let a:=f "L2.mE L2.afm L2.aP.vo L2.aP.dV L2.aP.block L2.aP.h5 L2.aP.aH L2.abY L2.ajF L2.aeh L2.XP L2.W0 L2.Z' L2.adw L2.ahZ L2.acL L2.ad' L2.abq L2.aip L2.aib L2.aj_"++c;let b:=c++f "L2.ae6 L2.aec L2.aeu L2.XN L2.ac5 List.map_cons List.map_nil Option.bind_none Option.bind_some Option.join_some Option.join_none List.length_cons List.length_nil Nat.zero_add List.cons_append List.nil_append List.append_nil List.set_cons_zero List.set_cons_succ List.getElem?_cons_zero List.getElem?_cons_succ Option.some.injEq L2.V.int.injEq L2.V.bp.injEq L2.V.str.injEq L2.V.ref.injEq L2.V.ty.injEq exists_eq_left' exists_eq_left exists_and_left List.cons.injEq and_true true_and and_assoc Int.zero_add reduceCtorEq false_and exists_false and_false ite_true ite_false if_true if_false Bool.false_eq_true L2.HN L2.A9 false_or or_false Bool.not_true Bool.not_false decide_true decide_false";`(tactic|((try dsimp only [$[$a:ident],*]);(try simp only [$[$b:ident],*])))
local macro_rules | `(tactic| walk_at "B")=>`(tactic| first | rfl | (dsimp only [L2.aP.block];done) | (dsimp only [L2.aP.block];exact rfl))
local macro_rules | `(tactic| walk_at "F")=>`(tactic| exact ⟨rfl,rfl,rfl,by ac_nf,rfl,by ac_nf,by ac_nf⟩)
namespace L2
open PySem
theorem cF {P:Program} {w:World} {K:a4} {ah:Str->Option Value} {base:Heap} {C:hF} {m n:Nat} {f a:Addr} {fd b:FuncData} {ps q:List Str} {sp S:bI} (h:bt P w K ah base C m f fd ps sp) (g:bt P w K ah base C n f fd ps sp->bt P w K ah base C (n+1) a b q S) (hm:m<=n:=by decide):bt P w K ah base C (n+1) a b q S:=g (h.mono hm)
end L2
set_option hygiene false
local macro_rules | `(tactic| walk_at "O")=>`(tactic| (intro vs H Q E h;repeat (first | (obtain ⟨rfl,_⟩:=h;rfl) | (obtain ⟨_,h⟩:=h))))
set_option hygiene true
set_option hygiene false
local macro_rules | `(tactic| ac_rfl)=>`(tactic| refine O7 fun wB bM=>?_)
local macro_rules | `(tactic| exists $e,0)=>`(tactic| refine Lo $e (fun gH cn=>?_) fun wB bM=>?_)
local macro_rules | `(tactic| exists $e,2)=>`(tactic| refine Lo $e (fun gH oY=>?_) fun wB bM=>?_)
local macro_rules | `(tactic| exists $e,3)=>`(tactic| refine ML $e (fun gH cn=>?_) fun wB bM=>?_)
local macro_rules | `(tactic| exists $e,5)=>`(tactic| refine ML $e (fun gH oY=>?_) fun wB bM=>?_)
local macro_rules | `(tactic| exists $e,9)=>`(tactic| refine ($e) (by walk_at "O") (fun _ _ _ s H vs Q E av h=>?_))
set_option hygiene true
namespace My
open PySem L2
local macro_rules|`(~~~$x)=>`(some (L2.V.ref $x))
abbrev i1:List Str:=["self","name"]
abbrev jS:List Str:=["self","name","start","end","off","near","least"]
abbrev lW:List Str:=["crossing","wants"]
abbrev nS:List Str:=["order","one","other"]
abbrev nC:List Str:=["crossing","one","other"]
abbrev vu:List Str:=["_law_script","_law_k","_law_many"]
abbrev Ad:List Str:=["self","good"]
abbrev pg:List Str:=["_law_script"]
abbrev Gw:List Str:=["self","low","high"]
abbrev wI:List Str:=["word","signs","most"]
abbrev w_:List Str:=["book","name"]
abbrev y3:List Str:=["self","kind","name","start","end","off","near","least"]
abbrev AD:List Str:=["wanted","size","order","one","other"]
abbrev uU:List Str:=["wanted","size","rings","order"]
abbrev s7:List Str:=["_law_book","_law_wants"]
abbrev uA:List Str:=["self","row","told"]
abbrev BD:List Str:=["self","choices"]
abbrev t9:List Str:=["self","crossing","wants"]
abbrev uG:List Str:=["self","row"]
abbrev tv:List Str:=["name","turns","crossing"]
abbrev uW:List Str:=["want","way"]
abbrev y6:List Str:=["word","most_figures"]
abbrev CW:List Str:=["reader","places","start"]
abbrev zm:List Str:=["sort","name","start","end","off","near","least"]
abbrev Bj:List Str:=["places","way","second"]
abbrev x3:List Str:=["wanted","size","order","ring"]
abbrev xw:List Str:=["wanted","size","rings"]
abbrev vk:List Str:=["reader","part"]
abbrev v8:List Str:=["_law_script","_law_many","_law_places_here"]
abbrev xk:List Str:=["_law_script","_law_ways_here"]
abbrev yf:List Str:=["self","crossing","wants","ways","one","want","other","second"]
abbrev Bb:List Str:=["self","first","parts","text"]
abbrev D2:List Str:=["word","low","high"]
abbrev Dl:List Str:=["reader","ways"]
abbrev Cj:List Str:=["reader","places","ways"]
abbrev BQ:List Str:=["places","way","place"]
abbrev C6:List Str:=["wanted","paths"]
abbrev Bc:List Str:=["wanted","order"]
abbrev zk:List Str:=["wanted","size","order"]
abbrev Kf:List Str:=["reader","known"]
abbrev DE:List Str:=["_law_script","_law_many"]
abbrev zO:List Str:=["_law_places_here","_law_ways_here"]
abbrev y2:List Str:=["_law_names_here"]
abbrev Az:List Str:=["_law_desk","_law_row_here"]
abbrev zt:List Str:=["_law_script","_law_desk","_law_same","_law_kept","_law_n","_law_some","_law_places_here","_law_ways_here","_law_text_here","_law_wants","_law_book","_law_due","_law_strange","_law_k","_law_first"]
abbrev AO:List Str:=["self","places","ways"]
abbrev He:List Str:=["wanted","paths","found","path","nearby"]
abbrev F6:List Str:=["wanted","found","paths"]
abbrev JG:List Str:=["wanted","size","order","begins","want","one","other"]
abbrev Gy:List Str:=["_law_name","_law_turns"]
abbrev Il:List Str:=["_law_name","_law_turns","_law_strange"]
seal L2.ei L2.bk L2.e2 L2.f_ L2.hi L2.gr
def jn (K:a4) (a:Addr) (xs:List V):Prop:=∀ H:aq,bY K H a xs
theorem abt {K:a4} {a:Addr} {dU:Option Addr} {aI:Array Value} {n:Nat} {bE:Array (Option Value)} {xs:List V} (x:K.lookup a=some ⟨.type "tuple",dU,.seq aI n,bE⟩) (y:aI.size <= sizeLine) (z:bN xs aI.toList):jn K a xs:=
 fun _=>.inr ⟨_,aI,n,x,rfl,rfl,y,z⟩
def Av (w:World) (K:a4) (a:Addr) (bB:List Str):Prop:=∃ aF n,(a == sysModules)=false/\K.lookup a=some ⟨.type "dict",none,.dict aF n,#[]⟩/\HK w.params aF.toList/\bN (bB.map V.str) (aF.toList.map (·.key))
theorem aaY {w:World} {K:a4} {a:Addr} {aF:Array DictEntry} {n:Nat} {bB:List Str} (x:K.lookup a=some ⟨.type "dict",none,.dict aF n,#[]⟩) (y:HK w.params aF.toList) (u:(a == sysModules)=false) (z:bN (bB.map V.str) (aF.toList.map (·.key))):Av w K a bB:=⟨aF,n,u,x,y,z⟩
noncomputable def top (i:Nat):Stmt:=PySem.Challenge.pw_lampway_k84_shortest_at_a_desk.main.body.getD i (.Pass ⟨0,0,0,0⟩)
noncomputable abbrev Aw:Stmt:=top 16
theorem Xs:b9 ["text"] ["text"] (bG Aw):=(by walk_at "F")
noncomputable abbrev A_:Stmt:=top 17
theorem ag3:b9 wI wI (bG A_):=(by walk_at "F")
noncomputable abbrev Dc:Stmt:=top 18
theorem aji:b9 y6 y6 (bG Dc):=(by walk_at "F")
noncomputable abbrev Fx:Stmt:=top 19
theorem OF:b9 ["word","low","high","number"] D2 (bG Fx):=(by walk_at "F")
noncomputable abbrev IC:Stmt:=top 21
theorem aaL:b9 ["word"] ["word"] (bG IC):=(by walk_at "F")
noncomputable abbrev y5:Stmt:=top 24
theorem X7:b9 ["text"] ["text"] (bG y5):=(by walk_at "F")
noncomputable abbrev I9:Stmt:=top 38
theorem OT:b9 ["reader","places"] ["reader"] (bG I9):=(by walk_at "F")
noncomputable abbrev zU:Stmt:=top 39
theorem Sy:b9 ["reader","ways","name"] Dl (bG zU):=(by walk_at "F")
noncomputable abbrev GG:Stmt:=top 40
theorem ai_:b9 CW CW (bG GG):=(by walk_at "F")
noncomputable abbrev D0:Stmt:=top 41
theorem WL:b9 zm zm (bG D0):=(by walk_at "F")
noncomputable abbrev C_:Stmt:=top 42
theorem oV:b9 ["reader","places","ways","sort","name","start","end","off","near","least"] Cj (bG C_):=(by walk_at "F")
noncomputable abbrev EP:Stmt:=top 43
theorem wd:b9 ["text","rows","places","ways","reader"] ["text"] (bG EP):=(by walk_at "F")
noncomputable abbrev Jy:Stmt:=top 51
theorem Sk:b9 ["places","way","place","steps"] BQ (bG Jy):=(by walk_at "F")
noncomputable abbrev GK:Stmt:=top 52
theorem ZP:b9 Bj Bj (bG GK):=(by walk_at "F")
noncomputable abbrev UF:Stmt:=top 53
theorem Ez:b9 ["crossing","one","other","way","second"] nC (bG UF):=(by walk_at "F")
noncomputable abbrev Dh:Stmt:=top 54
theorem KQ:b9 ["crossing","one","other","way","second"] nC (bG Dh):=(by walk_at "F")
noncomputable abbrev JB:Stmt:=top 106
theorem En:b9 ["wanted","order","other"] ["wanted"] (bG JB):=(by walk_at "F")
noncomputable abbrev F':Stmt:=top 107
theorem ahD:b9 nS nS (bG F'):=(by walk_at "F")
noncomputable abbrev D8:Stmt:=top 108
theorem RP:b9 ["order","one","other","more"] nS (bG D8):=(by walk_at "F")
noncomputable abbrev Jx:Stmt:=top 109
theorem RN:b9 ["wanted","size","order","one","other","step"] AD (bG Jx):=(by walk_at "F")
noncomputable abbrev Eg:Stmt:=top 110
theorem uK:b9 ["wanted","size","order","ring","total","place","one","other"] x3 (bG Eg):=(by walk_at "F")
noncomputable abbrev xg:Stmt:=top 112
theorem A1:b9 He C6 (bG xg):=(by walk_at "F")
noncomputable abbrev xt:Stmt:=top 113
theorem yW:b9 F6 ["wanted"] (bG xt):=(by walk_at "F")
noncomputable abbrev I':Stmt:=top 114
theorem E5:b9 ["wanted","order","one","other"] Bc (bG I'):=(by walk_at "F")
noncomputable abbrev yI:Stmt:=top 115
theorem wW:b9 JG zk (bG yI):=(by walk_at "F")
noncomputable abbrev Ea:Stmt:=top 116
theorem m':b9 ["wanted","size","rings","order","ring","pair","one","other","begins","paper","second"] uU (bG Ea):=(by walk_at "F")
noncomputable abbrev DC:Stmt:=top 117
theorem FV:b9 ["wanted","size","rings","want","turns"] xw (bG DC):=(by walk_at "F")
noncomputable abbrev A6:Stmt:=top 118
theorem bi:b9 ["wanted","total","want"] ["wanted"] (bG A6):=(by walk_at "F")
noncomputable abbrev C5:Stmt:=top 119
theorem fA:b9 ["crossing","wants","wanted","rings","low","high","paper","begins","size","found","no_begins"] lW (bG C5):=(by walk_at "F")
noncomputable abbrev Jn:Stmt:=top 126
theorem P0:b9 ["reader","name"] ["reader"] (bG Jn):=(by walk_at "F")
noncomputable abbrev FI:Stmt:=top 129
theorem RA:b9 ["reader","known","name"] Kf (bG FI):=(by walk_at "F")
noncomputable abbrev zJ:Stmt:=top 130
theorem Nu:b9 ["reader","wants"] ["reader"] (bG zJ):=(by walk_at "F")
noncomputable abbrev C9:Stmt:=top 131
theorem acB:b9 vk vk (bG C9):=(by walk_at "F")
noncomputable abbrev zD:Stmt:=top 132
theorem CK:b9 ["told","reader","first","parts"] ["told"] (bG zD):=(by walk_at "F")
noncomputable abbrev GV:Stmt:=top 133
theorem sE:b9 ["row","told","line_end","text","first","parts"] ["row"] (bG GV):=(by walk_at "F")
noncomputable abbrev G4:Stmt:=top 147
theorem afD:b9 w_ w_ (bG G4):=(by walk_at "F")
noncomputable abbrev DD:Stmt:=top 153
theorem QT:b9 lW lW (bG DD):=(by walk_at "F")
noncomputable abbrev E8:Stmt:=top 156
theorem wn:b9 ["_law_script","_law_k","_law_many","_law_cell","_law_seed"] vu (bG E8):=(by walk_at "F")
noncomputable abbrev Tl:Stmt:=top 157
theorem Vy:b9 pg pg (bG Tl):=(by walk_at "F")
noncomputable abbrev zy:Stmt:=top 158
theorem l0:b9 ["_law_script","_law_many","_law_letters","_law_word","_law_size","_law_at","_law_first","_law_some","_law_k","_law_name","_law_sign"] DE (bG zy):=(by walk_at "F")
noncomputable abbrev H5:Stmt:=top 159
theorem j':b9 ["_law_script","_law_many","_law_places_here","_law_names_here","_law_one_end","_law_ways_here","_law_k","_law_start","_law_end","_law_off","_law_near","_law_sort","_law_least"] v8 (bG H5):=(by walk_at "F")
noncomputable abbrev Ax:Stmt:=top 160
theorem Es:b9 ["_law_places_here","_law_ways_here","_law_rows","_law_way"] zO (bG Ax):=(by walk_at "F")
noncomputable abbrev Eo:Stmt:=top 161
theorem o9:b9 ["_law_script","_law_ways_here","_law_many","_law_first","_law_wanted_here","_law_k","_law_turns"] xk (bG Eo):=(by walk_at "F")
noncomputable abbrev Bu:Stmt:=top 162
theorem adF:b9 s7 s7 (bG Bu):=(by walk_at "F")
noncomputable abbrev CC:Stmt:=top 163
theorem Ms:b9 ["_law_names_here","_law_some"] y2 (bG CC):=(by walk_at "F")
noncomputable abbrev HQ:Stmt:=top 164
theorem Bh:b9 ["_law_desk","_law_row_here","_law_word","e"] Az (bG HQ):=(by walk_at "F")
noncomputable abbrev t2:Stmt:=top 165
theorem jl:b9 zt pg (bG t2):=(by walk_at "F")
noncomputable abbrev JT:Stmt:=gd (top 4) 0
theorem aga:b9 i1 i1 (bG JT):=(by walk_at "F")
noncomputable abbrev KG:Stmt:=gd (top 23) 0
theorem Zb:b9 uA uA (bG KG):=(by walk_at "F")
noncomputable abbrev CY:Stmt:=gd (top 23) 1
theorem acu:b9 ["self"] ["self"] (bG CY):=(by walk_at "F")
noncomputable abbrev Ii:Stmt:=gd (top 23) 2
theorem ael:b9 ["self"] ["self"] (bG Ii):=(by walk_at "F")
noncomputable abbrev DG:Stmt:=gd (top 23) 4
theorem afi:b9 Ad Ad (bG DG):=(by walk_at "F")
noncomputable abbrev De:Stmt:=gd (top 23) 5
theorem Ob:b9 ["self","choices","found"] BD (bG De):=(by walk_at "F")
noncomputable abbrev I1:Stmt:=gd (top 23) 6
theorem TX:b9 ["self","low","high","found"] Gw (bG I1):=(by walk_at "F")
noncomputable abbrev Hu:Stmt:=gd (top 23) 7
theorem aeY:b9 ["self"] ["self"] (bG Hu):=(by walk_at "F")
noncomputable abbrev cr:Stmt:=gd (top 26) 0
theorem Y3:b9 y3 y3 (bG cr):=(by walk_at "F")
noncomputable abbrev Ku:Stmt:=gd (top 27) 0
theorem YV:b9 jS jS (bG Ku):=(by walk_at "F")
noncomputable abbrev EO:Stmt:=gd (top 27) 1
theorem acK:b9 ["self"] ["self"] (bG EO):=(by walk_at "F")
noncomputable abbrev im:Stmt:=gd (top 27) 2
theorem UX:b9 ["self"] ["self"] (bG im):=(by walk_at "F")
noncomputable abbrev G1:Stmt:=gd (top 28) 0
theorem U':b9 jS jS (bG G1):=(by walk_at "F")
noncomputable abbrev GL:Stmt:=gd (top 28) 1
theorem V2:b9 ["self"] ["self"] (bG GL):=(by walk_at "F")
noncomputable abbrev GY:Stmt:=gd (top 28) 2
theorem acb:b9 ["self"] ["self"] (bG GY):=(by walk_at "F")
noncomputable abbrev G':Stmt:=gd (top 29) 0
theorem ajh:b9 jS jS (bG G'):=(by walk_at "F")
noncomputable abbrev J1:Stmt:=gd (top 29) 1
theorem ahd:b9 ["self"] ["self"] (bG J1):=(by walk_at "F")
noncomputable abbrev II:Stmt:=gd (top 29) 2
theorem aap:b9 ["self"] ["self"] (bG II):=(by walk_at "F")
noncomputable abbrev HS:Stmt:=gd (top 37) 0
theorem DS:b9 ["self","places","ways","number","way"] AO (bG HS):=(by walk_at "F")
noncomputable abbrev Jp:Stmt:=gd (top 37) 2
theorem PE:b9 i1 i1 (bG Jp):=(by walk_at "F")
noncomputable abbrev GO:Stmt:=gd (top 37) 3
theorem T1:b9 i1 i1 (bG GO):=(by walk_at "F")
noncomputable abbrev ri:Stmt:=gd (top 104) 0
theorem k3:b9 yf t9 (bG ri):=(by walk_at "F")
noncomputable abbrev jp:Stmt:=gd (top 154) 0
theorem ajZ:b9 ["self"] ["self"] (bG jp):=(by walk_at "F")
noncomputable abbrev JJ:Stmt:=gd (top 154) 1
theorem pa:b9 ["self","row","first","parts","text"] uG (bG JJ):=(by walk_at "F")
noncomputable abbrev Ee:Stmt:=gd (top 154) 2
theorem Ut:b9 ["self","first","parts","text","crossing","stages"] Bb (bG Ee):=(by walk_at "F")
set_option genInjectivity false in
set_option genInjectivity false in
structure bJ where
 {rU x' vB xq vP dl Ch Re w8 xr th sf u0 x5 rq rb vz so ve tn r7 wG qD sy tA o7 rv qU p8 xm w5 yR u3 x2 uJ tM r_ qy qR vx sb sz rA uk tP uL xb rW bd uZ tK sS rp uC q3 u6 qW wf tr r' uY sv ry uu sO qH qf o5 oR rm nT qB dZ ji eF eI eQ fo m6 nE rT dS gA xd h6 ra C7 Ts TL MU Pa MP Up QM LF IQ w3:Addr}
 {ui Ao B7 zn yT x7 wN zB A' yY vw sI wz BH s8 tW lf vZ li wM uB z2 te xE yr qL vg sr rj Cw Ah Cv yS Cb wK yb ug td su zT sC xP uq yx vO xG tb xC sl BK ad CO wA zA x1 Be xp ii y0 xy y8 BW xn CM ci vH uy uw q9 yQ qu re:FuncData}
 {yU zf AE Ap Ct BX zR Bf zq zW zd zC AG:Value}
noncomputable abbrev Jw (t:bJ):List (Str × V):=[((ag "crossing"),.ref t.C7),((ag "plan"),.ref t.Ts),((ag "stages"),.ref t.TL),((ag "colours"),.ref t.MU),((ag "wait"),.ref t.Pa),((ag "longest"),.ref t.MP),((ag "draw"),.ref t.Up),((ag "turn"),.ref t.QM),((ag "worst"),.ref t.LF),((ag "shortest"),.ref t.IQ)]
structure Txt (w:World) (K:a4) (ah:Str->Option Value) (t:bJ):Prop where
 hC:(ah "words"=some (.ref t.rU))/\(a7 K "words" "words" Aw t.rU t.ui)/\(ah "is_made_of"=some (.ref t.x'))/\(a7 K "is_made_of" "is_made_of" A_ t.x' t.Ao)/\(ah "is_number"=some (.ref t.vB))/\(a7 K "is_number" "is_number" Dc t.vB t.B7)/\(ah "figured"=some (.ref t.xq))/\(a7 K "figured" "figured" Fx t.xq t.zn)/\(ah "is_name"=some (.ref t.vP))/\(a7 K "is_name" "is_name" IC t.vP t.yT)/\(ah "readers"=some (.ref t.dl))/\(a7 K "readers" "readers" y5 t.dl t.x7)/\(ah "read_ring"=some (.ref t.Ch))/\(a7 K "read_ring" "read_ring" I9 t.Ch t.wN)/\(ah "read_new_name"=some (.ref t.Re))/\(a7 K "read_new_name" "read_new_name" zU t.Re t.zB)/\(ah "read_end"=some (.ref t.w8))/\(a7 K "read_end" "read_end" GG t.w8 t.A')/\(ah "made_way"=some (.ref t.xr))/\(a7 K "made_way" "made_way" D0 t.xr t.yY)
 hI:(ah "read_way"=some (.ref t.th))/\(a7 K "read_way" "read_way" C_ t.th t.vw)/\(ah "read_crossing"=some (.ref t.sf))/\(a7 K "read_crossing" "read_crossing" EP t.sf t.sI)/\(ah "in_bow"=some (.ref t.u0))/\(a7 K "in_bow" "in_bow" Jy t.u0 t.wz)/\(ah "bows_cross"=some (.ref t.x5))/\(a7 K "bows_cross" "bows_cross" GK t.x5 t.BH)/\(ah "meet"=some (.ref t.rq))/\(a7 K "meet" "meet" UF t.rq t.s8)/\(ah "gap"=some (.ref t.rb))/\(a7 K "gap" "gap" Dh t.rb t.tW)/\(ah "order_at_first"=some (.ref t.vz))/\(a7 K "order_at_first" "order_at_first" JB t.vz t.lf)/\(ah "in_some_order"=some (.ref t.so))/\(a7 K "in_some_order" "in_some_order" F' t.so t.vZ)/\(ah "with_ahead"=some (.ref t.ve))/\(a7 K "with_ahead" "with_ahead" D8 t.ve t.li)/\(ah "step_in_order"=some (.ref t.tn))/\(a7 K "step_in_order" "step_in_order" Jx t.tn t.wM)
 hO:(ah "ring_bears"=some (.ref t.r7))/\(a7 K "ring_bears" "ring_bears" Eg t.r7 t.uB)/\(ah "paths_longer_by_one"=some (.ref t.wG))/\(a7 K "paths_longer_by_one" "paths_longer_by_one" xg t.wG t.z2)/\(ah "rings_of"=some (.ref t.qD))/\(a7 K "rings_of" "rings_of" xt t.qD t.te)/\(ah "pair_without_order"=some (.ref t.sy))/\(a7 K "pair_without_order" "pair_without_order" I' t.sy t.xE)/\(ah "begins_in_order"=some (.ref t.tA))/\(a7 K "begins_in_order" "begins_in_order" yI t.tA t.yr)/\(ah "settled"=some (.ref t.o7))/\(a7 K "settled" "settled" Ea t.o7 t.qL)/\(ah "settled_for"=some (.ref t.rv))/\(a7 K "settled_for" "settled_for" DC t.rv t.vg)/\(ah "long_enough"=some (.ref t.qU))/\(a7 K "long_enough" "long_enough" A6 t.qU t.sr)/\(ah "shortest"=some (.ref t.p8))/\(a7 K "shortest" "shortest" C5 t.p8 t.rj)/\(ah "read_name"=some (.ref t.xm))/\(a7 K "read_name" "read_name" Jn t.xm t.Cw)
 hV:(ah "read_want"=some (.ref t.w5))/\(a7 K "read_want" "read_want" FI t.w5 t.Ah)/\(ah "read_wants"=some (.ref t.yR))/\(a7 K "read_wants" "read_wants" zJ t.yR t.Cv)/\(ah "read_part"=some (.ref t.u3))/\(a7 K "read_part" "read_part" C9 t.u3 t.yS)/\(ah "read_words"=some (.ref t.x2))/\(a7 K "read_words" "read_words" zD t.x2 t.Cb)/\(ah "read_saying"=some (.ref t.uJ))/\(a7 K "read_saying" "read_saying" GV t.uJ t.wK)/\(ah "looked_up"=some (.ref t.tM))/\(a7 K "looked_up" "looked_up" G4 t.tM t.yb)/\(ah "shortest_row"=some (.ref t.r_))/\(a7 K "shortest_row" "shortest_row" DD t.r_ t.ug)/\(ah "_law_draw"=some (.ref t.qy))/\(a7 K "_law_draw" "_law_draw" E8 t.qy t.td)/\(ah "_law_places"=some (.ref t.qR))/\(a7 K "_law_places" "_law_places" Tl t.qR t.su)/\(ah "_law_names"=some (.ref t.vx))/\(a7 K "_law_names" "_law_names" zy t.vx t.zT)
 ih:(ah "_law_ways"=some (.ref t.sb))/\(a7 K "_law_ways" "_law_ways" H5 t.sb t.sC)/\(ah "_law_text"=some (.ref t.sz))/\(a7 K "_law_text" "_law_text" Ax t.sz t.xP)/\(ah "_law_wanted"=some (.ref t.rA))/\(a7 K "_law_wanted" "_law_wanted" Eo t.rA t.uq)/\(ah "_law_row"=some (.ref t.uk))/\(a7 K "_law_row" "_law_row" Bu t.uk t.yx)/\(ah "_law_strangers"=some (.ref t.tP))/\(a7 K "_law_strangers" "_law_strangers" CC t.tP t.vO)/\(ah "_law_refused"=some (.ref t.uL))/\(a7 K "_law_refused" "_law_refused" HQ t.uL t.xG)/\(ah "law"=some (.ref t.xb))/\(a7 K "law" "law" t2 t.xb t.tb)/\(ah "NoWay"=some (.ref t.h6))/\(dB K (.ref t.h6) "__init__"=some (some (.ref t.rW)))/\(a7 K "__init__" "NoWay.__init__" JT t.rW t.xC)/\(ah "RowReader"=some (.ref t.dZ))/\(dB K (.ref t.dZ) "__init__"=some (some (.ref t.bd)))/\(a7 K "__init__" "RowReader.__init__" KG t.bd t.sl)
 mF:(dB K (.ref t.dZ) "ahead"=some (some (.ref t.uZ)))/\(a7 K "ahead" "RowReader.ahead" CY t.uZ t.BK)/\(dB K (.ref t.dZ) "has_more"=some (some (.ref t.tK)))/\(a7 K "has_more" "RowReader.has_more" Ii t.tK t.ad)/\(dB K (.ref t.dZ) "take"=some (some (.ref t.sS)))/\(a7 K "take" "RowReader.take" DG t.sS t.CO)/\(dB K (.ref t.dZ) "one_of"=some (some (.ref t.rp)))/\(a7 K "one_of" "RowReader.one_of" De t.rp t.wA)/\(dB K (.ref t.dZ) "figures"=some (some (.ref t.uC)))/\(a7 K "figures" "RowReader.figures" I1 t.uC t.zA)/\(dB K (.ref t.dZ) "finish"=some (some (.ref t.q3)))/\(a7 K "finish" "RowReader.finish" Hu t.q3 t.x1)/\(ah "Way"=some (.ref t.ji))/\(dB K (.ref t.ji) "__init__"=some (some (.ref t.u6)))/\(a7 K "__init__" "Way.__init__" cr t.u6 t.Be)/\(ah "CarWay"=some (.ref t.eF))/\(dB K (.ref t.eF) "__init__"=some (some (.ref t.qW)))/\(a7 K "__init__" "CarWay.__init__" Ku t.qW t.xp)/\(dB K (.ref t.eF) "ready"=some (some (.ref t.wf)))/\(a7 K "ready" "CarWay.ready" EO t.wf t.ii)
 mi:(dB K (.ref t.eF) "fade"=some (some (.ref t.tr)))/\(a7 K "fade" "CarWay.fade" im t.tr t.y0)/\(ah "FootWay"=some (.ref t.eI))/\(dB K (.ref t.eI) "__init__"=some (some (.ref t.r')))/\(a7 K "__init__" "FootWay.__init__" G1 t.r' t.xy)/\(dB K (.ref t.eI) "ready"=some (some (.ref t.uY)))/\(a7 K "ready" "FootWay.ready" GL t.uY t.y8)/\(dB K (.ref t.eI) "fade"=some (some (.ref t.sv)))/\(a7 K "fade" "FootWay.fade" GY t.sv t.BW)/\(ah "TramWay"=some (.ref t.eQ))/\(dB K (.ref t.eQ) "__init__"=some (some (.ref t.ry)))/\(a7 K "__init__" "TramWay.__init__" G' t.ry t.xn)/\(dB K (.ref t.eQ) "ready"=some (some (.ref t.uu)))/\(a7 K "ready" "TramWay.ready" J1 t.uu t.CM)/\(dB K (.ref t.eQ) "fade"=some (some (.ref t.sO)))/\(a7 K "fade" "TramWay.fade" II t.sO t.ci)/\(ah "Crossing"=some (.ref t.fo))/\(dB K (.ref t.fo) "__init__"=some (some (.ref t.qH)))/\(a7 K "__init__" "Crossing.__init__" HS t.qH t.vH)/\(dB K (.ref t.fo) "number"=some (some (.ref t.qf)))
 jT:(a7 K "number" "Crossing.number" Jp t.qf t.uy)/\(dB K (.ref t.fo) "called"=some (some (.ref t.o5)))/\(a7 K "called" "Crossing.called" GO t.o5 t.uw)/\(ah "Wanted"=some (.ref t.dS))/\(dB K (.ref t.dS) "__init__"=some (some (.ref t.oR)))/\(a7 K "__init__" "Wanted.__init__" ri t.oR t.q9)/\(ah "Desk"=some (.ref t.gA))/\(dB K (.ref t.gA) "__init__"=some (some (.ref t.rm)))/\(a7 K "__init__" "Desk.__init__" jp t.rm t.yQ)/\(dB K (.ref t.gA) "say"=some (some (.ref t.nT)))/\(a7 K "say" "Desk.say" JJ t.nT t.qu)/\(dB K (.ref t.gA) "take_text"=some (some (.ref t.qB)))/\(a7 K "take_text" "Desk.take_text" Ee t.qB t.re)/\(et K t.dZ)/\(iW K t.dZ t.bd)/\(ed K t.dZ "ahead" t.uZ)/\(ed K t.dZ "has_more" t.tK)/\(ed K t.dZ "take" t.sS)/\(ed K t.dZ "one_of" t.rp)/\(ed K t.dZ "figures" t.uC)
 lA:(ed K t.dZ "finish" t.q3)/\(bz K t.dZ "row")/\(bz K t.dZ "told")/\(bz K t.dZ "place")/\(et K t.ji)/\(bz K t.ji "kind")/\(bz K t.ji "name")/\(bz K t.ji "start")/\(bz K t.ji "end")/\(bz K t.ji "off")/\(bz K t.ji "near")/\(bz K t.ji "least")/\(et K t.eF)/\(iW K t.eF t.qW)/\(ed K t.eF "ready" t.wf)/\(ed K t.eF "fade" t.tr)/\(bz K t.eF "kind")/\(bz K t.eF "name")/\(bz K t.eF "start")/\(bz K t.eF "end")
 hS:(bz K t.eF "off")/\(bz K t.eF "near")/\(bz K t.eF "least")/\(et K t.eI)/\(iW K t.eI t.r')/\(ed K t.eI "ready" t.uY)/\(ed K t.eI "fade" t.sv)/\(bz K t.eI "kind")/\(bz K t.eI "name")/\(bz K t.eI "start")/\(bz K t.eI "end")/\(bz K t.eI "off")/\(bz K t.eI "near")/\(bz K t.eI "least")/\(et K t.eQ)/\(iW K t.eQ t.ry)/\(ed K t.eQ "ready" t.uu)/\(ed K t.eQ "fade" t.sO)/\(bz K t.eQ "kind")/\(bz K t.eQ "name")
 lP:(bz K t.eQ "start")/\(bz K t.eQ "end")/\(bz K t.eQ "off")/\(bz K t.eQ "near")/\(bz K t.eQ "least")/\(et K t.fo)/\(iW K t.fo t.qH)/\(ed K t.fo "number" t.qf)/\(ed K t.fo "called" t.o5)/\(bz K t.fo "places")/\(bz K t.fo "ways")/\(bz K t.fo "numbers")/\(ah "Stages"=some (.ref t.m6))/\(et K t.m6)/\(bz K t.m6 "crossing")/\(bz K t.m6 "many")/\(bz K t.m6 "leasts")/\(bz K t.m6 "mosts")/\(bz K t.m6 "members")/\(bz K t.m6 "sorts")
 Zl:(bz K t.m6 "homes")/\(bz K t.m6 "changes")/\(ah "Keeper"=some (.ref t.nE))/\(et K t.nE)/\(bz K t.nE "stages")/\(bz K t.nE "showing")/\(bz K t.nE "lasted")/\(bz K t.nE "left")/\(bz K t.nE "sought")/\(bz K t.nE "gone")/\(bz K t.nE "waiting")/\(bz K t.nE "picked")/\(ah "Plan"=some (.ref t.rT))/\(et K t.rT)/\(bz K t.rT "crossing")/\(bz K t.rT "size")/\(bz K t.rT "spans")/\(bz K t.rT "lamps")/\(bz K t.rT "untils")/\(et K t.dS)
 iE:(iW K t.dS t.oR)/\(bz K t.dS "many")/\(bz K t.dS "alones")/\(bz K t.dS "steps")/\(et K t.gA)/\(iW K t.gA t.rm)/\(ed K t.gA "say" t.nT)/\(ed K t.gA "take_text" t.qB)/\(bz K t.gA "crossings")/\(bz K t.gA "plans")/\(bz K t.gA "keepers")/\(ah "LampError"=some (.ref t.xd))/\(Fz K t.xd "__init__")/\(Kx K t.h6)/\(ti K t.h6 t.rW)/\(bz K t.h6 "name")/\(Ab K (.ref t.h6) (.ref t.xd)=some true)/\(Ab K (.ref t.h6) (.ref t.h6)=some true)/\(t.ji ≠ t.eF)/\(t.ji ≠ t.eI)
 mH:(t.ji ≠ t.eQ)/\(t.eF ≠ t.eI)/\(t.eF ≠ t.eQ)/\(t.eI ≠ t.eQ)/\(JC K t.ji "__init__" t.u6)/\(ah "FIGURES"=some t.yU)/\(bD (.str (ag "0123456789")) t.yU)/\(ah "FORMS"=some (.ref t.ra))/\(BM w K (.ref t.ra) (Jw t))/\(Av w K t.ra [(ag "crossing"),(ag "plan"),(ag "stages"),(ag "colours"),(ag "wait"),(ag "longest"),(ag "draw"),(ag "turn"),(ag "worst"),(ag "shortest")])/\(jn K t.C7 [V.str (ag "name")])/\(jn K t.Ts [V.str (ag "name"),V.str (ag "name")])/\(jn K t.TL [V.str (ag "name"),V.str (ag "name")])/\(jn K t.MU [V.str (ag "name"),V.str (ag "turn")])/\(jn K t.Pa [V.str (ag "name"),V.str (ag "name"),V.str (ag "turn")])/\(jn K t.MP [V.str (ag "name"),V.str (ag "name")])/\(jn K t.Up [V.str (ag "name"),V.str (ag "turn"),V.str (ag "many")])/\(jn K t.QM [V.str (ag "name"),V.str (ag "names")])/\(jn K t.LF [V.str (ag "name"),V.str (ag "name")])/\(jn K t.IQ [V.str (ag "name"),V.str (ag "wants")])
 hN:(ah "LEAST_PLACES"=some t.zf)/\(bD (.int 2) t.zf)/\(ah "LETTERS"=some t.AE)/\(bD (.str (ag "abcdefghijklmnopqrstuvwxyz")) t.AE)/\(ah "MOST_DRAWN"=some t.Ap)/\(bD (.int 200) t.Ap)/\(ah "MOST_FIGURES"=some t.Ct)/\(bD (.int 3) t.Ct)/\(ah "MOST_LEAST"=some t.BX)/\(bD (.int 60) t.BX)/\(ah "MOST_LETTERS_words"=some t.zR)/\(bD (.int 8) t.zR)/\(ah "MOST_NEAR"=some t.Bf)/\(bD (.int 30) t.Bf)/\(ah "MOST_OFF"=some t.zq)/\(bD (.int 30) t.zq)/\(ah "MOST_PLACES"=some t.zW)/\(bD (.int 99) t.zW)/\(ah "MOST_WANTED"=some t.zd)/\(bD (.int 60) t.zd)
 hT:(ah "MOST_WANTS"=some t.zC)/\(bD (.int 5) t.zC)/\(ah "MOST_WAYS"=some t.AG)/\(bD (.int 12) t.AG)/\(ah "WITH_TEXT"=some (.ref t.w3))/\(jn K t.w3 [V.str (ag "crossing"),V.str (ag "plan"),V.str (ag "stages")])/\(ah "all"=none)/\(ah "dict"=none)/\(ah "enumerate"=none)/\(ah "int"=none)/\(ah "len"=none)/\(ah "list"=none)/\(ah "max"=none)/\(ah "min"=none)/\(ah "range"=none)/\(ah "set"=none)/\(ah "str"=none)/\(ah "sum"=none)/\(ah "zip"=none)/\(∀ (s:Shared) (u:Value),BindsTo s t.tb ⟨[u],[]⟩ [("_law_script",u)])
section
variable {w:World} {K:a4} {ah:Str->Option Value} {t:bJ} (T:Txt w K ah t)
include T
theorem Txt.Rz:ah "words"=some (.ref t.rU):=T.hC.1
theorem Txt.zb:a7 K "words" "words" Aw t.rU t.ui:=T.hC.2.1
theorem Txt.QR:ah "is_made_of"=some (.ref t.x'):=T.hC.2.2.1
theorem Txt.z':a7 K "is_made_of" "is_made_of" A_ t.x' t.Ao:=T.hC.2.2.2.1
theorem Txt.agQ:ah "is_number"=some (.ref t.vB):=T.hC.2.2.2.2.1
theorem Txt.Fs:a7 K "is_number" "is_number" Dc t.vB t.B7:=T.hC.2.2.2.2.2.1
theorem Txt.Z6:ah "figured"=some (.ref t.xq):=T.hC.2.2.2.2.2.2.1
theorem Txt.Hz:a7 K "figured" "figured" Fx t.xq t.zn:=T.hC.2.2.2.2.2.2.2.1
theorem Txt.FF:ah "is_name"=some (.ref t.vP):=T.hC.2.2.2.2.2.2.2.2.1
theorem Txt.v3:a7 K "is_name" "is_name" IC t.vP t.yT:=T.hC.2.2.2.2.2.2.2.2.2.1
theorem Txt.Yn:ah "readers"=some (.ref t.dl):=T.hC.2.2.2.2.2.2.2.2.2.2.1
theorem Txt.Kw:a7 K "readers" "readers" y5 t.dl t.x7:=T.hC.2.2.2.2.2.2.2.2.2.2.2.1
theorem Txt.W7:ah "read_ring"=some (.ref t.Ch):=T.hC.2.2.2.2.2.2.2.2.2.2.2.2.1
theorem Txt.JK:a7 K "read_ring" "read_ring" I9 t.Ch t.wN:=T.hC.2.2.2.2.2.2.2.2.2.2.2.2.2.1
theorem Txt.Z2:ah "read_new_name"=some (.ref t.Re):=T.hC.2.2.2.2.2.2.2.2.2.2.2.2.2.2.1
theorem Txt.I3:a7 K "read_new_name" "read_new_name" zU t.Re t.zB:=T.hC.2.2.2.2.2.2.2.2.2.2.2.2.2.2.2.1
theorem Txt.acy:ah "read_end"=some (.ref t.w8):=T.hC.2.2.2.2.2.2.2.2.2.2.2.2.2.2.2.2.1
theorem Txt.Dt:a7 K "read_end" "read_end" GG t.w8 t.A':=T.hC.2.2.2.2.2.2.2.2.2.2.2.2.2.2.2.2.2.1
theorem Txt.Xg:ah "made_way"=some (.ref t.xr):=T.hC.2.2.2.2.2.2.2.2.2.2.2.2.2.2.2.2.2.2.1
theorem Txt.DZ:a7 K "made_way" "made_way" D0 t.xr t.yY:=T.hC.2.2.2.2.2.2.2.2.2.2.2.2.2.2.2.2.2.2.2
theorem Txt.aaF:ah "read_way"=some (.ref t.th):=T.hI.1
theorem Txt.Gf:a7 K "read_way" "read_way" C_ t.th t.vw:=T.hI.2.1
theorem Txt.Mh:ah "read_crossing"=some (.ref t.sf):=T.hI.2.2.1
theorem Txt.AL:a7 K "read_crossing" "read_crossing" EP t.sf t.sI:=T.hI.2.2.2.1
theorem Txt.P9:ah "in_bow"=some (.ref t.u0):=T.hI.2.2.2.2.1
theorem Txt.Ac:a7 K "in_bow" "in_bow" Jy t.u0 t.wz:=T.hI.2.2.2.2.2.1
theorem Txt.aiC:ah "bows_cross"=some (.ref t.x5):=T.hI.2.2.2.2.2.2.1
theorem Txt.Ik:a7 K "bows_cross" "bows_cross" GK t.x5 t.BH:=T.hI.2.2.2.2.2.2.2.1
theorem Txt.SL:ah "meet"=some (.ref t.rq):=T.hI.2.2.2.2.2.2.2.2.1
theorem Txt.Cu:a7 K "meet" "meet" UF t.rq t.s8:=T.hI.2.2.2.2.2.2.2.2.2.1
theorem Txt.MJ:ah "gap"=some (.ref t.rb):=T.hI.2.2.2.2.2.2.2.2.2.2.1
theorem Txt.B3:a7 K "gap" "gap" Dh t.rb t.tW:=T.hI.2.2.2.2.2.2.2.2.2.2.2.1
theorem Txt.aeq:ah "order_at_first"=some (.ref t.vz):=T.hI.2.2.2.2.2.2.2.2.2.2.2.2.1
theorem Txt.Kb:a7 K "order_at_first" "order_at_first" JB t.vz t.lf:=T.hI.2.2.2.2.2.2.2.2.2.2.2.2.2.1
theorem Txt.LM:ah "in_some_order"=some (.ref t.so):=T.hI.2.2.2.2.2.2.2.2.2.2.2.2.2.2.1
theorem Txt.zj:a7 K "in_some_order" "in_some_order" F' t.so t.vZ:=T.hI.2.2.2.2.2.2.2.2.2.2.2.2.2.2.2.1
theorem Txt.LY:ah "with_ahead"=some (.ref t.ve):=T.hI.2.2.2.2.2.2.2.2.2.2.2.2.2.2.2.2.1
theorem Txt.zI:a7 K "with_ahead" "with_ahead" D8 t.ve t.li:=T.hI.2.2.2.2.2.2.2.2.2.2.2.2.2.2.2.2.2.1
theorem Txt.Lp:ah "step_in_order"=some (.ref t.tn):=T.hI.2.2.2.2.2.2.2.2.2.2.2.2.2.2.2.2.2.2.1
theorem Txt.zH:a7 K "step_in_order" "step_in_order" Jx t.tn t.wM:=T.hI.2.2.2.2.2.2.2.2.2.2.2.2.2.2.2.2.2.2.2
theorem Txt.VV:ah "ring_bears"=some (.ref t.r7):=T.hO.1
theorem Txt.Di:a7 K "ring_bears" "ring_bears" Eg t.r7 t.uB:=T.hO.2.1
theorem Txt.aa4:ah "paths_longer_by_one"=some (.ref t.wG):=T.hO.2.2.1
theorem Txt.IV:a7 K "paths_longer_by_one" "paths_longer_by_one" xg t.wG t.z2:=T.hO.2.2.2.1
theorem Txt.ww:ah "rings_of"=some (.ref t.qD):=T.hO.2.2.2.2.1
theorem Txt.Cy:a7 K "rings_of" "rings_of" xt t.qD t.te:=T.hO.2.2.2.2.2.1
theorem Txt.abM:ah "pair_without_order"=some (.ref t.sy):=T.hO.2.2.2.2.2.2.1
theorem Txt.Ha:a7 K "pair_without_order" "pair_without_order" I' t.sy t.xE:=T.hO.2.2.2.2.2.2.2.1
theorem Txt.aj6:ah "begins_in_order"=some (.ref t.tA):=T.hO.2.2.2.2.2.2.2.2.1
theorem Txt.Ga:a7 K "begins_in_order" "begins_in_order" yI t.tA t.yr:=T.hO.2.2.2.2.2.2.2.2.2.1
theorem Txt.GD:ah "settled"=some (.ref t.o7):=T.hO.2.2.2.2.2.2.2.2.2.2.1
theorem Txt.vf:a7 K "settled" "settled" Ea t.o7 t.qL:=T.hO.2.2.2.2.2.2.2.2.2.2.2.1
theorem Txt.uS:ah "settled_for"=some (.ref t.rv):=T.hO.2.2.2.2.2.2.2.2.2.2.2.2.1
theorem Txt.pA:a7 K "settled_for" "settled_for" DC t.rv t.vg:=T.hO.2.2.2.2.2.2.2.2.2.2.2.2.2.1
theorem Txt.Rj:ah "long_enough"=some (.ref t.qU):=T.hO.2.2.2.2.2.2.2.2.2.2.2.2.2.2.1
theorem Txt.Cd:a7 K "long_enough" "long_enough" A6 t.qU t.sr:=T.hO.2.2.2.2.2.2.2.2.2.2.2.2.2.2.2.1
theorem Txt.GX:ah "shortest"=some (.ref t.p8):=T.hO.2.2.2.2.2.2.2.2.2.2.2.2.2.2.2.2.1
theorem Txt.t6:a7 K "shortest" "shortest" C5 t.p8 t.rj:=T.hO.2.2.2.2.2.2.2.2.2.2.2.2.2.2.2.2.2.1
theorem Txt.Yf:ah "read_name"=some (.ref t.xm):=T.hO.2.2.2.2.2.2.2.2.2.2.2.2.2.2.2.2.2.2.1
theorem Txt.F8:a7 K "read_name" "read_name" Jn t.xm t.Cw:=T.hO.2.2.2.2.2.2.2.2.2.2.2.2.2.2.2.2.2.2.2
theorem Txt.Nh:ah "read_want"=some (.ref t.w5):=T.hV.1
theorem Txt.Bp:a7 K "read_want" "read_want" FI t.w5 t.Ah:=T.hV.2.1
theorem Txt.agI:ah "read_wants"=some (.ref t.yR):=T.hV.2.2.1
theorem Txt.JW:a7 K "read_wants" "read_wants" zJ t.yR t.Cv:=T.hV.2.2.2.1
theorem Txt.SB:ah "read_part"=some (.ref t.u3):=T.hV.2.2.2.2.1
theorem Txt.Gq:a7 K "read_part" "read_part" C9 t.u3 t.yS:=T.hV.2.2.2.2.2.1
theorem Txt.aij:ah "read_words"=some (.ref t.x2):=T.hV.2.2.2.2.2.2.1
theorem Txt.Hv:a7 K "read_words" "read_words" zD t.x2 t.Cb:=T.hV.2.2.2.2.2.2.2.1
theorem Txt.MY:ah "read_saying"=some (.ref t.uJ):=T.hV.2.2.2.2.2.2.2.2.1
theorem Txt.B6:a7 K "read_saying" "read_saying" GV t.uJ t.wK:=T.hV.2.2.2.2.2.2.2.2.2.1
theorem Txt.Ks:ah "looked_up"=some (.ref t.tM):=T.hV.2.2.2.2.2.2.2.2.2.2.1
theorem Txt.yc:a7 K "looked_up" "looked_up" G4 t.tM t.yb:=T.hV.2.2.2.2.2.2.2.2.2.2.2.1
theorem Txt.K':ah "shortest_row"=some (.ref t.r_):=T.hV.2.2.2.2.2.2.2.2.2.2.2.2.1
theorem Txt.wY:a7 K "shortest_row" "shortest_row" DD t.r_ t.ug:=T.hV.2.2.2.2.2.2.2.2.2.2.2.2.2.1
theorem Txt.fl:ah "_law_draw"=some (.ref t.qy):=T.hV.2.2.2.2.2.2.2.2.2.2.2.2.2.2.1
theorem Txt.e8:a7 K "_law_draw" "_law_draw" E8 t.qy t.td:=T.hV.2.2.2.2.2.2.2.2.2.2.2.2.2.2.2.1
theorem Txt.aej:ah "_law_places"=some (.ref t.qR):=T.hV.2.2.2.2.2.2.2.2.2.2.2.2.2.2.2.2.1
theorem Txt.GF:a7 K "_law_places" "_law_places" Tl t.qR t.su:=T.hV.2.2.2.2.2.2.2.2.2.2.2.2.2.2.2.2.2.1
theorem Txt.ah9:ah "_law_names"=some (.ref t.vx):=T.hV.2.2.2.2.2.2.2.2.2.2.2.2.2.2.2.2.2.2.1
theorem Txt.JE:a7 K "_law_names" "_law_names" zy t.vx t.zT:=T.hV.2.2.2.2.2.2.2.2.2.2.2.2.2.2.2.2.2.2.2
theorem Txt.agF:ah "_law_ways"=some (.ref t.sb):=T.ih.1
theorem Txt.JL:a7 K "_law_ways" "_law_ways" H5 t.sb t.sC:=T.ih.2.1
theorem Txt.abF:ah "_law_text"=some (.ref t.sz):=T.ih.2.2.1
theorem Txt.GC:a7 K "_law_text" "_law_text" Ax t.sz t.xP:=T.ih.2.2.2.1
theorem Txt.Ws:ah "_law_wanted"=some (.ref t.rA):=T.ih.2.2.2.2.1
theorem Txt.am:a7 K "_law_wanted" "_law_wanted" Eo t.rA t.uq:=T.ih.2.2.2.2.2.1
theorem Txt.Ca:ah "_law_row"=some (.ref t.uk):=T.ih.2.2.2.2.2.2.1
theorem Txt.sY:a7 K "_law_row" "_law_row" Bu t.uk t.yx:=T.ih.2.2.2.2.2.2.2.1
theorem Txt.ls:ah "_law_strangers"=some (.ref t.tP):=T.ih.2.2.2.2.2.2.2.2.1
theorem Txt.EE:a7 K "_law_strangers" "_law_strangers" CC t.tP t.vO:=T.ih.2.2.2.2.2.2.2.2.2.1
theorem Txt.YL:ah "_law_refused"=some (.ref t.uL):=T.ih.2.2.2.2.2.2.2.2.2.2.1
theorem Txt.FL:a7 K "_law_refused" "_law_refused" HQ t.uL t.xG:=T.ih.2.2.2.2.2.2.2.2.2.2.2.1
theorem Txt.XU:ah "law"=some (.ref t.xb):=T.ih.2.2.2.2.2.2.2.2.2.2.2.2.1
theorem Txt.ab1:a7 K "law" "law" t2 t.xb t.tb:=T.ih.2.2.2.2.2.2.2.2.2.2.2.2.2.1
theorem Txt.R0:ah "NoWay"=some (.ref t.h6):=T.ih.2.2.2.2.2.2.2.2.2.2.2.2.2.2.1
theorem Txt.M4:a7 K "__init__" "NoWay.__init__" JT t.rW t.xC:=T.ih.2.2.2.2.2.2.2.2.2.2.2.2.2.2.2.2.1
theorem Txt.Sz:ah "RowReader"=some (.ref t.dZ):=T.ih.2.2.2.2.2.2.2.2.2.2.2.2.2.2.2.2.2.1
theorem Txt.Nb:a7 K "__init__" "RowReader.__init__" KG t.bd t.sl:=T.ih.2.2.2.2.2.2.2.2.2.2.2.2.2.2.2.2.2.2.2
theorem Txt.RX:a7 K "ahead" "RowReader.ahead" CY t.uZ t.BK:=T.mF.2.1
theorem Txt.Oi:a7 K "has_more" "RowReader.has_more" Ii t.tK t.ad:=T.mF.2.2.2.1
theorem Txt.lm:a7 K "take" "RowReader.take" DG t.sS t.CO:=T.mF.2.2.2.2.2.1
theorem Txt.PQ:a7 K "one_of" "RowReader.one_of" De t.rp t.wA:=T.mF.2.2.2.2.2.2.2.1
theorem Txt.Rf:a7 K "figures" "RowReader.figures" I1 t.uC t.zA:=T.mF.2.2.2.2.2.2.2.2.2.1
theorem Txt.TU:a7 K "finish" "RowReader.finish" Hu t.q3 t.x1:=T.mF.2.2.2.2.2.2.2.2.2.2.2.1
theorem Txt.Fq:ah "Way"=some (.ref t.ji):=T.mF.2.2.2.2.2.2.2.2.2.2.2.2.1
theorem Txt.NL:a7 K "__init__" "Way.__init__" cr t.u6 t.Be:=T.mF.2.2.2.2.2.2.2.2.2.2.2.2.2.2.1
theorem Txt.abr:ah "CarWay"=some (.ref t.eF):=T.mF.2.2.2.2.2.2.2.2.2.2.2.2.2.2.2.1
theorem Txt.MM:a7 K "__init__" "CarWay.__init__" Ku t.qW t.xp:=T.mF.2.2.2.2.2.2.2.2.2.2.2.2.2.2.2.2.2.1
theorem Txt.Um:a7 K "ready" "CarWay.ready" EO t.wf t.ii:=T.mF.2.2.2.2.2.2.2.2.2.2.2.2.2.2.2.2.2.2.2
theorem Txt.Rm:a7 K "fade" "CarWay.fade" im t.tr t.y0:=T.mi.2.1
theorem Txt.aiq:ah "FootWay"=some (.ref t.eI):=T.mi.2.2.1
theorem Txt.SH:a7 K "__init__" "FootWay.__init__" G1 t.r' t.xy:=T.mi.2.2.2.2.1
theorem Txt.Qk:a7 K "ready" "FootWay.ready" GL t.uY t.y8:=T.mi.2.2.2.2.2.2.1
theorem Txt.NS:a7 K "fade" "FootWay.fade" GY t.sv t.BW:=T.mi.2.2.2.2.2.2.2.2.1
theorem Txt.agE:ah "TramWay"=some (.ref t.eQ):=T.mi.2.2.2.2.2.2.2.2.2.1
theorem Txt.QP:a7 K "__init__" "TramWay.__init__" G' t.ry t.xn:=T.mi.2.2.2.2.2.2.2.2.2.2.2.1
theorem Txt.OE:a7 K "ready" "TramWay.ready" J1 t.uu t.CM:=T.mi.2.2.2.2.2.2.2.2.2.2.2.2.2.1
theorem Txt.Go:a7 K "fade" "TramWay.fade" II t.sO t.ci:=T.mi.2.2.2.2.2.2.2.2.2.2.2.2.2.2.2.1
theorem Txt.U1:ah "Crossing"=some (.ref t.fo):=T.mi.2.2.2.2.2.2.2.2.2.2.2.2.2.2.2.2.1
theorem Txt.Uk:a7 K "__init__" "Crossing.__init__" HS t.qH t.vH:=T.mi.2.2.2.2.2.2.2.2.2.2.2.2.2.2.2.2.2.2.1
theorem Txt.GJ:a7 K "number" "Crossing.number" Jp t.qf t.uy:=T.jT.1
theorem Txt.Ec:a7 K "called" "Crossing.called" GO t.o5 t.uw:=T.jT.2.2.1
theorem Txt.SC:ah "Wanted"=some (.ref t.dS):=T.jT.2.2.2.1
theorem Txt.Dz:a7 K "__init__" "Wanted.__init__" ri t.oR t.q9:=T.jT.2.2.2.2.2.1
theorem Txt.Vu:ah "Desk"=some (.ref t.gA):=T.jT.2.2.2.2.2.2.1
theorem Txt.Td:a7 K "__init__" "Desk.__init__" jp t.rm t.yQ:=T.jT.2.2.2.2.2.2.2.2.1
theorem Txt.E':a7 K "say" "Desk.say" JJ t.nT t.qu:=T.jT.2.2.2.2.2.2.2.2.2.2.1
theorem Txt.N7:a7 K "take_text" "Desk.take_text" Ee t.qB t.re:=T.jT.2.2.2.2.2.2.2.2.2.2.2.2.1
theorem Txt.eH:et K t.dZ:=T.jT.2.2.2.2.2.2.2.2.2.2.2.2.2.1
theorem Txt.Uy:iW K t.dZ t.bd:=T.jT.2.2.2.2.2.2.2.2.2.2.2.2.2.2.1
theorem Txt.uv:ed K t.dZ "ahead" t.uZ:=T.jT.2.2.2.2.2.2.2.2.2.2.2.2.2.2.2.1
theorem Txt.Lj:ed K t.dZ "has_more" t.tK:=T.jT.2.2.2.2.2.2.2.2.2.2.2.2.2.2.2.2.1
theorem Txt.xB:ed K t.dZ "take" t.sS:=T.jT.2.2.2.2.2.2.2.2.2.2.2.2.2.2.2.2.2.1
theorem Txt.Ip:ed K t.dZ "one_of" t.rp:=T.jT.2.2.2.2.2.2.2.2.2.2.2.2.2.2.2.2.2.2.1
theorem Txt.pY:ed K t.dZ "figures" t.uC:=T.jT.2.2.2.2.2.2.2.2.2.2.2.2.2.2.2.2.2.2.2
theorem Txt.Dr:ed K t.dZ "finish" t.q3:=T.lA.1
theorem Txt.acz:bz K t.dZ "row" := T.lA.2.1
theorem Txt.gl:bz K t.dZ "told" := T.lA.2.2.1
theorem Txt.Hw:bz K t.dZ "place" := T.lA.2.2.2.1
theorem Txt.Fc:et K t.eF:=T.lA.2.2.2.2.2.2.2.2.2.2.2.2.1
theorem Txt.agR:iW K t.eF t.qW:=T.lA.2.2.2.2.2.2.2.2.2.2.2.2.2.1
theorem Txt.ab3:ed K t.eF "ready" t.wf:=T.lA.2.2.2.2.2.2.2.2.2.2.2.2.2.2.1
theorem Txt.Ym:ed K t.eF "fade" t.tr:=T.lA.2.2.2.2.2.2.2.2.2.2.2.2.2.2.2.1
theorem Txt.ae4:bz K t.eF "kind" := T.lA.2.2.2.2.2.2.2.2.2.2.2.2.2.2.2.2.1
theorem Txt.VQ:bz K t.eF "name" := T.lA.2.2.2.2.2.2.2.2.2.2.2.2.2.2.2.2.2.1
theorem Txt.At:bz K t.eF "start" := T.lA.2.2.2.2.2.2.2.2.2.2.2.2.2.2.2.2.2.2.1
theorem Txt.akF:bz K t.eF "end" := T.lA.2.2.2.2.2.2.2.2.2.2.2.2.2.2.2.2.2.2.2
theorem Txt.V3:bz K t.eF "off" := T.hS.1
theorem Txt.ab6:bz K t.eF "near" := T.hS.2.1
theorem Txt.aiA:bz K t.eF "least" := T.hS.2.2.1
theorem Txt.Iq:et K t.eI:=T.hS.2.2.2.1
theorem Txt.Zq:iW K t.eI t.r':=T.hS.2.2.2.2.1
theorem Txt.aaZ:ed K t.eI "ready" t.uY:=T.hS.2.2.2.2.2.1
theorem Txt.Y0:ed K t.eI "fade" t.sv:=T.hS.2.2.2.2.2.2.1
theorem Txt.W2:bz K t.eI "kind" := T.hS.2.2.2.2.2.2.2.1
theorem Txt.agZ:bz K t.eI "name" := T.hS.2.2.2.2.2.2.2.2.1
theorem Txt.Wb:bz K t.eI "start" := T.hS.2.2.2.2.2.2.2.2.2.1
theorem Txt.adM:bz K t.eI "end" := T.hS.2.2.2.2.2.2.2.2.2.2.1
theorem Txt.wv:bz K t.eI "off" := T.hS.2.2.2.2.2.2.2.2.2.2.2.1
theorem Txt.aaO:bz K t.eI "near" := T.hS.2.2.2.2.2.2.2.2.2.2.2.2.1
theorem Txt.aaR:bz K t.eI "least" := T.hS.2.2.2.2.2.2.2.2.2.2.2.2.2.1
theorem Txt.I0:et K t.eQ:=T.hS.2.2.2.2.2.2.2.2.2.2.2.2.2.2.1
theorem Txt.akq:iW K t.eQ t.ry:=T.hS.2.2.2.2.2.2.2.2.2.2.2.2.2.2.2.1
theorem Txt.VJ:ed K t.eQ "ready" t.uu:=T.hS.2.2.2.2.2.2.2.2.2.2.2.2.2.2.2.2.1
theorem Txt.aaP:ed K t.eQ "fade" t.sO:=T.hS.2.2.2.2.2.2.2.2.2.2.2.2.2.2.2.2.2.1
theorem Txt.acF:bz K t.eQ "kind" := T.hS.2.2.2.2.2.2.2.2.2.2.2.2.2.2.2.2.2.2.1
theorem Txt.YO:bz K t.eQ "name" := T.hS.2.2.2.2.2.2.2.2.2.2.2.2.2.2.2.2.2.2.2
theorem Txt.aeX:bz K t.eQ "start" := T.lP.1
theorem Txt.adk:bz K t.eQ "end" := T.lP.2.1
theorem Txt.aiH:bz K t.eQ "off" := T.lP.2.2.1
theorem Txt.WR:bz K t.eQ "near" := T.lP.2.2.2.1
theorem Txt.ad1:bz K t.eQ "least" := T.lP.2.2.2.2.1
theorem Txt.jW:et K t.fo:=T.lP.2.2.2.2.2.1
theorem Txt.Z_:iW K t.fo t.qH:=T.lP.2.2.2.2.2.2.1
theorem Txt.Cl:ed K t.fo "number" t.qf:=T.lP.2.2.2.2.2.2.2.1
theorem Txt.ce:ed K t.fo "called" t.o5:=T.lP.2.2.2.2.2.2.2.2.1
theorem Txt.TA:bz K t.fo "places" := T.lP.2.2.2.2.2.2.2.2.2.1
theorem Txt.Qm:bz K t.fo "ways" := T.lP.2.2.2.2.2.2.2.2.2.2.1
theorem Txt.Pu:bz K t.fo "numbers" := T.lP.2.2.2.2.2.2.2.2.2.2.2.1
theorem Txt.tB:et K t.dS:=T.Zl.2.2.2.2.2.2.2.2.2.2.2.2.2.2.2.2.2.2.2
theorem Txt.Od:iW K t.dS t.oR:=T.iE.1
theorem Txt.TZ:bz K t.dS "many" := T.iE.2.1
theorem Txt.R4:bz K t.dS "alones" := T.iE.2.2.1
theorem Txt.Me:bz K t.dS "steps" := T.iE.2.2.2.1
theorem Txt.lO:et K t.gA:=T.iE.2.2.2.2.1
theorem Txt.aeL:iW K t.gA t.rm:=T.iE.2.2.2.2.2.1
theorem Txt.ux:ed K t.gA "say" t.nT:=T.iE.2.2.2.2.2.2.1
theorem Txt.T9:ed K t.gA "take_text" t.qB:=T.iE.2.2.2.2.2.2.2.1
theorem Txt.Lx:bz K t.gA "crossings" := T.iE.2.2.2.2.2.2.2.2.1
theorem Txt.ahT:bz K t.gA "plans" := T.iE.2.2.2.2.2.2.2.2.2.1
theorem Txt.XG:bz K t.gA "keepers" := T.iE.2.2.2.2.2.2.2.2.2.2.1
theorem Txt.aja:ah "LampError"=some (.ref t.xd):=T.iE.2.2.2.2.2.2.2.2.2.2.2.1
theorem Txt.XY:Fz K t.xd "__init__" := T.iE.2.2.2.2.2.2.2.2.2.2.2.2.1
theorem Txt.YW:Kx K t.h6:=T.iE.2.2.2.2.2.2.2.2.2.2.2.2.2.1
theorem Txt.P4:ti K t.h6 t.rW:=T.iE.2.2.2.2.2.2.2.2.2.2.2.2.2.2.1
theorem Txt.Nj:bz K t.h6 "name" := T.iE.2.2.2.2.2.2.2.2.2.2.2.2.2.2.2.1
theorem Txt.Vk:Ab K (.ref t.h6) (.ref t.h6)=some true:=T.iE.2.2.2.2.2.2.2.2.2.2.2.2.2.2.2.2.2.1
theorem Txt.Uc:t.eF ≠ t.eI:=T.mH.2.1
theorem Txt.RF:t.eF ≠ t.eQ:=T.mH.2.2.1
theorem Txt.Ri:t.eI ≠ t.eQ:=T.mH.2.2.2.1
theorem Txt.Kk:JC K t.ji "__init__" t.u6:=T.mH.2.2.2.2.1
theorem Txt.aeH:ah "FIGURES"=some t.yU:=T.mH.2.2.2.2.2.1
theorem Txt.YH:bD (.str (ag "0123456789")) t.yU:=T.mH.2.2.2.2.2.2.1
theorem Txt.Lk:ah "FORMS"=some (.ref t.ra):=T.mH.2.2.2.2.2.2.2.1
theorem Txt.aex:BM w K (.ref t.ra) (Jw t):=T.mH.2.2.2.2.2.2.2.2.1
theorem Txt.aiW:Av w K t.ra [(ag "crossing"),(ag "plan"),(ag "stages"),(ag "colours"),(ag "wait"),(ag "longest"),(ag "draw"),(ag "turn"),(ag "worst"),(ag "shortest")]:=T.mH.2.2.2.2.2.2.2.2.2.1
theorem Txt.W8:jn K t.C7 [V.str (ag "name")]:=T.mH.2.2.2.2.2.2.2.2.2.2.1
theorem Txt.afz:jn K t.IQ [V.str (ag "name"),V.str (ag "wants")]:=T.mH.2.2.2.2.2.2.2.2.2.2.2.2.2.2.2.2.2.2.2
theorem Txt.ad5:ah "LEAST_PLACES"=some t.zf:=T.hN.1
theorem Txt.agn:bD (.int 2) t.zf:=T.hN.2.1
theorem Txt.aeR:ah "LETTERS"=some t.AE:=T.hN.2.2.1
theorem Txt.af5:bD (.str (ag "abcdefghijklmnopqrstuvwxyz")) t.AE:=T.hN.2.2.2.1
theorem Txt.Y6:ah "MOST_DRAWN"=some t.Ap:=T.hN.2.2.2.2.1
theorem Txt.xz:bD (.int 200) t.Ap:=T.hN.2.2.2.2.2.1
theorem Txt.afl:ah "MOST_FIGURES"=some t.Ct:=T.hN.2.2.2.2.2.2.1
theorem Txt.ag4:bD (.int 3) t.Ct:=T.hN.2.2.2.2.2.2.2.1
theorem Txt.XA:ah "MOST_LEAST"=some t.BX:=T.hN.2.2.2.2.2.2.2.2.1
theorem Txt.afM:bD (.int 60) t.BX:=T.hN.2.2.2.2.2.2.2.2.2.1
theorem Txt.VB:ah "MOST_LETTERS_words"=some t.zR:=T.hN.2.2.2.2.2.2.2.2.2.2.1
theorem Txt.aiR:bD (.int 8) t.zR:=T.hN.2.2.2.2.2.2.2.2.2.2.2.1
theorem Txt.adq:ah "MOST_NEAR"=some t.Bf:=T.hN.2.2.2.2.2.2.2.2.2.2.2.2.1
theorem Txt.ajQ:bD (.int 30) t.Bf:=T.hN.2.2.2.2.2.2.2.2.2.2.2.2.2.1
theorem Txt.ae':ah "MOST_OFF"=some t.zq:=T.hN.2.2.2.2.2.2.2.2.2.2.2.2.2.2.1
theorem Txt.Z9:bD (.int 30) t.zq:=T.hN.2.2.2.2.2.2.2.2.2.2.2.2.2.2.2.1
theorem Txt.ahb:ah "MOST_PLACES"=some t.zW:=T.hN.2.2.2.2.2.2.2.2.2.2.2.2.2.2.2.2.1
theorem Txt.ah4:bD (.int 99) t.zW:=T.hN.2.2.2.2.2.2.2.2.2.2.2.2.2.2.2.2.2.1
theorem Txt.acR:ah "MOST_WANTED"=some t.zd:=T.hN.2.2.2.2.2.2.2.2.2.2.2.2.2.2.2.2.2.2.1
theorem Txt.agL:bD (.int 60) t.zd:=T.hN.2.2.2.2.2.2.2.2.2.2.2.2.2.2.2.2.2.2.2
theorem Txt.XX:ah "MOST_WANTS"=some t.zC:=T.hT.1
theorem Txt.adz:bD (.int 5) t.zC:=T.hT.2.1
theorem Txt.YF:ah "MOST_WAYS"=some t.AG:=T.hT.2.2.1
theorem Txt.ahm:bD (.int 12) t.AG:=T.hT.2.2.2.1
theorem Txt.Xm:ah "WITH_TEXT"=some (.ref t.w3):=T.hT.2.2.2.2.1
theorem Txt.ahC:jn K t.w3 [V.str (ag "crossing"),V.str (ag "plan"),V.str (ag "stages")]:=T.hT.2.2.2.2.2.1
theorem Txt.akj:ah "all"=none:=T.hT.2.2.2.2.2.2.1
theorem Txt.aaj:ah "dict"=none:=T.hT.2.2.2.2.2.2.2.1
theorem Txt.o8:ah "enumerate"=none:=T.hT.2.2.2.2.2.2.2.2.1
theorem Txt.Xc:ah "int"=none:=T.hT.2.2.2.2.2.2.2.2.2.1
theorem Txt.iI:ah "len"=none:=T.hT.2.2.2.2.2.2.2.2.2.2.1
theorem Txt.N':ah "list"=none:=T.hT.2.2.2.2.2.2.2.2.2.2.2.1
theorem Txt.Kj:ah "max"=none:=T.hT.2.2.2.2.2.2.2.2.2.2.2.2.1
theorem Txt.ab7:ah "min"=none:=T.hT.2.2.2.2.2.2.2.2.2.2.2.2.2.1
theorem Txt.lL:ah "range"=none:=T.hT.2.2.2.2.2.2.2.2.2.2.2.2.2.2.1
theorem Txt.aeW:ah "set"=none:=T.hT.2.2.2.2.2.2.2.2.2.2.2.2.2.2.2.1
theorem Txt.ru:ah "str"=none:=T.hT.2.2.2.2.2.2.2.2.2.2.2.2.2.2.2.2.1
theorem Txt.Y9:ah "sum"=none:=T.hT.2.2.2.2.2.2.2.2.2.2.2.2.2.2.2.2.2.1
theorem Txt.PG:ah "zip"=none:=T.hT.2.2.2.2.2.2.2.2.2.2.2.2.2.2.2.2.2.2.1
theorem Txt.adh:∀ (s:Shared) (u:Value),BindsTo s t.tb ⟨[u],[]⟩ [("_law_script",u)]:=T.hT.2.2.2.2.2.2.2.2.2.2.2.2.2.2.2.2.2.2.2
theorem Txt.OV:bZ K t.ui ["text"] []:=T.zb.binds fun _ _ _ _ _ _=>gE fun _=>rfl
theorem Txt.Uh:bZ K t.Ao wI []:=T.z'.binds fun _ _ _ _ _ _=>ix fun _ _ _=>rfl
theorem Txt.agY:bZ K t.B7 y6 []:=T.Fs.binds fun _ _ _ _ _ _=>hQ fun _ _=>rfl
theorem Txt.YP:bZ K t.zn D2 []:=T.Hz.binds fun _ _ _ _ _ _=>ix fun _ _ _=>rfl
theorem Txt.I6:bZ K t.yT ["word"] []:=T.v3.binds fun _ _ _ _ _ _=>gE fun _=>rfl
theorem Txt.aiJ:bZ K t.x7 ["text"] []:=T.Kw.binds fun _ _ _ _ _ _=>gE fun _=>rfl
theorem Txt.acZ:bZ K t.wN ["reader"] []:=T.JK.binds fun _ _ _ _ _ _=>gE fun _=>rfl
theorem Txt.ajw:bZ K t.zB Dl []:=T.I3.binds fun _ _ _ _ _ _=>hQ fun _ _=>rfl
theorem Txt.ae3:bZ K t.A' CW []:=T.Dt.binds fun _ _ _ _ _ _=>ix fun _ _ _=>rfl
theorem Txt.abH:bZ K t.yY zm []:=T.DZ.binds fun _ _ _ _ _ _=>BP fun _ _ _ _ _ _ _=>rfl
theorem Txt.ajz:bZ K t.vw Cj []:=T.Gf.binds fun _ _ _ _ _ _=>ix fun _ _ _=>rfl
theorem Txt.K3:bZ K t.sI ["text"] []:=T.AL.binds fun _ _ _ _ _ _=>gE fun _=>rfl
theorem Txt.UR:bZ K t.wz BQ []:=T.Ac.binds fun _ _ _ _ _ _=>ix fun _ _ _=>rfl
theorem Txt.ZV:bZ K t.BH Bj []:=T.Ik.binds fun _ _ _ _ _ _=>ix fun _ _ _=>rfl
theorem Txt.Uq:bZ K t.s8 nC []:=T.Cu.binds fun _ _ _ _ _ _=>ix fun _ _ _=>rfl
theorem Txt.Rh:bZ K t.tW nC []:=T.B3.binds fun _ _ _ _ _ _=>ix fun _ _ _=>rfl
theorem Txt.ach:bZ K t.lf ["wanted"] []:=T.Kb.binds fun _ _ _ _ _ _=>gE fun _=>rfl
theorem Txt.UM:bZ K t.vZ nS []:=T.zj.binds fun _ _ _ _ _ _=>ix fun _ _ _=>rfl
theorem Txt.NI:bZ K t.li nS []:=T.zI.binds fun _ _ _ _ _ _=>ix fun _ _ _=>rfl
theorem Txt.Ly:bZ K t.wM AD []:=T.zH.binds fun _ _ _ _ _ _=>ahl fun _ _ _ _ _=>rfl
theorem Txt.Zx:bZ K t.uB x3 []:=T.Di.binds fun _ _ _ _ _ _=>E3 fun _ _ _ _=>rfl
theorem Txt.Ye:bZ K t.z2 C6 []:=T.IV.binds fun _ _ _ _ _ _=>hQ fun _ _=>rfl
theorem Txt.OZ:bZ K t.te ["wanted"] []:=T.Cy.binds fun _ _ _ _ _ _=>gE fun _=>rfl
theorem Txt.mo:bZ K t.xE Bc []:=T.Ha.binds fun _ _ _ _ _ _=>hQ fun _ _=>rfl
theorem Txt.agV:bZ K t.yr zk []:=T.Ga.binds fun _ _ _ _ _ _=>ix fun _ _ _=>rfl
theorem Txt.Ht:bZ K t.qL uU []:=T.vf.binds fun _ _ _ _ _ _=>E3 fun _ _ _ _=>rfl
theorem Txt.sL:bZ K t.vg xw []:=T.pA.binds fun _ _ _ _ _ _=>ix fun _ _ _=>rfl
theorem Txt.Q0:bZ K t.sr ["wanted"] []:=T.Cd.binds fun _ _ _ _ _ _=>gE fun _=>rfl
theorem Txt.CZ:bZ K t.rj lW []:=T.t6.binds fun _ _ _ _ _ _=>hQ fun _ _=>rfl
theorem Txt.ady:bZ K t.Cw ["reader"] []:=T.F8.binds fun _ _ _ _ _ _=>gE fun _=>rfl
theorem Txt.Oz:bZ K t.Ah Kf []:=T.Bp.binds fun _ _ _ _ _ _=>hQ fun _ _=>rfl
theorem Txt.Yd:bZ K t.Cv ["reader"] []:=T.JW.binds fun _ _ _ _ _ _=>gE fun _=>rfl
theorem Txt.Xn:bZ K t.yS vk []:=T.Gq.binds fun _ _ _ _ _ _=>hQ fun _ _=>rfl
theorem Txt.aco:bZ K t.Cb ["told"] []:=T.Hv.binds fun _ _ _ _ _ _=>gE fun _=>rfl
theorem Txt.Wp:bZ K t.wK ["row"] []:=T.B6.binds fun _ _ _ _ _ _=>gE fun _=>rfl
theorem Txt.Fd:bZ K t.yb w_ []:=T.yc.binds fun _ _ _ _ _ _=>hQ fun _ _=>rfl
theorem Txt.L3:bZ K t.ug lW []:=T.wY.binds fun _ _ _ _ _ _=>hQ fun _ _=>rfl
theorem Txt.fq:bZ K t.td vu []:=T.e8.binds fun _ _ _ _ _ _=>ix fun _ _ _=>rfl
theorem Txt.adZ:bZ K t.su pg []:=T.GF.binds fun _ _ _ _ _ _=>gE fun _=>rfl
theorem Txt.ajV:bZ K t.zT DE []:=T.JE.binds fun _ _ _ _ _ _=>hQ fun _ _=>rfl
theorem Txt.VR:bZ K t.sC v8 []:=T.JL.binds fun _ _ _ _ _ _=>ix fun _ _ _=>rfl
theorem Txt.adQ:bZ K t.xP zO []:=T.GC.binds fun _ _ _ _ _ _=>hQ fun _ _=>rfl
theorem Txt.adW:bZ K t.uq xk []:=T.am.binds fun _ _ _ _ _ _=>hQ fun _ _=>rfl
theorem Txt.y_:bZ K t.yx s7 []:=T.sY.binds fun _ _ _ _ _ _=>hQ fun _ _=>rfl
theorem Txt.adJ:bZ K t.vO y2 []:=T.EE.binds fun _ _ _ _ _ _=>gE fun _=>rfl
theorem Txt.aba:bZ K t.xG Az []:=T.FL.binds fun _ _ _ _ _ _=>hQ fun _ _=>rfl
theorem Txt.ain:bZ K t.xC i1 []:=T.M4.binds fun _ _ _ _ _ _=>hQ fun _ _=>rfl
theorem Txt.S9:bZ K t.sl uA []:=T.Nb.binds fun _ _ _ _ _ _=>ix fun _ _ _=>rfl
theorem Txt.tQ:bZ K t.BK ["self"] []:=T.RX.binds fun _ _ _ _ _ _=>gE fun _=>rfl
theorem Txt.Ti:bZ K t.ad ["self"] []:=T.Oi.binds fun _ _ _ _ _ _=>gE fun _=>rfl
theorem Txt.vq:bZ K t.CO Ad []:=T.lm.binds fun _ _ _ _ _ _=>hQ fun _ _=>rfl
theorem Txt.GP:bZ K t.wA BD []:=T.PQ.binds fun _ _ _ _ _ _=>hQ fun _ _=>rfl
theorem Txt.Gc:bZ K t.zA Gw []:=T.Rf.binds fun _ _ _ _ _ _=>ix fun _ _ _=>rfl
theorem Txt.Fm:bZ K t.x1 ["self"] []:=T.TU.binds fun _ _ _ _ _ _=>gE fun _=>rfl
theorem Txt.Hp:bZ K t.Be y3 []:=T.NL.binds fun _ _ _ _ _ _=>Zm fun _ _ _ _ _ _ _ _=>rfl
theorem Txt.YJ:bZ K t.xp jS []:=T.MM.binds fun _ _ _ _ _ _=>BP fun _ _ _ _ _ _ _=>rfl
theorem Txt.ac2:bZ K t.ii ["self"] []:=T.Um.binds fun _ _ _ _ _ _=>gE fun _=>rfl
theorem Txt.ag5:bZ K t.y0 ["self"] []:=T.Rm.binds fun _ _ _ _ _ _=>gE fun _=>rfl
theorem Txt.Vd:bZ K t.xy jS []:=T.SH.binds fun _ _ _ _ _ _=>BP fun _ _ _ _ _ _ _=>rfl
theorem Txt.acd:bZ K t.y8 ["self"] []:=T.Qk.binds fun _ _ _ _ _ _=>gE fun _=>rfl
theorem Txt.aff:bZ K t.BW ["self"] []:=T.NS.binds fun _ _ _ _ _ _=>gE fun _=>rfl
theorem Txt.af':bZ K t.xn jS []:=T.QP.binds fun _ _ _ _ _ _=>BP fun _ _ _ _ _ _ _=>rfl
theorem Txt.agv:bZ K t.CM ["self"] []:=T.OE.binds fun _ _ _ _ _ _=>gE fun _=>rfl
theorem Txt.aj1:bZ K t.ci ["self"] []:=T.Go.binds fun _ _ _ _ _ _=>gE fun _=>rfl
theorem Txt.afJ:bZ K t.vH AO []:=T.Uk.binds fun _ _ _ _ _ _=>ix fun _ _ _=>rfl
theorem Txt.Sv:bZ K t.uy i1 []:=T.GJ.binds fun _ _ _ _ _ _=>hQ fun _ _=>rfl
theorem Txt.um:bZ K t.uw i1 []:=T.Ec.binds fun _ _ _ _ _ _=>hQ fun _ _=>rfl
theorem Txt.QK:bZ K t.q9 t9 []:=T.Dz.binds fun _ _ _ _ _ _=>ix fun _ _ _=>rfl
theorem Txt.afH:bZ K t.yQ ["self"] []:=T.Td.binds fun _ _ _ _ _ _=>gE fun _=>rfl
theorem Txt.va:bZ K t.qu uG []:=T.E'.binds fun _ _ _ _ _ _=>hQ fun _ _=>rfl
theorem Txt.P8:bZ K t.re Bb []:=T.N7.binds fun _ _ _ _ _ _=>E3 fun _ _ _ _=>rfl
theorem Txt.B':lN K t.h6:=Yj T.YW T.P4
end
noncomputable def ee (ns:List Int) (k m:Int):Int:=
 ((((if 0 < (ns.length:Int) then ns.getD (k % (ns.length:Int)).toNat 0 else 0) % 1000003 + 31 * k * k + 1) * 48271 % 999983 * 7919) % 524287) % m
theorem hv (ns:List Int) (k:Int) {m:Int} (h:0 < m):0 <= ee ns k m:=pd _ (by omega)
theorem hx (ns:List Int) (k:Int) {m:Int} (h:0 < m):ee ns k m < m:=sP _ h
def hq (K:a4) (a:Addr) (ns:List Int):bI:=fun vs H Q _=>∃ k m,vs=[.ref a,.int k,.int m]/\Sc K a ns H/\(0 <= k/\k < 1000000)/\0 < m/\Q (.int (ee ns k m)) H
variable {P:Program} {w:World} {K:a4} {ah:Str->Option Value} {base:Heap} {t:bJ}
abbrev b_ (P:Program) (base:Heap) {w:World} {K:a4} {ah:Str->Option Value} {t:bJ} (_:Txt w K ah t):=bt P w K ah base b7
variable (T:Txt w K ah t)
theorem sq (a:Addr) (ns:List Int) (k0:ns.length <= 64):b_ P base T 1 t.qy t.td vu (hq K a ns):=by
 exists T.e8.ok wn,9
 obtain ⟨k,m,rfl,S,⟨h0,af⟩,hm,q⟩:=h;refine ⟨_,(aM (bL (i:=3) wn.aC (BU (cU qM (g7 jU rfl T.iI iF (ae (U 0) aA)) aR (lc _)) (cD gI (U 0) (bS lQ (U 1) (g7 jU rfl T.iI iF (ae (U 0) aA)))) aR))
   (aM (bL (i:=4) wn.aC (bS dJ (bS dJ (bS lQ (U 3) aR) (bS kf (bS kf aR (U 1)) (U 1))) aR))
   (a3 (bX (bS lQ (bS lQ (bS kf (bS lQ (bS kf (U 4) aR) aR) aR) aR) (U 2)))))),?_⟩
 nofun;refine ⟨_,.inl S.seq,?_⟩;rw [bb];have akR:(0:Int) <= k * k/\k * k < 1000000 * 1000000:=⟨Int.mul_nonneg h0 h0,Int.mul_lt_mul' (by omega) af h0 (by decide)⟩;have fin:∀ i:Int,(0:Int) < 1000003/\qZ 31 k/\qZ (31 * k) k/\qZ (i % 1000003 + 31 * k * k + 1) 48271/\(0:Int) < 999983/\qZ ((i % 1000003 + 31 * k * k + 1) * 48271 % 999983) 7919/\(0:Int) < 524287/\0 < m:=by
  intro i;refine ⟨by decide,.inl (by decide),.inr (by omega),.inr (by decide),by decide,.inr (by decide),by decide,hm⟩
 by_cases c:(0:Int) < (ns.length:Int)
 .rw [if_pos (decide_eq_true c)];have aJ:0 <= k % (ns.length:Int)/\k % (ns.length:Int) < (ns.length:Int):=⟨pd _ (by omega),sP _ c⟩;refine ⟨_,.inl S.seq,by rw [bb];exact c,_,S.seq,?_⟩;rw [bb];have bf:(k % (ns.length:Int)).toNat < ns.length:=by omega
  refine ⟨.int ns[(k % (ns.length:Int)).toNat],?_,_,rfl,?_⟩
  .have e:=dw (xs:=ns.map V.int) (j:=(k % (ns.length:Int)).toNat) (v:=.int ns[(k % (ns.length:Int)).toNat]) (by rw [ec,cJ bf] <;> rfl);rwa [zS aJ.1] at e
  .obtain ⟨f1,f2,d3,f4,el,vh,qw,f8⟩:=fin ns[(k % (ns.length:Int)).toNat];refine ⟨f1,f2,d3,f4,el,vh,qw,f8,?_⟩;have e:ee ns k m=(((ns[(k % (ns.length:Int)).toNat] % 1000003 + 31 * k * k + 1) * 48271 % 999983 * 7919) % 524287) % m:=by
    unfold ee;rw [if_pos c,jx,cJ bf];rfl
   rw [<- e];exact q
 .rw [if_neg (by simpa using c)];obtain ⟨f1,f2,d3,f4,el,vh,qw,f8⟩:=fin 0;refine ⟨f1,f2,d3,f4,el,vh,qw,f8,?_⟩;have e:ee ns k m=(((0 % 1000003 + 31 * k * k + 1) * 48271 % 999983 * 7919) % 524287) % m:=by
   unfold ee;rw [if_neg c]
  rw [<- e];exact q
theorem Ba {w:Str}:w=ag "" ↔ w.length=0:=by
 constructor
 .rintro rfl;ac_nf
 .intro h;have e:w.cps=#[]:=UU h;have az:(ag "").cps=#[]:=by ac_nf
  cases w;cases ai:ag "";rw [ai] at az;simp only at e az;rw [e,az]
noncomputable def sX (gp:Str) (c:Nat):Bool:=!(mn gp (iV c) 0 gp.length 1).isEmpty
theorem G9 (gp:Str) (c:Nat):sX gp c=decide (c ∈ gp.cps.toList):=X2 gp c
noncomputable def made (w gp:Str) (m:Int):Bool:=if w=ag "" then false else if m < (w.length:Int) then false else w.cps.toList.all (sX gp)
def GB:bI:=fun vs H Q _=>∃ w gp m,vs=[.str w,.str gp,.int m]/\w.length <= 1000/\aY H/\Q (.bp (made w gp m)) H
def VA:bI:=fun vs H Q _=>∃ w gp m,vs=[.str w,.str gp,.int m]/\w.length <= 1000/\∀ I,aN H I->Q (.bp (made w gp m)) I
theorem Mg:b_ P base T 1 t.x' t.Ao wI GB:=by
 refine bt.forget (sp:=VA) ?_ fun vs H Q E h=>?_
 .exists T.z'.ok ag3,9
  obtain ⟨w,gp,m,rfl,aD,q⟩:=h;have hA:w.length <= sizeLine:=b8 aD (by decide);refine ⟨_,(aM (c9 (gr.pt (vN (cU fw (U 0) cx (lc _)) (xK (cU qM (g7 tz rfl T.iI iF (ae (U 0) aA)) (U 2) (lc _))))) (a3 (bX mz)) dd)
   (a3 (bX (g7 (aer rfl) rfl T.akj ake (ae (iG rfl (Xo (U 0)) (gx (sc:=bG A_) rfl (by ac_nf)) (N:=["sign","signs"]) (sel:=[none,some 1]) (gs (M:=wI) (by ac_nf)) (fD.of (fun _ _ _ _=>(b6 (i:=0) (eT (N:=["sign","signs"]) (by ac_nf) rfl))) (fun _ _ _ _=>⟨_,iz,by walk_at "B"⟩) (fun _ _ _ _=>⟨_,(iH abJ (U 0) (U 1) (by with_unfolding_all rfl)),by walk_at "B"⟩))) aA))))),?_⟩
  nofun;refine dh (decide (w=ag "") || decide (m < (w.length:Int))) (fun Q a5=>?_) (fun ab=>?_) (fun ab=>?_)
  .nofun;by_cases c:w=ag ""
   .rw [if_pos (decide_eq_true c)];rw [decide_eq_true c,FX] at a5;exact a5
   .rw [if_neg (by simpa using c)];rw [decide_eq_false c,yE] at a5;exact ⟨hA,a5⟩
  .nofun;have e:made w gp m=false:=by
    unfold made;simp only [Bk,decide_eq_true_eq] at ab;by_cases c:w=ag ""
    .rw [if_pos c]
    .rw [if_neg c,if_pos (ab.resolve_left c)]
   have:=q H (aN.refl H);rw [e] at this;exact this
  .nofun;have e:made w gp m=w.cps.toList.all (sX gp):=by
    unfold made;simp only [zu,decide_eq_false_iff_not] at ab;rw [if_neg ab.1,if_neg ab.2]
   refine cY.aj0 (fun x=>match x with | .str y=>.bp (!(mn gp y 0 gp.length 1).isEmpty) | _=>.bT) (by rw [MW];exact hA) (fun i x N ak bx=>?_) (fun p ao=>?_)
   .unfold Tm at ak;rw [ec] at ak;cases ar:w.cps.toList[i]? with
    | none=>rw [ar] at ak;cases ak
    | some c=>
     rw [ar] at ak;have kh:V.str (iV c)=x:=dj ak;subst kh;nofun;exact ⟨Sub.name,bx⟩
   .refine ⟨p,rfl,w.cps.toList.map (sX gp),aW.of ?_,?_⟩
    .rw [aS];unfold Tm;rw [jC,jC];rfl
    .have:=q (upd H p (.lst (nf (fun x=>match x with | .str y=>.bp (!(mn gp y 0 gp.length 1).isEmpty) | _=>.bT) (Tm w)))) (a0 ao);rw [e] at this;rw [List.all_map];exact this
 .obtain ⟨w,gp,m,e,aD,bc,q⟩:=h;exact ⟨bc,w,gp,m,e,aD,fun I ck=>⟨ck,q⟩⟩
noncomputable abbrev rr:Str:=ag "0123456789"
noncomputable def k5 (c:Nat):Bool:=decide (48 <= c/\c <= 57)
theorem ahp (c:Nat):sX rr c=k5 c:=by
 rw [G9,show rr.cps.toList=List.range' 48 10 by ac_nf];unfold k5;refine decide_eq_decide.mpr ?_;rw [List.mem_range'_1];exact and_congr_right fun _=>show c < 58↔c <= 57 from Nat.lt_succ_iff
noncomputable abbrev cs (w:Str):List Nat:=w.cps.toList
theorem DW (w:Str):(cs w).length=w.length:=by simp [cs,nJ]
noncomputable def jQ (w:Str):Bool:=decide (1 <= (cs w).length) && decide ((cs w).length <= 3) && (cs w).all k5 && (decide ((cs w).length <= 1) || decide ((cs w).headD 0 ≠ 48))
noncomputable abbrev val (w:Str):Int:=((R7 (cs w):Nat):Int)
noncomputable def m2 (w:Str) (lo aj:Int):V:=if jQ w && !(decide (val w < lo) || decide (aj < val w)) then .int (val w) else .bT
theorem OA {w:Str} {c:Nat}:w=⟨#[c]⟩↔cs w=[c]:=by
 constructor
 .rintro rfl;rfl
 .intro h;cases w with
  | mk a=>
   have e:a=#[c]:=RH.mp h;rw [e]
theorem EK:ag "0"=⟨#[48]⟩:=by ac_nf
theorem QU (w:Str):made w rr 3=(decide (1 <= (cs w).length) && decide ((cs w).length <= 3) && (cs w).all k5):=by
 unfold made;have e:(sX rr)=k5:=funext ahp;rw [e];by_cases af:w=ag ""
 .have ai:=Ba.mp af;rw [if_pos af,DW,ai];rfl
 .have ai:¬ w.length=0:=fun z=>af (Ba.mpr z)
  rw [if_neg af,DW];by_cases br:(3:Int) < (w.length:Int)
  .rw [if_pos br,decide_eq_false (show ¬ w.length <= 3 by omega),A3,tR]
  .rw [if_neg br,decide_eq_true (show 1 <= w.length by omega),decide_eq_true (show w.length <= 3 by omega)];rfl
theorem VD {l:List Nat} (h:l.all k5=true):NumText.AllDigits l:=fun c ar=>by
 have:=qS.mp h c ar;simpa [k5] using this
theorem afr {w:Str} (h:jQ w=true):(1 <= (cs w).length/\(cs w).length <= 3)/\(cs w).all k5=true:=by
 unfold jQ at h;simp only [iQ,decide_eq_true_eq] at h;exact h.1
def Pb:bI:=fun vs H Q _=>∃ w,vs=[.str w,.int 3]/\w.length <= 1000/\aY H/\Q (.bp (jQ w)) H
def agc:bI:=fun vs H Q _=>∃ w lo aj,vs=[.str w,.int lo,.int aj]/\w.length <= 1000/\aY H/\Q (m2 w lo aj) H
theorem afB:b_ P base T 2 t.vB t.B7 y6 Pb:=by
 refine cF (Mg T) fun IL=>?_;exists T.Fs.ok aji,9
 obtain ⟨w,rfl,aD,bc,q⟩:=h;have hA:w.length <= sizeLine:=b8 aD (by decide);refine ⟨_,(aM (c9 (tT (mK (bK IL av T.QR T.z'.bh T.Uh (ae (U 0) (ae (jy rfl T.aeH T.YH) (ae (U 1) aA)))))) (a3 (bX mz)) dd)
   (a3 (bX (BZ (iH fw (U 0) cx (lc _)) (rR (iH l5 (cD F_ (U 0) aR) cx (lc _))))))),?_⟩
 refine dh (!made w rr 3) (fun Q a5=>?_) (fun ab=>?_) (fun ab=>?_)
 ·(nofun; repeat (dsimp only [GB];nofun));exact ⟨aD,bc,a5⟩
 .nofun;have e:jQ w=false:=by
   have ew:made w rr 3=false:=by simpa using ab
   rw [QU] at ew;unfold jQ;rw [ew];rfl
  rw [e] at q;exact q
 .have ew:made w rr 3=true:=by simpa using ab
  rw [QU] at ew;rw [ft];dsimp only;refine aiv (.bp (jQ w)) (fun Q a5=>?_) ?_
  case refine_2=>exact q
  nofun;have ma:(1 <= (cs w).length/\(cs w).length <= 3)/\(cs w).all k5=true:=by
   simpa only [iQ,decide_eq_true_eq] using ew
  obtain ⟨c,r,Gl⟩:∃ c r,cs w=c :: r:=by
   cases h:cs w with
   | nil=>rw [h] at ma;exact absurd ma.1.1 (by decide)
   | cons c r=>exact ⟨c,r,rfl⟩
  have ok:jQ w=(decide ((cs w).length <= 1) || decide ((cs w).headD 0 ≠ 48)):=by
   unfold jQ;rw [ew,z7]
  by_cases ot:w=ag "0"
  .rw [if_pos (decide_eq_true ot)];have e:cs w=[48]:=by rw [ot,EK]
   rw [ok,e] at a5;exact a5
  .rw [if_neg (by simpa using ot)];refine ⟨hA,c,?_,?_⟩
   .have:=dw (xs:=cs w) (j:=0) (v:=c) (by rw [Gl];rfl);exact this
   .have az:decide ((⟨#[c]⟩:Str)=ag "0")=decide (c=48):=by
     rw [EK];by_cases pS:c=48
     .rw [pS];simp
     .rw [decide_eq_false pS,decide_eq_false];intro z;have d5:=OA.mp z;exact pS (pe d5).1
    rw [az];have bW:jQ w = !decide (c=48):=by
     rw [ok,Gl];show (decide ((c :: r).length <= 1) || decide (c ≠ 48))=_;by_cases pS:c=48
     .have av:r ≠ []:=fun z=>ot (by rw [EK];exact OA.mpr (by rw [Gl,z,pS]))
      have:¬ (c :: r).length <= 1:=by
       cases r with
       | nil=>exact absurd rfl av
       | cons d r=>simp
      rw [decide_eq_false this,pS];rfl
     .rw [decide_eq_true pS,IK,decide_eq_false pS];rfl
    rw [<- bW];exact a5
theorem ajp:b_ P base T 3 t.xq t.zn D2 agc:=by
 refine cF (afB T) fun afe=>?_;exists T.Hz.ok OF,9
 obtain ⟨w,lo,aj,rfl,aD,bc,q⟩:=h;refine ⟨_,(aM (c9 (tT (mK (bK afe av T.agQ T.Fs.bh T.agY (ae (U 0) (ae (jy rfl T.afl T.ag4) aA))))) (a3 (bX jB)) dd)
   (aM (bL (i:=3) OF.aC (k2 VZ rfl T.Xc agK (ae (U 0) aA)))
   (aM (c9 (gr.pt (vN (cU sh (U 3) (U 1) (lc _)) (xK (cU qM (U 3) (U 2) (lc _))))) (a3 (bX jB)) dd)
   (a3 (bX (U 3)))))),?_⟩
 refine dh (!jQ w) (fun Q a5=>?_) (fun ab=>?_) (fun ab=>?_)
 ·(nofun; repeat (dsimp only [Pb];nofun));exact ⟨aD,bc,a5⟩
 .nofun;have ew:jQ w=false:=by simpa using ab
  have e:m2 w lo aj=.bT:=by unfold m2;rw [ew];rfl
  rw [e] at q;exact q
 .have ew:jQ w=true:=by simpa using ab
  have br:(1 <= (cs w).length/\(cs w).length <= 3)/\(cs w).all k5=true:=by
   have:=ew;unfold jQ at this;simp only [iQ,decide_eq_true_eq] at this;exact this.1
  have ax:=DW w;have jk:intText? w=some (val w):=intText_digits (VD br.2) (fun z=>by have dk:cs w=[]:=z;rw [dk] at br;exact absurd br.1.1 (by decide)) (by omega);nofun;refine ⟨val w,jk,by omega,?_⟩;refine dh (decide (val w < lo) || decide (aj < val w)) (fun Q a5=>?_) (fun ar=>?_) (fun ar=>?_)
  .nofun;by_cases c:val w < lo
   .rw [if_pos (decide_eq_true c)];rw [decide_eq_true c,FX] at a5;exact a5
   .rw [if_neg (by simpa using c)];rw [decide_eq_false c,yE] at a5;exact a5
  .nofun;have e:m2 w lo aj=.bT:=by unfold m2;rw [ew,ar];rfl
   rw [e] at q;exact q
  .nofun;have e:m2 w lo aj=.int (val w):=by unfold m2;rw [ew,ar];rfl
   rw [e] at q;exact q
theorem lv {n:Nat} (h:n < 1000):n.log2 < 1920:=by
 by_cases h0:n=0
 .subst h0;decide
 .rw [VG h0];exact h2 h (b8 (show 1000 <= 2 ^ 10 by decide) (NZ (by decide) (by decide)))
theorem ajf:∀ n,n < 1000->(u9 10 n).length <= 3:=by ac_nf
theorem aa5 {n:Int} (h0:0 <= n) (af:n <= 999):(ag (toString n)).length <= 3:=by
 have e:=ab5 n.toNat;rw [zS h0] at e;have l:(ag (toString n)).length=(ag (toString n)).cps.toList.length:=by simp [nJ]
 rw [l,e,bb];exact ajf _ (by omega)
noncomputable abbrev gn:Str:=ag "abcdefghijklmnopqrstuvwxyz"
def ahF:bI:=fun vs H Q _=>∃ w,vs=[.str w]/\w.length <= 1000/\aY H/\Q (.bp (made w gn 8)) H
theorem FZ:b_ P base T 2 t.vP t.yT ["word"] ahF:=by
 refine cF (Mg T) fun IL=>?_;exists T.v3.ok aaL,9
 obtain ⟨w,rfl,aD,bc,q⟩:=h;refine ⟨_,(a3 (bX (bK IL av T.QR T.z'.bh T.Uh (ae (U 0) (ae (jy rfl T.aeR T.af5) (ae (jy rfl T.VB T.aiR) aA)))))),?_⟩;(nofun; repeat (dsimp only [GB];nofun));exact ⟨aD,bc,q⟩
noncomputable abbrev nl:Str:=ag "\n"
noncomputable abbrev cq:Str:=ag " "
theorem nL:nl=⟨#[10]⟩:=by ac_nf
theorem pX:cq=⟨#[32]⟩:=by ac_nf
noncomputable def i3 (x:Str):List (List Str):=(ha x nl).map fun r=>ha r cq
theorem Sb:∀ {ys:List Str} {y:Str},y ∈ ys->y.length <= (ys.map (·.length)).sum
 | [],_,h=>nomatch h
 | a :: r,y,h=>by
  rw [dR,PB];rcases cX.mp h with rfl | h
  .omega
  .have:=Sb h;omega
theorem J5 {x y r:Str} (aT:1 <= y.length) (h:r ∈ ha x y):r.length <= x.length + 1:=by
 have af:=agd x y aT;have ai:=Sb h;omega
theorem D_ {x y:Str} (aT:1 <= y.length):(ha x y).length <= x.length + 1:=by
 have af:=agd x y aT;omega
theorem ae7 (x y:Str):ha x y ≠ []:=by
 unfold ha;split
 .simp
 .split
  .simp
  .rw [StrLaws.partsBetween_eq];obtain ⟨p,r,e⟩:=StrLaws.partsFrom_ne x y.length 0 (mn x y 0 x.length (x.length + 1));rw [e];simp
def ad3 (ob H:aq) (p:Addr) (rows:List (List Str)):Prop:=∃ qs:List Addr,H p=some (.lst (qs.map V.ref))/\ob p=none/\p ∉ qs/\qs.length=rows.length/\∀ (i:Nat) (q:Addr) (r:List Str),qs[i]? = some q->rows[i]? = some r->H q=some (.lst (cv r))/\ob q=none
def Dw:bI:=fun vs H Q _=>∃ x,vs=[.str x]/\x.length <= 20000/\aY H/\∀ p I,aN H I->aY I->ad3 H I p (i3 x)->Q (.ref p) I
theorem nY:nl.length=1:=by ac_nf
theorem p7:cq.length=1:=by ac_nf
theorem Qw:b_ P base T 1 t.rU t.ui ["text"] Dw:=by
 exists T.zb.ok Xs,9
 obtain ⟨x,rfl,aD,bc,q⟩:=h;have gf:∀ n:Nat,n <= 40000->n <= sizeLine:=fun n h=>b8 h (by decide)
 refine ⟨_,(a3 (bX (iG rfl (iP (iS sJ zv VE Tw (U 0) (ae cx aA))) (gx (sc:=bG Aw) rfl (by ac_nf)) (N:=["row"]) (sel:=[none]) (gs (M:=["text"]) (by ac_nf)) (fD.of (fun _ _ _ _=>(b6 (i:=0) (eT (N:=["row"]) (by ac_nf) rfl))) (fun _ _ _ _=>⟨_,iz,by walk_at "B"⟩) (fun _ _ _ _=>⟨_,(iS sJ zv VE Tw (U 0) (ae cx aA)),by walk_at "B"⟩))))),?_⟩;nofun;have aT:1 <= nl.length:=by rw [nY];exact bu _
 have OP:1 <= cq.length:=by rw [p7];exact bu _
 have aG:=D_ (x:=x) aT;have mO:(cv (ha x nl)).length <= sizeLine:=by unfold cv;rw [bb];exact gf _ (by omega)
 refine ⟨by rw [nY];decide,gf _ (by omega),gf _ (show (ha x nl).length <= 40000 by omega),fun p ao=>⟨⟨_,aW.of aS⟩,?_⟩⟩;refine cY.akl (xs:=cv (ha x nl)) (fun v=>match v with | .str r=>.lst (cv (ha r cq)) | _=>.lst []) (aW.of aS) mO (fun v=>by cases v <;> rfl) (fun i v H1 N ak ck oa bx=>?_) (fun qs H1 ck oa ax al dM c5=>?_)
 .unfold cv at ak;rw [ec] at ak;cases av:(ha x nl)[i]? with
  | none=>rw [av] at ak;cases ak
  | some r=>
   rw [av] at ak;have e:=dj ak;subst e;have hm:=J5 aT (d4 av);have fN:=D_ (x:=r) OP;nofun;exact ⟨Sub.name,by rw [p7];decide,gf _ (by omega),gf _ (show (ha r cq).length <= 40000 by omega),bx⟩
 .have FJ:aN H H1:=(a0 ao).trans ck;refine q _ _ (FJ.hM (FJ.free c5)) ((oa (bc.upd)).upd) ⟨qs,aS,FJ.free c5,fun hm=>?_,?_,fun i cS r af ai=>?_⟩
  .obtain ⟨j,bf,e⟩:=OL hm;have xZ:j < (cv (ha x nl)).length:=by omega
   have:=al j dM _ (by rw [cJ bf,e]) (cJ xZ);rw [c5] at this;cases this.1
  .rw [ax];unfold i3 cv;rw [bb,bb]
  .unfold i3 at ai;rw [ec] at ai;cases av:(ha x nl)[i]? with
   | none=>rw [av] at ai;cases ai
   | some acE=>
    rw [av] at ai;have e:=dj ai;subst e;have z:=al i cS (.str acE) af (by unfold cv;rw [ec,av];rfl);refine ⟨by rw [aX (Db z.1 c5)];exact z.1,?_⟩;have:=z.2;by_cases aB:cS=p
    .rw [aB];exact ao
    .rwa [aX aB] at this
structure a8 where
 k:Nat
 name:Str
 start:Int
 fin:Int
 off:Int
 near:Int
 least:Int
noncomputable def d9:Nat->Str
 | 0=>ag "car"
 | 1=>ag "foot"
 | _=>ag "tram"
noncomputable def bJ.fV (t:bJ):Nat->Addr
 | 0=>t.eF
 | 1=>t.eI
 | _=>t.eQ
noncomputable def nd (d:a8):List (Str × V):=[(ag "kind",.str (d9 d.k)),(ag "name",.str d.name),(ag "start",.int d.start),(ag "end",.int d.fin),(ag "off",.int d.off),(ag "near",.int d.near),(ag "least",.int d.least)]
noncomputable abbrev Ev:List Str:=[ag "kind",ag "name",ag "start",ag "end",ag "off",ag "near",ag "least"]
theorem QX (d:a8):(nd d).map (·.1)=Ev:=rfl
def eo (t:bJ) (H:aq) (p:Addr) (d:a8):Prop:=d.k < 3/\∃ au,H p=some (.ins (t.fV d.k) au (nd d))
theorem eo.same {t:bJ} {H I:aq} {p:Addr} {d:a8} (h:eo t H p d) (s:aN H I):eo t I p d:=⟨h.1,h.2.imp fun au e=>s _ _ e⟩
def sk (t:bJ) (C:Addr):Prop:=∃ k,k < 3/\C=t.fV k
noncomputable def lT (d:a8):Int:=match d.k with | 0=>1 | 1=>0 | _=>2
noncomputable def lq (d:a8):Int:=match d.k with | 0=>2 | 1=>d.off | _=>1
section
variable {w:World} {K:a4} {ah:Str->Option Value} {t:bJ}
theorem Txt.pH (T:Txt w K ah t):∀ k,et K (t.fV k)
 | 0=>T.Fc
 | 1=>T.Iq
 | _ + 2=>T.I0
theorem Txt.OD (T:Txt w K ah t) {f:Str} (hf:f ∈ Ev):∀ k,bz K (t.fV k) f:=by
 intro k;simp only [Ev,cX,gP,or_false] at hf;rcases hf with rfl | rfl | rfl | rfl | rfl | rfl | rfl
 .match k with
  | 0=>exact T.ae4
  | 1=>exact T.W2
  | _ + 2=>exact T.acF
 .match k with
  | 0=>exact T.VQ
  | 1=>exact T.agZ
  | _ + 2=>exact T.YO
 .match k with
  | 0=>exact T.At
  | 1=>exact T.Wb
  | _ + 2=>exact T.aeX
 .match k with
  | 0=>exact T.akF
  | 1=>exact T.adM
  | _ + 2=>exact T.adk
 .match k with
  | 0=>exact T.V3
  | 1=>exact T.wv
  | _ + 2=>exact T.aiH
 .match k with
  | 0=>exact T.ab6
  | 1=>exact T.aaO
  | _ + 2=>exact T.WR
 .match k with
  | 0=>exact T.aiA
  | 1=>exact T.aaR
  | _ + 2=>exact T.ad1
theorem Txt.cw_inj (T:Txt w K ah t) {j k:Nat} (bf:j < 3) (aJ:k < 3) (e:t.fV j=t.fV k):j=k:=by
 match j,k,bf,aJ with
 | 0,0,_,_=>rfl
 | 0,1,_,_=>exact absurd e T.Uc
 | 0,2,_,_=>exact absurd e T.RF
 | 1,0,_,_=>exact absurd e.symm T.Uc
 | 1,1,_,_=>rfl
 | 1,2,_,_=>exact absurd e T.Ri
 | 2,0,_,_=>exact absurd e.symm T.RF
 | 2,1,_,_=>exact absurd e.symm T.Ri
 | 2,2,_,_=>rfl
 | j + 3,_,h,_=>omega
 | _,k + 3,_,h=>omega
theorem eo.fld (T:Txt w K ah t) {H:aq} {p:Addr} {d:a8} (h:eo t H p d) {f:Str} {v:V} (i:Nat) (aj:Ev.findIdx? (· == f)=some i) (aU:(nd d)[i]? = some (f,v)):io K H p f v:=by
 obtain ⟨_,au,e⟩:=h;have hm:f ∈ Ev:=by
  obtain ⟨cH,af,_⟩:=List.findIdx?_eq_some_iff_getElem.mp aj;have:Ev[i]=f:=by simpa using af
  rw [<- this];exact zp cH
 exact ⟨_,au,_,e,T.pH _,T.OD hm _,lz Ev i (QX d) aj aU⟩
theorem eo.PX (T:Txt w K ah t) {H:aq} {p:Addr} {d:a8} (h:eo t H p d):io K H p (ag "name") (.str d.name):=h.fld T 1 (by ac_nf) rfl
theorem eo.sZ (T:Txt w K ah t) {H:aq} {p:Addr} {d:a8} (h:eo t H p d):io K H p (ag "start") (.int d.start):=h.fld T 2 (by ac_nf) rfl
theorem eo.rL (T:Txt w K ah t) {H:aq} {p:Addr} {d:a8} (h:eo t H p d):io K H p (ag "end") (.int d.fin):=h.fld T 3 (by ac_nf) rfl
theorem eo.Oe (T:Txt w K ah t) {H:aq} {p:Addr} {d:a8} (h:eo t H p d):io K H p (ag "off") (.int d.off):=h.fld T 4 (by ac_nf) rfl
theorem eo.af3 (T:Txt w K ah t) {H:aq} {p:Addr} {d:a8} (h:eo t H p d):io K H p (ag "near") (.int d.near):=h.fld T 5 (by ac_nf) rfl
end
def aku (t:bJ):bI:=fun vs H Q _=>∃ (p au:Addr) (d:a8),vs=[.ref p,.str (d9 d.k),.str d.name,.int d.start,.int d.fin,.int d.off,.int d.near,.int d.least]/\d.k < 3/\H p=some (.ins (t.fV d.k) au [])/\Q .bT (upd H p (.ins (t.fV d.k) au (nd d)))
def tG (t:bJ) (k:Nat):bI:=fun vs H Q _=>∃ (p au:Addr) (d:a8),vs=[.ref p,.str d.name,.int d.start,.int d.fin,.int d.off,.int d.near,.int d.least]/\d.k=k/\H p=some (.ins (t.fV d.k) au [])/\Q .bT (upd H p (.ins (t.fV d.k) au (nd d)))
theorem Dg:b_ P base T 1 t.u6 t.Be y3 (aku t):=by
 exists T.NL.ok Y3,9
 obtain ⟨p,au,d,rfl,aJ,ao,q⟩:=h;refine ⟨_,(aM (g8 (U 0) (U 1) rfl)
   (aM (g8 (U 0) (U 2) rfl)
   (aM (g8 (U 0) (U 3) rfl)
   (aM (g8 (U 0) (U 4) rfl)
   (aM (g8 (U 0) (U 5) rfl)
   (aM (g8 (U 0) (U 6) rfl)
   (a3 (g8 (U 0) (U 7) rfl)))))))),?_⟩
 nofun;have na:∀ {f:Str},f ∈ Ev->bz K (t.fV d.k) f:=fun hf=>T.OD hf d.k
 refine ⟨_,_,_,ao,T.pH _,na (by ac_nf),by decide,?_⟩;refine ⟨_,_,_,aS,T.pH _,na (by ac_nf),fG (n:=999) (by decide),?_⟩;refine ⟨_,_,_,aS,T.pH _,na (by ac_nf),fG (n:=999) (fG (n:=998) (by decide)),?_⟩;refine ⟨_,_,_,aS,T.pH _,na (by ac_nf),fG (n:=999) (fG (n:=998) (fG (n:=997) (by decide))),?_⟩;refine ⟨_,_,_,aS,T.pH _,na (by ac_nf),fG (n:=999) (fG (n:=998) (fG (n:=997) (fG (n:=996) (by decide)))),?_⟩;refine ⟨_,_,_,aS,T.pH _,na (by ac_nf),fG (n:=999) (fG (n:=998) (fG (n:=997) (fG (n:=996) (fG (n:=995) (by decide))))),?_⟩;refine ⟨_,_,_,aS,T.pH _,na (by ac_nf),fG (n:=999) (fG (n:=998) (fG (n:=997) (fG (n:=996) (fG (n:=995) (fG (n:=994) (by decide)))))),?_⟩;simp only [nk];rw [show Tk (ag "kind") (V.str (d9 d.k)) ([]:List (Str × V))=[(ag "kind",V.str (d9 d.k))] from iC [] rfl (by ac_nf),
  show Tk (ag "name") (V.str d.name) ([(ag "kind",V.str (d9 d.k))]:List (Str × V))=[(ag "kind",V.str (d9 d.k)),(ag "name",V.str d.name)] from iC [ag "kind"] rfl (by ac_nf),
  show Tk (ag "start") (V.int d.start) ([(ag "kind",V.str (d9 d.k)),(ag "name",V.str d.name)]:List (Str × V))=[(ag "kind",V.str (d9 d.k)),(ag "name",V.str d.name),(ag "start",V.int d.start)] from iC [ag "kind",ag "name"] rfl (by ac_nf),
  show Tk (ag "end") (V.int d.fin) ([(ag "kind",V.str (d9 d.k)),(ag "name",V.str d.name),(ag "start",V.int d.start)]:List (Str × V))=[(ag "kind",V.str (d9 d.k)),(ag "name",V.str d.name),(ag "start",V.int d.start),(ag "end",V.int d.fin)] from iC [ag "kind",ag "name",ag "start"] rfl (by ac_nf),
  show Tk (ag "off") (V.int d.off) ([(ag "kind",V.str (d9 d.k)),(ag "name",V.str d.name),(ag "start",V.int d.start),(ag "end",V.int d.fin)]:List (Str × V))=[(ag "kind",V.str (d9 d.k)),(ag "name",V.str d.name),(ag "start",V.int d.start),(ag "end",V.int d.fin),(ag "off",V.int d.off)] from iC [ag "kind",ag "name",ag "start",ag "end"] rfl (by ac_nf),
  show Tk (ag "near") (V.int d.near) ([(ag "kind",V.str (d9 d.k)),(ag "name",V.str d.name),(ag "start",V.int d.start),(ag "end",V.int d.fin),(ag "off",V.int d.off)]:List (Str × V))=[(ag "kind",V.str (d9 d.k)),(ag "name",V.str d.name),(ag "start",V.int d.start),(ag "end",V.int d.fin),(ag "off",V.int d.off),(ag "near",V.int d.near)] from iC [ag "kind",ag "name",ag "start",ag "end",ag "off"] rfl (by ac_nf),
  show Tk (ag "least") (V.int d.least) ([(ag "kind",V.str (d9 d.k)),(ag "name",V.str d.name),(ag "start",V.int d.start),(ag "end",V.int d.fin),(ag "off",V.int d.off),(ag "near",V.int d.near)]:List (Str × V))=[(ag "kind",V.str (d9 d.k)),(ag "name",V.str d.name),(ag "start",V.int d.start),(ag "end",V.int d.fin),(ag "off",V.int d.off),(ag "near",V.int d.near),(ag "least",V.int d.least)] from iC [ag "kind",ag "name",ag "start",ag "end",ag "off",ag "near"] rfl (by ac_nf)]
 exact q
theorem ai8:b_ P base T 2 t.qW t.xp jS (tG t 0):=by
 refine cF (Dg T) fun vn=>?_;exists T.MM.ok YV,9
 obtain ⟨p,au,d,rfl,aJ,ao,q⟩:=h;refine ⟨_,(a3 (fO (Jz rfl T.Fq T.Kk vn av T.Hp .nil cT (ae (U 0) (ae cx (ae (U 1) (ae (U 2) (ae (U 3) (ae (U 4) (ae (U 5) (ae (U 6) aA))))))))))),?_⟩;nofun;exact ⟨p,au,d,by rw [aJ];rfl,by omega,ao,q⟩
theorem YE:b_ P base T 2 t.r' t.xy jS (tG t 1):=by
 refine cF (Dg T) fun vn=>?_;exists T.SH.ok U',9
 obtain ⟨p,au,d,rfl,aJ,ao,q⟩:=h;refine ⟨_,(a3 (fO (Jz rfl T.Fq T.Kk vn av T.Hp .nil cT (ae (U 0) (ae cx (ae (U 1) (ae (U 2) (ae (U 3) (ae (U 4) (ae (U 5) (ae (U 6) aA))))))))))),?_⟩;nofun;exact ⟨p,au,d,by rw [aJ];rfl,by omega,ao,q⟩
theorem aj8:b_ P base T 2 t.ry t.xn jS (tG t 2):=by
 refine cF (Dg T) fun vn=>?_;exists T.QP.ok ajh,9
 obtain ⟨p,au,d,rfl,aJ,ao,q⟩:=h;refine ⟨_,(a3 (fO (Jz rfl T.Fq T.Kk vn av T.Hp .nil cT (ae (U 0) (ae cx (ae (U 1) (ae (U 2) (ae (U 3) (ae (U 4) (ae (U 5) (ae (U 6) aA))))))))))),?_⟩;nofun;exact ⟨p,au,d,by rw [aJ];rfl,by omega,ao,q⟩
def tc (t:bJ) (C:Addr):bI:=fun vs H Q _=>∃ p d,vs=[.ref p]/\eo t H p d/\C=t.fV d.k/\Q (.int (lT d)) H
def uN (t:bJ) (C:Addr):bI:=fun vs H Q _=>∃ p d,vs=[.ref p]/\eo t H p d/\C=t.fV d.k/\Q (.int (lq d)) H
theorem ZO:b_ P base T 1 t.wf t.ii ["self"] (tc t (t.fV 0)):=by
 exists T.Um.ok acK,9
 obtain ⟨p,d,rfl,W,cB,q⟩:=h;have aJ:=(T.cw_inj (by decide) W.1 cB).symm;refine ⟨_,(a3 (bX aR)),?_⟩;rw [show lT d=1 by unfold lT;simp only [aJ]] at q;nofun;exact q
theorem YG:b_ P base T 1 t.uY t.y8 ["self"] (tc t (t.fV 1)):=by
 exists T.Qk.ok V2,9
 obtain ⟨p,d,rfl,W,cB,q⟩:=h;have aJ:=(T.cw_inj (by decide) W.1 cB).symm;refine ⟨_,(a3 (bX aR)),?_⟩;rw [show lT d=0 by unfold lT;simp only [aJ]] at q;nofun;exact q
theorem ad9:b_ P base T 1 t.uu t.CM ["self"] (tc t (t.fV 2)):=by
 exists T.OE.ok ahd,9
 obtain ⟨p,d,rfl,W,cB,q⟩:=h;have aJ:=(T.cw_inj (by decide) W.1 cB).symm;refine ⟨_,(a3 (bX aR)),?_⟩;rw [show lT d=2 by unfold lT;simp only [aJ]] at q;nofun;exact q
theorem SD (T:Txt w K ah t):nV P w K ah base b7 1 (sk t) "ready" ["self"] (tc t):=by
 refine ⟨fun C cB=>?_⟩;obtain ⟨k,aJ,rfl⟩:=cB
 match k,aJ with
 | 0,_=>exact ⟨_,_,T.Fc,T.ab3,ZO T,T.ac2⟩
 | 1,_=>exact ⟨_,_,T.Iq,T.aaZ,YG T,T.acd⟩
 | 2,_=>exact ⟨_,_,T.I0,T.VJ,ad9 T,T.agv⟩
theorem agB:b_ P base T 1 t.tr t.y0 ["self"] (uN t (t.fV 0)):=by
 exists T.Rm.ok UX,9
 obtain ⟨p,d,rfl,W,cB,q⟩:=h;have aJ:=(T.cw_inj (by decide) W.1 cB).symm;refine ⟨_,(a3 (bX aR)),?_⟩;rw [show lq d=2 by unfold lq;simp only [aJ]] at q;nofun;exact q
theorem WW:b_ P base T 1 t.sv t.BW ["self"] (uN t (t.fV 1)):=by
 exists T.NS.ok acb,9
 obtain ⟨p,d,rfl,W,cB,q⟩:=h;have aJ:=(T.cw_inj (by decide) W.1 cB).symm;refine ⟨_,(a3 (bX (c1 (U 0) rfl))),?_⟩;rw [show lq d=d.off by unfold lq;simp only [aJ]] at q;nofun;exact ⟨_,W.Oe T,q⟩
theorem Z0:b_ P base T 1 t.sO t.ci ["self"] (uN t (t.fV 2)):=by
 exists T.Go.ok aap,9
 obtain ⟨p,d,rfl,W,cB,q⟩:=h;have aJ:=(T.cw_inj (by decide) W.1 cB).symm;refine ⟨_,(a3 (bX aR)),?_⟩;rw [show lq d=1 by unfold lq;simp only [aJ]] at q;nofun;exact q
theorem Mc (T:Txt w K ah t):nV P w K ah base b7 1 (sk t) "fade" ["self"] (uN t):=by
 refine ⟨fun C cB=>?_⟩;obtain ⟨k,aJ,rfl⟩:=cB
 match k,aJ with
 | 0,_=>exact ⟨_,_,T.Fc,T.Ym,agB T,T.ag5⟩
 | 1,_=>exact ⟨_,_,T.Iq,T.Y0,WW T,T.aff⟩
 | 2,_=>exact ⟨_,_,T.I0,T.aaP,Z0 T,T.aj1⟩
noncomputable def gL (c:Nat):List (List Nat)->List Nat
 | []=>[]
 | [a]=>a
 | a :: b :: r=>a ++ c :: gL c (b :: r)
theorem Sl {c:Nat}:∀ {a b X Y:List Nat},c ∉ a->c ∉ b->a ++ c :: X=b ++ c :: Y->a=b/\X=Y
 | [],[],X,Y,_,_,h=>⟨rfl,(pe h).2⟩
 | [],d :: b,X,Y,_,ab,h=>absurd (pe h).1 (fun z=>ab (by simp [<- z]))
 | d :: a,[],X,Y,aO,_,h=>absurd (pe h).1 (fun z=>aO (by simp [z]))
 | d :: a,e :: b,X,Y,aO,ab,h=>by
  obtain ⟨af,ai⟩:=pe h;obtain ⟨aw,az⟩:=Sl (fun z=>aO (fk _ z)) (fun z=>ab (fk _ z)) ai;exact ⟨by rw [af,aw],az⟩
theorem FM {c:Nat}:∀ {ps qs:List (List Nat)},(∀ p ∈ ps,c ∉ p)->(∀ q ∈ qs,c ∉ q)->ps ≠ []->qs ≠ []->gL c ps=gL c qs->ps=qs
 | [a],[b],_,_,_,_,h=>by rw [show a=b from h]
 | [a],b :: mW :: r,aO,_,_,_,h=>absurd (show c ∈ a by rw [show a=b ++ c :: gL c (mW :: r) from h];simp) (aO a (by simp))
 | a :: t4 :: r,[b],_,ab,_,_,h=>absurd (show c ∈ b by rw [show b=a ++ c :: gL c (t4 :: r) from h.symm];simp) (ab b (by simp))
 | a :: t4 :: r,b :: mW :: s,aO,ab,_,_,h=>by
  obtain ⟨aw,az⟩:=Sl (aO a (by simp)) (ab b (by simp)) (show a ++ c :: gL c (t4 :: r)=b ++ c :: gL c (mW :: s) from h);rw [aw,FM (fun p ao=>aO p (fk _ ao)) (fun q aB=>ab q (fk _ aB)) (by simp) (by simp) az]
 | [],_,_,_,h,_,_=>absurd rfl h
 | _ :: _,[],_,_,_,h,_=>absurd rfl h
theorem L8 {c d:Nat}:∀ {ps:List (List Nat)},d ∈ gL c ps->d=c\/∃ p ∈ ps,d ∈ p
 | [],h=>nomatch h
 | [a],h=>.inr ⟨a,by simp,h⟩
 | a :: b :: r,h=>by
  rcases hB.mp (show d ∈ a ++ c :: gL c (b :: r) from h) with h | h
  .exact .inr ⟨a,by simp,h⟩
  .rcases cX.mp h with h | h
   .exact .inl h
   .rcases L8 h with h | ⟨p,ao,h⟩
    .exact .inl h
    .exact .inr ⟨p,fk _ ao,h⟩
theorem oX (c:Nat):∀ ys:List Str,(dy ⟨#[c]⟩ ys).cps.toList=gL c (ys.map (·.cps.toList))
 | []=>rfl
 | [a]=>rfl
 | a :: b :: r=>by
  show (a ++ ⟨#[c]⟩ ++ dy ⟨#[c]⟩ (b :: r)).cps.toList=_;rw [iR,j7,iR,j7,oX c (b :: r)];simp [gL]
theorem uc {x y:Str} (h:x.cps.toList=y.cps.toList):x=y:=by
 cases x;cases y;exact congrArg Str.mk (RH.mp h)
theorem Bz {c:Nat} {ys:List Str} (aH:ys ≠ []) (hf:∀ y ∈ ys,c ∉ y.cps.toList):ha (dy ⟨#[c]⟩ ys) ⟨#[c]⟩=ys:=by
 have e:=congrArg (·.cps.toList) (StrLaws.join_split (dy ⟨#[c]⟩ ys) ⟨#[c]⟩);simp only [oX] at e;have az:=FM (c:=c) (ps:=(ha (dy ⟨#[c]⟩ ys) ⟨#[c]⟩).map (·.cps.toList)) (qs:=ys.map (·.cps.toList)) (fun p ao=>by
  obtain ⟨y,aT,rfl⟩:=da.mp ao;exact StrLaws.split_free _ c y aT) (fun p ao=>by
  obtain ⟨y,aT,rfl⟩:=da.mp ao;exact hf y aT) (by simp [ae7]) (by simpa using aH) e
 exact (List.map_inj_right fun x y h=>uc h).mp az
noncomputable abbrev num (v:Int):Str:=ag (toString v)
theorem ahx:∀ n,n < 1000->(decide (1 <= ((u9 10 n).map vT).length) && decide (((u9 10 n).map vT).length <= 3) && ((u9 10 n).map vT).all k5 && (decide (((u9 10 n).map vT).length <= 1) || decide (((u9 10 n).map vT).headD 0 ≠ 48)) &&
  decide (R7 ((u9 10 n).map vT)=n))=true:=by ac_nf
theorem Bt {v:Int} (h0:0 <= v) (af:v < 1000):jQ (num v)=true/\val (num v)=v:=by
 have e:=ab5 v.toNat;rw [zS h0] at e;have a:=ahx v.toNat (by omega);rw [<- e,iQ,decide_eq_true_eq] at a;exact ⟨a.1,by show ((R7 (cs (num v)):Nat):Int)=v;rw [a.2];omega⟩
theorem pp {v lo aj:Int} (h0:0 <= v) (af:v < 1000) (ax:lo <= v) (cQ:v <= aj):m2 (num v) lo aj=.int v:=by
 obtain ⟨a,b⟩:=Bt h0 af;unfold m2;rw [a,b,decide_eq_false (by omega:¬ v < lo),decide_eq_false (by omega:¬ aj < v)];rfl
theorem aht {u v:Int} (h0:0 <= u) (af:u < 1000) (ai:0 <= v) (br:v < 1000) (e:num u=num v):u=v:=by
 rw [<- (Bt h0 af).2,e,(Bt ai br).2]
theorem UN {v:Int} (h0:0 <= v) (af:v < 1000):∀ c ∈ (num v).cps.toList,48 <= c/\c <= 57:=fun c ar=>by
 have:=qS.mp (afr (Bt h0 af).1).2 c ar;simpa [k5] using this
theorem aaT:∀ c ∈ gn.cps.toList,97 <= c/\c <= 122:=by ac_nf
theorem WH:∀ k,k < 26->97 + k ∈ gn.cps.toList:=by ac_nf
theorem Fk {x:Str} (h:made x gn 8=true):(1 <= x.length/\x.length <= 8)/\∀ c ∈ x.cps.toList,97 <= c/\c <= 122:=by
 unfold made at h;split at h
 .cases h
 .rename_i af;split at h
  .cases h
  .rename_i ai;have br:¬ x.length=0:=fun z=>af (Ba.mpr z)
   refine ⟨by omega,fun c ar=>?_⟩;have:=qS.mp h c ar;rw [G9] at this;exact aaT c (of_decide_eq_true this)
theorem aaS {x:Str} (h0:1 <= x.length) (af:x.length <= 8) (h:∀ c ∈ x.cps.toList,97 <= c/\c <= 122):made x gn 8=true:=by
 unfold made;rw [if_neg (fun z=>by have:=Ba.mp z;omega),if_neg (by omega)];refine qS.mpr fun c ar=>?_
 have:=h c ar;rw [G9];have e:=WH (c - 97) (by omega);rw [show 97 + (c - 97)=c by omega] at e;exact decide_eq_true e
structure lE (n:Int) (d:a8):Prop where
 k:d.k < 3
 nm:made d.name gn 8=true
 st:0 <= d.start/\d.start < n
 eZ:0 <= d.fin/\d.fin < n
 ne:d.start ≠ d.fin
 of:0 <= d.off/\d.off <= 30
 jr:0 <= d.near/\d.near <= 30
 le:1 <= d.least/\d.least <= 60
structure mv (n:Int) (ds:List a8):Prop where
 nn:2 <= n/\n <= 99
 ln:1 <= ds.length/\ds.length <= 12
 al:∀ d ∈ ds,lE n d
 aC:(ds.map (·.name)).Nodup
noncomputable def ol (d:a8):List Str:=[d9 d.k,d.name,num d.start,num d.fin,num d.off,num d.near,num d.least]
noncomputable def gu (n:Int) (ds:List a8):List (List Str):=[ag "ring",num n] :: ds.map ol
noncomputable def f5 (n:Int) (ds:List a8):Str:=dy nl ((gu n ds).map (dy cq))
def mq (x:Str):Prop:=x.length <= 8/\(32:Nat) ∉ x.cps.toList/\(10:Nat) ∉ x.cps.toList
theorem O3 (k:Nat):mq (d9 k):=by
 match k with
 | 0=>exact ⟨by ac_nf,by ac_nf,by ac_nf⟩
 | 1=>exact ⟨by ac_nf,by ac_nf,by ac_nf⟩
 | _ + 2=>exact ⟨show (ag "tram").length <= 8 by ac_nf,show (32:Nat) ∉ (ag "tram").cps.toList by ac_nf,show (10:Nat) ∉ (ag "tram").cps.toList by ac_nf⟩
theorem jX {v:Int} (h0:0 <= v) (af:v < 1000):mq (num v):=
 ⟨b8 (aa5 h0 (by omega)) (by decide),fun z=>by have:=UN h0 af _ z;omega,fun z=>by have:=UN h0 af _ z;omega⟩
theorem r3 {x:Str} (h:made x gn 8=true):mq x:=
 ⟨(Fk h).1.2,fun z=>by have:=(Fk h).2 _ z;omega,fun z=>by have:=(Fk h).2 _ z;omega⟩
theorem lE.plain {n:Int} {d:a8} (h:lE n d) (aH:n <= 99):∀ x ∈ ol d,mq x:=fun x ak=>by
 have af:=h.st;have ai:=h.eZ;have br:=h.of;have cm:=h.jr;have gK:=h.le;simp only [ol,cX,gP,or_false] at ak;rcases ak with rfl | rfl | rfl | rfl | rfl | rfl | rfl
 .exact O3 _
 .exact r3 h.nm
 .exact jX (by omega) (by omega)
 .exact jX (by omega) (by omega)
 .exact jX (by omega) (by omega)
 .exact jX (by omega) (by omega)
 .exact jX (by omega) (by omega)
theorem mv.plain {n:Int} {ds:List a8} (h:mv n ds):∀ r ∈ gu n ds,∀ x ∈ r,mq x:=fun r av x ak=>by
 have aH:=h.nn;rcases cX.mp av with rfl | av
 .simp only [cX,gP,or_false] at ak;rcases ak with rfl | rfl
  .exact ⟨by ac_nf,by ac_nf,by ac_nf⟩
  .exact jX (by omega) (by omega)
 .obtain ⟨d,hd,rfl⟩:=da.mp av;exact (h.al d hd).plain aH.2 x ak
theorem YK {rs:List (List Str)} (h0:rs ≠ []) (af:∀ r ∈ rs,r ≠ []) (ai:∀ r ∈ rs,∀ x ∈ r,mq x):i3 (dy nl (rs.map (dy cq)))=rs:=by
 unfold i3;rw [nL,pX];rw [Bz (by simpa using h0) (fun y aT=>by
  obtain ⟨r,av,rfl⟩:=da.mp aT;rw [oX];intro z;rcases L8 z with z | ⟨p,ao,z⟩
  .cases z
  .obtain ⟨x,ak,rfl⟩:=da.mp ao;exact (ai r av x ak).2.2 z)]
 rw [jC];have:∀ r ∈ rs,((fun r=>ha r ⟨#[32]⟩) ∘ dy ⟨#[32]⟩) r=r:=fun r av=>Bz (af r av) fun x ak=>(ai r av x ak).2.1
 exact (agA this).trans (List.map_id rs)
theorem abj {n:Int} {ds:List a8} (h:mv n ds):i3 (f5 n ds)=gu n ds:=YK (by simp [gu]) (fun r av=>by
 rcases cX.mp av with rfl | av
 .simp
 .obtain ⟨d,hd,rfl⟩:=da.mp av;simp [ol]) h.plain
theorem rl (sep:Str) (B:Nat):∀ ys:List Str,(∀ y ∈ ys,y.length <= B)->(dy sep ys).length <= ys.length * (B + sep.length)
 | [],_=>by show (rx).length <= _;exact fL _
 | [a],h=>by
  have:=h a (by simp);show a.length <= _;simp only [dr,u5];omega
 | a :: b :: r,h=>by
  have af:=h a (by simp);have ai:=rl sep B (b :: r) fun y aT=>h y (fk _ aT)
  show (a ++ sep ++ dy sep (b :: r)).length <= _;rw [HV,HV,dr,Dd];omega
theorem aah {n:Int} {ds:List a8} (h:mv n ds):(f5 n ds).length <= 1000:=by
 have af:∀ y ∈ (gu n ds).map (dy cq),y.length <= 63:=fun y aT=>by
  obtain ⟨r,av,rfl⟩:=da.mp aT;have:=rl cq 8 r fun x ak=>(h.plain r av x ak).1
  rw [p7] at this;have ax:r.length <= 7:=by
   rcases cX.mp av with rfl | av
   .simp
   .obtain ⟨d,hd,rfl⟩:=da.mp av;simp [ol]
  omega
 have ai:=rl nl 63 _ af;rw [nY] at ai;have br:((gu n ds).map (dy cq)).length <= 13:=by
  have:=h.ln;simp [gu];omega
 unfold f5;omega
noncomputable abbrev oG:List Str:=[ag "row",ag "told",ag "place"]
noncomputable def kH (row:Int) (aV:Addr) (pl:Int):List (Str × V):=[(ag "row",.int row),(ag "told",.ref aV),(ag "place",.int pl)]
theorem w6 (row:Int) (aV:Addr) (pl:Int):(kH row aV pl).map (·.1)=oG:=rfl
theorem adL (row:Int) (aV:Addr) (pl v:Int):Tk (ag "place") (.int v) (kH row aV pl)=kH row aV v:=by
 unfold kH;simp only [Tk];rw [if_neg (by ac_nf),if_neg (by ac_nf)];rfl
def cp (t:bJ) (H:aq) (p:Addr) (row:Int) (ws:List Str) (pl:Nat):Prop:=
 (ws.length <= 1000/\∀ x ∈ ws,x.length <= 1000)/\∃ au aV,H p=some (.ins t.dZ au (kH row aV pl))/\H aV=some (.lst (cv ws))
def c3 (p:Addr) (H I:aq):Prop:=∀ b u,b ≠ p->H b=some u->I b=some u
theorem c3.trans {p:Addr} {H H1 ay:aq} (a:c3 p H H1) (b:c3 p H1 ay):c3 p H ay:=fun c u n e=>b c u n (a c u n e)
theorem c3.of {p:Addr} {H H1:aq} (a:aN H H1):c3 p H H1:=fun c u _ e=>a c u e
theorem c3.put {p:Addr} {H:aq} {o:ey}:c3 p H (upd H p o):=fun c u n e=>by rw [aX n];exact e
theorem qb (ws:List Str):(cv ws).length=ws.length:=by unfold cv;rw [bb]
theorem Su {ws:List Str} {i:Nat} {x:Str} (h:ws[i]? = some x):(cv ws)[i]? = some (.str x):=by unfold cv;rw [ec,h];rfl
theorem xI (ws:List Str):(cv ws).all k_=true:=by unfold cv;simp [k_]
theorem sT (x:Str) (xs:List Str):n2 (.str x) (cv xs)=decide (x ∈ xs):=by
 unfold n2 cv;rw [afx,oE];simp only [EY,YX,lK,beq_iff_eq,decide_eq_true_eq];constructor
 .rintro ⟨y,aT,rfl⟩;exact aT
 .intro h;exact ⟨x,h,rfl⟩
section
variable {w:World} {K:a4} {ah:Str->Option Value} {t:bJ} {H I:aq} {p:Addr} {row:Int} {ws:List Str} {pl:Nat}
theorem cp.same (h:cp t H p row ws pl) (s:aN H I):cp t I p row ws pl:=by
 obtain ⟨aD,au,aV,aw,az⟩:=h;exact ⟨aD,au,aV,s _ _ aw,s _ _ az⟩
theorem cp.B0 {q:Addr} (h:cp t H p row ws pl) (s:c3 q H I) (n:p ≠ q) (k:∃ C au aQ,H q=some (.ins C au aQ)):cp t I p row ws pl:=by
 obtain ⟨aD,au,aV,aw,az⟩:=h;obtain ⟨C,WZ,aQ,bW⟩:=k;exact ⟨aD,au,aV,s _ _ n aw,s _ _ (fb az bW (by intro z;cases z)) az⟩
theorem cp.ins (h:cp t H p row ws pl):∃ C au aQ,H p=some (.ins C au aQ):=by
 obtain ⟨aD,au,aV,aw,az⟩:=h;exact ⟨_,_,_,aw⟩
theorem cp.no {m:Str} (row:Int) (aV:Addr) (pl:Int) (h:oG.contains m=false):(kH row aV pl).lookup m=none:=l4 oG (w6 ..) h
theorem H9 (T:Txt w K ah t) {au aV:Addr} {pl:Int} (e:H p=some (.ins t.dZ au (kH row aV pl))):io K H p (ag "place") (.int pl):=
 ⟨_,au,_,e,T.eH,T.Hw,lz oG 2 (w6 ..) (by ac_nf) rfl⟩
theorem Gr (T:Txt w K ah t) {au aV:Addr} {pl:Int} (e:H p=some (.ins t.dZ au (kH row aV pl))):io K H p (ag "told") (.ref aV):=
 ⟨_,au,_,e,T.eH,T.gl,lz oG 1 (w6 ..) (by ac_nf) rfl⟩
end
def I4 (t:bJ):bI:=fun vs H Q _=>∃ (p au aV:Addr) (row:Int),vs=[.ref p,.int row,.ref aV]/\H p=some (.ins t.dZ au [])/\Q .bT (upd H p (.ins t.dZ au (kH row aV 0)))
def aid (t:bJ):bI:=fun vs H Q _=>∃ p row ws pl,vs=[.ref p]/\cp t H p row ws pl/\pl <= ws.length/\Q (.str (ws.getD pl (ag ""))) H
def adB (t:bJ):bI:=fun vs H Q _=>∃ p row ws pl,vs=[.ref p]/\cp t H p row ws pl/\Q (.bp (decide (pl < ws.length))) H
def wg (t:bJ) (H:aq) (p:Addr) (row:Int) (ws:List Str) (pl:Nat) (R:aq->Prop):Prop:=∀ I,c3 p H I->(aY H->aY I)->cp t I p row ws pl->R I
def Vt (t:bJ):bI:=fun vs H Q _=>∃ p row ws pl,vs=[.ref p,.bp true]/\cp t H p row ws pl/\wg t H p row ws (pl + 1) (Q .bT)
def Mv (K:a4) (t:bJ):bI:=fun vs H Q _=>∃ p row ws pl x c xs,vs=[.ref p,.ref c]/\cp t H p row ws pl/\ws[pl]? = some x/\aW K H c (cv xs)/\x ∈ xs/\wg t H p row ws (pl + 1) (Q (.str x))
def aaU (t:bJ):bI:=fun vs H Q _=>∃ p row ws pl x lo aj v,vs=[.ref p,.int lo,.int aj]/\cp t H p row ws pl/\ws[pl]? = some x/\m2 x lo aj=.int v/\aY H/\wg t H p row ws (pl + 1) (Q (.int v))
def Mq (t:bJ):bI:=fun vs H Q _=>∃ p row ws pl,vs=[.ref p]/\cp t H p row ws pl/\pl=ws.length/\Q .bT H
theorem XL:b_ P base T 1 t.bd t.sl uA (I4 t):=by
 exists T.Nb.ok Zb,9
 obtain ⟨p,au,aV,row,rfl,ao,q⟩:=h;refine ⟨_,(aM (g8 (U 0) (U 1) rfl)
   (aM (g8 (U 0) (U 2) rfl)
   (a3 (g8 (U 0) aR rfl)))),?_⟩
 nofun;refine ⟨_,_,_,ao,T.eH,T.acz,by decide,?_⟩;refine ⟨_,_,_,aS,T.eH,T.gl,fG (n:=999) (by decide),?_⟩;refine ⟨_,_,_,aS,T.eH,T.Hw,fG (n:=999) (fG (n:=998) (by decide)),?_⟩;simp only [nk];rw [show Tk (ag "row") (V.int row) ([]:List (Str × V))=[(ag "row",V.int row)] from iC [] rfl (by ac_nf),
  show Tk (ag "told") (V.ref aV) ([(ag "row",V.int row)]:List (Str × V))=[(ag "row",V.int row),(ag "told",V.ref aV)] from iC [ag "row"] rfl (by ac_nf),
  show Tk (ag "place") (V.int 0) ([(ag "row",V.int row),(ag "told",V.ref aV)]:List (Str × V))=[(ag "row",V.int row),(ag "told",V.ref aV),(ag "place",V.int 0)] from iC [ag "row",ag "told"] rfl (by ac_nf)]
 exact q
theorem sx:b_ P base T 1 t.uZ t.BK ["self"] (aid t):=by
 exists T.RX.ok acu,9
 obtain ⟨p,row,ws,pl,rfl,⟨aD,au,aV,aw,az⟩,hle,q⟩:=h;refine ⟨_,(aM (c9 (cU fw (c1 (U 0) rfl) (g7 jU rfl T.iI iF (ae (c1 (U 0) rfl) aA)) (lc _)) (a3 (bX cx)) dd)
   (a3 (bX (cD gI (c1 (U 0) rfl) (c1 (U 0) rfl))))),?_⟩
 nofun;refine dh (decide ((pl:Int)=(ws.length:Int))) (fun Q a5=>?_) (fun c=>?_) (fun c=>?_)
 .nofun;refine ⟨_,H9 T aw,_,Gr T aw,_,rfl,_,.inl (aW.of az),rfl,?_⟩;rw [qb];nofun;exact a5
 .nofun;have dT:pl=ws.length:=by have:=of_decide_eq_true c;omega
  rw [show ws.getD pl (ag "")=ag "" by rw [jx,xV (by omega)];rfl] at q;exact q
 .nofun;have dT:pl < ws.length:=by have:=of_decide_eq_false c;omega
  have ak:ws[pl]? = some ws[pl]:=cJ dT;rw [jx,ak] at q;exact ⟨_,Gr T aw,_,H9 T aw,_,rfl,_,_,rfl,aW.of az,_,dw (Su ak),q⟩
theorem TG:b_ P base T 1 t.tK t.ad ["self"] (adB t):=by
 exists T.Oi.ok ael,9
 obtain ⟨p,row,ws,pl,rfl,⟨aD,au,aV,aw,az⟩,q⟩:=h;refine ⟨_,(a3 (bX (iH sh (c1 (U 0) rfl) (g7 jU rfl T.iI iF (ae (c1 (U 0) rfl) aA)) (lc _)))),?_⟩;nofun;have e:decide (pl < ws.length)=decide ((pl:Int) < (ws.length:Int)):=by rw [oE];simp
 rw [e] at q;refine ⟨_,H9 T aw,_,Gr T aw,_,rfl,_,.inl (aW.of az),?_⟩;rw [qb];exact ⟨_,rfl,q⟩
theorem wk:b_ P base T 1 t.sS t.CO Ad (Vt t):=by
 exists T.lm.ok afi,9
 obtain ⟨p,row,ws,pl,rfl,⟨aD,au,aV,aw,az⟩,q⟩:=h;refine ⟨_,(aM (c9 (tT (mK (U 1))) (a3 iJ) dd)
   (a3 (abu (U 0) aR Vh))),?_⟩
 nofun;refine dh false (fun Q a5=>?_) (fun ar=>nomatch ar) (fun _=>?_)
 .nofun;exact a5
 .nofun;refine ⟨_,_,_,aw,T.eH,T.Hw,_,lz oG 2 (w6 ..) (by ac_nf) rfl,_,rfl,_,_,aw,by rw [<- bb (f:=(·.1)),w6];decide,?_⟩;rw [adL];exact q _ c3.put (fun n=>n.upd) ⟨aD,au,aV,aS,by rw [aX (fb az aw (by intro z;cases z))];exact az⟩
theorem DV:b_ P base T 2 t.rp t.wA BD (Mv K t):=by
 refine cF (sx T) fun mA=>cF (wk T) fun oq=>?_;exists T.PQ.ok Ob,9
 obtain ⟨p,row,ws,pl,x,c,xs,rfl,R,ak,ar,hm,q⟩:=h;refine ⟨_,(aM (bL (i:=2) Ob.aC (mM (U 0) T.eH T.uv mA av T.tQ .nil cT))
   (aM (fO (e3 (U 0) T.eH T.xB oq av T.vq .nil cT (ae (iH nO (U 2) (U 1) (by with_unfolding_all rfl)) aA)))
   (a3 (bX (U 2))))),?_⟩
 have cH:pl < ws.length:=(cV.mp ak).1;have bj:ws.getD pl (ag "")=x:=by rw [jx,ak];rfl
 obtain ⟨_,au,aV,aw,az⟩:=id R;nofun;refine ⟨_,_,aw,cp.no _ _ _ (by ac_nf),⟨p,row,ws,pl,rfl,R,by omega,?_⟩⟩;rw [bj];nofun;refine ⟨_,_,aw,cp.no _ _ _ (by ac_nf),_,.inl ar,rfl,xI xs,?_⟩;rw [sT,decide_eq_true hm];refine ⟨p,row,ws,pl,rfl,R,fun I s1 s2 s3=>?_⟩;nofun;exact q I s1 s2 s3
theorem ym:b_ P base T 4 t.uC t.zA Gw (aaU t):=by
 refine cF (sx T) fun mA=>cF (wk T) fun oq=>cF (ajp T) fun Yv=>?_;exists T.Rf.ok TX,9
 obtain ⟨p,row,ws,pl,x,lo,aj,v,rfl,R,ak,aU,bc,q⟩:=h;refine ⟨_,(aM (bL (i:=3) TX.aC (bK Yv av T.Z6 T.Hz.bh T.YP (ae (mM (U 0) T.eH T.uv mA av T.tQ .nil cT) (ae (U 1) (ae (U 2) aA)))))
   (aM (fO (e3 (U 0) T.eH T.xB oq av T.vq .nil cT (ae (iH Gd (U 3) jB (lc _)) aA)))
   (a3 (bX (U 3))))),?_⟩
 have cH:pl < ws.length:=(cV.mp ak).1;have bj:ws.getD pl (ag "")=x:=by rw [jx,ak];rfl
 obtain ⟨aD,au,aV,aw,az⟩:=id R;nofun;refine ⟨_,_,aw,cp.no _ _ _ (by ac_nf),⟨p,row,ws,pl,rfl,R,by omega,?_⟩⟩;rw [bj];nofun;refine ⟨x,lo,aj,rfl,aD.2 x (d4 ak),bc,?_⟩;rw [aU];nofun;refine ⟨_,_,aw,cp.no _ _ _ (by ac_nf),?_⟩;refine ⟨p,row,ws,pl,rfl,R,fun I s1 s2 s3=>?_⟩;nofun;exact q I s1 s2 s3
theorem Ih:b_ P base T 2 t.q3 t.x1 ["self"] (Mq t):=by
 refine cF (TG T) fun FP=>?_;exists T.TU.ok aeY,9
 obtain ⟨p,row,ws,pl,rfl,R,ax,q⟩:=h;obtain ⟨aD,au,aV,aw,az⟩:=id R;refine ⟨_,(a3 (c9 (mK (mM (U 0) T.eH T.Lj FP av T.Ti .nil cT)) (a3 iJ) dd)),?_⟩;nofun;refine dh false (fun Q a5=>?_) (fun ar=>nomatch ar) (fun _=>?_)
 .nofun;refine ⟨_,_,aw,cp.no _ _ _ (by ac_nf),⟨p,row,ws,pl,rfl,R,?_⟩⟩;rw [decide_eq_false (by omega)];exact ⟨_,rfl,a5⟩
 .nofun;exact q
theorem eU {α β:Type} {f:α->β} {l:List α} {i:Nat} {y:β} (h:(l.map f)[i]? = some y):∃ x,l[i]? = some x/\y=f x:=by
 rw [ec] at h;cases e:l[i]? with
 | none=>rw [e] at h;cases h
 | some x=>rw [e] at h;exact ⟨x,rfl,(dj h).symm⟩
def YD (t:bJ) (ob H:aq) (p:Addr) (rows:List (List Str)):Prop:=∃ qs:List Addr,H p=some (.lst (qs.map V.ref))/\ob p=none/\qs.length=rows.length/\∀ (i:Nat) (q:Addr) (r:List Str),qs[i]? = some q->rows[i]? = some r->cp t H q i r 0/\ob q=none
def Oo (t:bJ):bI:=fun vs H Q _=>∃ x,vs=[.str x]/\x.length <= 20000/\(∀ r ∈ i3 x,r.length <= 1000/\∀ y ∈ r,y.length <= 1000)/\aY H/\∀ p I,aN H I->aY I->YD t H I p (i3 x)->Q (.ref p) I
theorem aiS:b_ P base T 3 t.dl t.x7 ["text"] (Oo t):=by
 have Kl:bt P w K ah base b7 2 t.rU t.ui ["text"] Dw:=(Qw T).mono (by decide);have Ir:bt P w K ah base b7 1 t.bd t.sl uA (I4 t):=XL T;exists T.Kw.ok X7,9
 obtain ⟨x,rfl,aD,qh,bc,q⟩:=h;refine ⟨_,(a3 (bX (iG rfl (rn rfl T.o8 (ae (bK Kl av T.Rz T.zb.bh T.OV (ae (U 0) aA)) aA)) (gx (sc:=bG y5) rfl (by ac_nf)) (N:=["row","told"]) (sel:=[none,none]) (gs (M:=["text"]) (by ac_nf)) (fD.of (fun _ _ _ _=>(fZ (K:=K) (n:=2) rfl rfl (c0 (b6 (i:=0) (eT (N:=["row","told"]) (by ac_nf) rfl)) (c0 (b6 (i:=1) (eT (N:=["row","told"]) (by ac_nf) rfl)) f')))) (fun _ _ _ _=>⟨_,iz,by walk_at "B"⟩) (fun _ _ _ _=>⟨_,(p' T.Uy Ir av rfl T.Sz T.S9 .nil cT (ae (U 0) (ae (U 1) aA))),by walk_at "B"⟩))))),?_⟩;nofun;refine ⟨x,rfl,aD,bc,fun p H1 n1 oa ⟨ps,ao,z9,DB,eE,n5⟩=>?_⟩;nofun;refine ⟨⟨_,aW.of ao⟩,?_⟩;have hlen:ps.length <= sizeLine:=by
  rw [eE];unfold i3;rw [bb];have:=D_ (x:=x) (y:=nl) (by rw [nY];exact bu _);exact b8 (show _ <= 40000 by omega) (by decide)
 refine cY.enum (xs:=ps.map V.ref) (fun i ys ay=>aN H1 ay/\aY ay/\∃ qs:List Addr,ys=qs.map V.ref/\qs.length=i/\∀ (j:Nat) (q:Addr) (r:List Str),qs[j]? = some q->(i3 x)[j]? = some r->cp t ay q j r 0/\H1 q=none)
  (by rw [bb];exact hlen) ⟨aN.refl H1,oa,[],rfl,rfl,fun j q r h _=>by simp at h⟩ ?_ ?_ ?_
 .rintro i ys ay aj bU;ac_rfl
  obtain ⟨s2,bQ,qs,rfl,aB,_⟩:=bU;subst bM;exact ⟨aW.of (s2 _ _ ao),by rw [bb];omega⟩
 .rintro i v ys ay dM aU ⟨s2,bQ,qs,rfl,aB,al⟩ c5 N bx;rw [ec] at aU;cases oo:ps[i]? with
  | none=>rw [oo] at aU;cases aU
  | some pi=>
   rw [oo] at aU;have e:=(dj aU).symm;subst e;refine si ?_;nofun;refine ⟨Sub.r2,fun a au aO hd cf=>?_⟩;refine ⟨a,au,pi,i,rfl,aS,rfl,?_⟩;rw [nk];have s3:aN ay (upd (upd (upd ay dM (.tup [.int i,.ref pi])) au (.own a)) a (.ins t.dZ au (kH i pi 0))):=by
    have s':aN ay (upd ay dM (.tup [.int i,.ref pi])):=a0 c5;exact ((aN.trans s' (a0 hd)).hM (s'.free aO))
   obtain ⟨r,av⟩:∃ r,(i3 x)[i]? = some r:=⟨(i3 x)[i]'(by rw [<- eE];exact (cV.mp oo).1),cJ _⟩;have WI:ay a=none:=(a0 c5).free aO;refine bx _ _ ⟨s2.trans s3,((bQ.upd).upd).upd,qs ++ [a],by rw [eD];rfl,by rw [dq,aB];rfl,fun j cS d1 af ai=>?_⟩;by_cases bf:j < qs.length
   .rw [kq bf] at af;obtain ⟨d_,d5⟩:=al j cS d1 af ai;exact ⟨d_.same s3,d5⟩
   .rw [kd (by omega)] at af;have qc:j - qs.length=0:=by
     cases cQ:j - qs.length with
     | zero=>rfl
     | succ n=>rw [cQ] at af;simp at af
    rw [qc] at af;have bW:a=cS:=by simpa using af
    subst bW;have fu:j=i:=by omega
    subst fu;rw [av] at ai;cases ai;refine ⟨⟨qh r (d4 av),au,pi,aS,?_⟩,s2.free WI⟩;exact s3 _ _ (s2 _ _ (n5 j pi r oo av).1)
 .rintro ys ay ⟨s2,bQ,qs,rfl,aB,al⟩ dM c5;refine q dM _ ((n1.trans s2).hM ((n1.trans s2).free c5)) (bQ.upd) ⟨qs,aS,(n1.trans s2).free c5,by rw [aB,bb,eE],fun i cS r af ai=>?_⟩;obtain ⟨d_,d5⟩:=al i cS r af ai;exact ⟨d_.same (a0 c5),n1.free d5⟩
def ahu (q:Addr) (H:aq) (R:aq->Prop):Prop:=∀ I,c3 q H I->aY I->R I
def RW (t:bJ):bI:=fun vs H Q _=>∃ q row n,vs=[.ref q]/\cp t H q row [ag "ring",num n] 0/\(2 <= n/\n <= 99)/\aY H/\ahu q H (Q (.int n))
def l8 (t:bJ) (H:aq) (wl:Addr) (ds:List a8):Prop:=∃ as:List Addr,H wl=some (.lst (as.map V.ref))/\as.length=ds.length/\∀ (i:Nat) (a:Addr) (d:a8),as[i]? = some a->ds[i]? = some d->eo t H a d
def Vj (t:bJ):bI:=fun vs H Q _=>∃ q row ws pl wl ds x,vs=[.ref q,.ref wl]/\cp t H q row ws pl/\ws[pl]? = some x/\made x gn 8=true/\l8 t H wl ds/\ds.length <= 12/\(∀ d ∈ ds,d.name ≠ x)/\aY H /\
 ∀ I,c3 q H I->aY I->cp t I q row ws (pl + 1)->Q (.str x) I
def Zu (t:bJ):bI:=fun vs H Q _=>∃ q row ws pl n st eZ,vs=[.ref q,.int n,.int st]/\cp t H q row ws pl/\ws[pl]? = some (num eZ)/\(0 <= st/\st < n)/\(0 <= eZ/\eZ < n)/\st ≠ eZ/\n <= 99/\aY H /\
 ∀ I,c3 q H I->aY I->cp t I q row ws (pl + 1)->Q (.int eZ) I
def adj (t:bJ):bI:=fun vs H Q _=>∃ d:a8,vs=[.str (d9 d.k),.str d.name,.int d.start,.int d.fin,.int d.off,.int d.near,.int d.least]/\d.k < 3/\∀ x I,aN H I->(aY H->aY I)->eo t I x d->H x=none->Q (.ref x) I
def S2 (t:bJ):bI:=fun vs H Q _=>∃ q row n wl ds d,vs=[.ref q,.int n,.ref wl]/\cp t H q row (ol d) 0/\lE n d/\(2 <= n/\n <= 99)/\l8 t H wl ds/\ds.length <= 12/\(∀ e ∈ ds,e.name ≠ d.name)/\aY H /\
 ∀ x I,c3 q H I->aY I->eo t I x d->H x=none->Q (.ref x) I
theorem l8.B0 {t:bJ} {H I:aq} {q wl:Addr} {ds:List a8} {row:Int} {ws:List Str} {pl:Nat} (h:l8 t H wl ds) (s:c3 q H I) (r:cp t H q row ws pl):l8 t I wl ds:=by
 obtain ⟨as,aw,az,al⟩:=h;obtain ⟨aD,au,aV,bW,fu⟩:=r;refine ⟨as,s _ _ (fb aw bW (by intro z;cases z)) aw,az,fun i a d af ai=>?_⟩;obtain ⟨aJ,hG,lC⟩:=al i a d af ai;refine ⟨aJ,hG,s _ _ (fun z=>?_) lC⟩;subst z;rw [lC] at bW;have iY:=dj bW;injection iY with _ _ Iy;have amI:(7:Nat)=3:=congrArg mP Iy;omega
theorem l8.same {t:bJ} {H I:aq} {wl:Addr} {ds:List a8} (h:l8 t H wl ds) (s:aN H I):l8 t I wl ds:=by
 obtain ⟨as,aw,az,al⟩:=h;exact ⟨as,s _ _ aw,az,fun i a d af ai=>(al i a d af ai).same s⟩
theorem ad7:b_ P base T 5 t.Ch t.wN ["reader"] (RW t):=by
 refine cF (DV T) fun w'=>cF (ym T) fun lU=>cF (Ih T) fun yh=>?_;exists T.JK.ok OT,9
 obtain ⟨q,row,n,rfl,R,aH,bc,oD⟩:=h;refine ⟨_,(aM (fO (e3 (U 0) T.eH T.Ip w' av T.GP .nil cT (ae (gO (ae cx aA)) aA)))
   (aM (bL (i:=1) OT.aC (e3 (U 0) T.eH T.pY lU av T.Gc .nil cT (ae (jy rfl T.ad5 T.agn) (ae (jy rfl T.ahb T.ah4) aA))))
   (aM (fO (mM (U 0) T.eH T.Dr yh av T.Fm .nil cT))
   (a3 (bX (U 1)))))),?_⟩
 obtain ⟨_,au,aV,aw,az⟩:=id R;nofun;refine ⟨_,_,aw,cp.no _ _ _ (by ac_nf),by decide,fun p ao=>?_⟩;have s0:aN H (upd H p (.lst [V.str (ag "ring")])):=a0 ao;refine ⟨q,row,_,0,ag "ring",p,[ag "ring"],rfl,R.same s0,rfl,aW.of aS,by simp,fun H1 s1 bH kI=>?_⟩;obtain ⟨_,Xd,ago,f1,f2⟩:=id kI;nofun;refine ⟨_,_,f1,cp.no _ _ _ (by ac_nf),?_⟩;have oa:=bH bc.upd;refine ⟨q,row,_,1,num n,2,99,n,rfl,kI,rfl,pp (by omega) (by omega) aH.1 aH.2,oa,fun ay s2 bQ ez=>?_⟩;obtain ⟨_,OG,abb,g1,g2⟩:=id ez;nofun;refine ⟨_,_,g1,cp.no _ _ _ (by ac_nf),?_⟩;refine ⟨q,row,_,2,rfl,ez,rfl,?_⟩;nofun;exact oD ay (((c3.of s0).trans s1).trans s2) (bQ oa)
theorem aav:b_ P base T 3 t.Re t.zB Dl (Vj t):=by
 refine cF (sx T) fun mA=>cF (wk T) fun oq=>cF (FZ T) fun w0=>?_;exists T.I3.ok Sy,9
 obtain ⟨q,row,ws,pl,wl,ds,x,rfl,R,ak,hm,hh,ij,HD,bc,oD⟩:=h;refine ⟨_,(aM (bL (i:=2) Sy.aC (mM (U 0) T.eH T.uv mA av T.tQ .nil cT))
   (aM (fO (e3 (U 0) T.eH T.xB oq av T.vq .nil cT (ae (Hl (bK w0 av T.FF T.v3.bh T.I6 (ae (U 2) aA)) (rR (iH AU (U 2) (iG rfl (iP (U 1)) (gx (sc:=bG zU) rfl (by ac_nf)) (N:=["way"]) (sel:=[none]) (gs (M:=["reader","ways","name"]) (by ac_nf)) (fD.of (fun _ _ _ _=>(b6 (i:=0) (eT (N:=["way"]) (by ac_nf) rfl))) (fun _ _ _ _=>⟨_,iz,by walk_at "B"⟩) (fun _ _ _ _=>⟨_,(c1 (U 0) rfl),by walk_at "B"⟩))) (by with_unfolding_all rfl)))) aA)))
   (a3 (bX (U 2))))),?_⟩
 have cH:pl < ws.length:=(cV.mp ak).1;have bj:ws.getD pl (ag "")=x:=by rw [jx,ak];rfl
 obtain ⟨aD,au,aV,aw,az⟩:=id R;nofun;refine ⟨_,_,aw,cp.no _ _ _ (by ac_nf),⟨q,row,ws,pl,rfl,R,by omega,?_⟩⟩;rw [bj];nofun;refine ⟨_,_,aw,cp.no _ _ _ (by ac_nf),?_⟩;refine ⟨x,rfl,aD.2 x (d4 ak),bc,?_⟩;rw [hm];nofun;obtain ⟨as,cL,c_,al⟩:=hh;refine ⟨⟨_,aW.of cL⟩,?_⟩;have hle:(as.map V.ref).length <= sizeLine:=by rw [bb,c_];exact b8 ij (by decide)
 refine cY.As (xs:=as.map V.ref) (zs:=ds.map fun d=>V.str d.name) (aW.of cL) hle (by rw [bb,bb,c_]) (fun i v z N aU hA bx=>?_) (fun p ao=>?_)
 .obtain ⟨a,aO,rfl⟩:=eU aU;obtain ⟨d,hd,rfl⟩:=eU hA;nofun;exact ⟨Sub.name,_,(al i a d aO hd).PX T,bx⟩
 .nofun;have eu:(ds.map fun d=>V.str d.name)=cv (ds.map (·.name)):=by unfold cv;rw [jC];rfl
  rw [eu];refine ⟨_,.inl (aW.of aS),rfl,xI _,?_⟩;rw [sT,decide_eq_false (fun z=>by
   obtain ⟨d,hd,e⟩:=da.mp z;exact HD d hd e)]
  have s0:aN H (upd H p (.lst (cv (ds.map (·.name))))):=a0 ao;exact ⟨q,row,ws,pl,rfl,R.same s0,fun I s1 bH kI=>oD I ((c3.of s0).trans s1) (bH bc.upd) kI⟩
theorem ag9:b_ P base T 5 t.w8 t.A' CW (Zu t):=by
 refine cF (sx T) fun mA=>cF (ym T) fun lU=>?_;exists T.Dt.ok ai_,9
 obtain ⟨q,row,ws,pl,n,st,eZ,rfl,R,ak,fE,Qd,cf,aH,bc,oD⟩:=h;refine ⟨_,(aM (c9 (cU fw (mM (U 0) T.eH T.uv mA av T.tQ .nil cT) (k2 Uf rfl T.ru rh (ae (U 2) aA)) (lc _)) (a3 iJ) dd)
   (a3 (bX (e3 (U 0) T.eH T.pY lU av T.Gc .nil cT (ae aR (ae (bS oH (U 1) aR) aA)))))),?_⟩
 have cH:pl < ws.length:=(cV.mp ak).1;have bj:ws.getD pl (ag "")=num eZ:=by rw [jx,ak];rfl
 obtain ⟨aD,au,aV,aw,az⟩:=id R;nofun;refine dh false (fun Q a5=>?_) (fun ar=>nomatch ar) (fun _=>?_)
 .nofun;refine ⟨_,_,aw,cp.no _ _ _ (by ac_nf),⟨q,row,ws,pl,rfl,R,by omega,?_⟩⟩;rw [bj];nofun;refine ⟨lv (by omega),?_⟩;rw [decide_eq_false (fun z=>cf (aht (by omega) (by omega) (by omega) (by omega) z).symm)];exact a5
 .nofun;refine ⟨_,_,aw,cp.no _ _ _ (by ac_nf),⟨q,row,ws,pl,num eZ,0,n - 1,eZ,rfl,R,ak,pp (by omega) (by omega) (by omega) (by omega),bc,fun H1 s1 bH kI=>?_⟩⟩;exact oD H1 s1 (bH bc) kI
theorem EQ {t:bJ} {H:aq} {x au:Addr} {d:a8} (ak:H x=none) (hd:H au=none) (aJ:d.k < 3) :
  aN H (upd (upd (upd H au (.own x)) x (.ins (t.fV d.k) au [])) x (.ins (t.fV d.k) au (nd d)))/\(aY H->aY (upd (upd (upd H au (.own x)) x (.ins (t.fV d.k) au [])) x (.ins (t.fV d.k) au (nd d)))) /\
   eo t (upd (upd (upd H au (.own x)) x (.ins (t.fV d.k) au [])) x (.ins (t.fV d.k) au (nd d))) x d:=
 ⟨(((aN.refl H).hM hd).hM ak).hM ak,fun n=>((n.upd).upd).upd,aJ,au,aS⟩
theorem aiZ:b_ P base T 4 t.xr t.yY zm (adj t):=by
 have X4:bt P w K ah base b7 2 t.qW t.xp jS (tG t 0):=ai8 T;have aih:bt P w K ah base b7 2 t.r' t.xy jS (tG t 1):=YE T;have ah_:bt P w K ah base b7 2 t.ry t.xn jS (tG t 2):=aj8 T;exists T.DZ.ok WL,9
 obtain ⟨d,rfl,aJ,q⟩:=h;refine ⟨_,(aM (c9 (cU fw (U 0) cx (lc _)) (a3 (bX (p' T.agR X4 av rfl T.abr T.YJ .nil cT (ae (U 1) (ae (U 2) (ae (U 3) (ae (U 4) (ae (U 5) (ae (U 6) aA))))))))) dd)
   (aM (c9 (cU fw (U 0) cx (lc _)) (a3 (bX (p' T.Zq aih av rfl T.aiq T.Vd .nil cT (ae (U 1) (ae (U 2) (ae (U 3) (ae (U 4) (ae (U 5) (ae (U 6) aA))))))))) dd)
   (a3 (bX (p' T.akq ah_ av rfl T.agE T.af' .nil cT (ae (U 1) (ae (U 2) (ae (U 3) (ae (U 4) (ae (U 5) (ae (U 6) aA))))))))))),?_⟩
 have fin:∀ (x au:Addr),H x=none->H au=none->Q (.ref x) (upd (upd (upd H au (.own x)) x (.ins (t.fV d.k) au [])) x (.ins (t.fV d.k) au (nd d))):=fun x au ak hd=>by
  obtain ⟨qA,tp,Eu⟩:=EQ (t:=t) (d:=d) ak hd aJ;exact q x _ qA tp Eu ak
 obtain ⟨k,name,start,eZ,off,near,least⟩:=d
 match k,aJ with
 | 0,_=>
  (nofun; repeat (dsimp only [d9];nofun));refine dh true (fun Q a5=>?_) (fun _=>?_) (fun ar=>nomatch ar)
  .nofun;exact a5
  .nofun;exact fun x au ak hd cf=>⟨x,au,⟨0,name,start,eZ,off,near,least⟩,rfl,rfl,aS,rfl,fin x au ak hd⟩
 | 1,_=>
  (nofun; repeat (dsimp only [d9];nofun));refine dh false (fun Q a5=>?_) (fun ar=>nomatch ar) (fun _=>?_)
  .nofun;rw [decide_eq_false (by ac_nf)];exact a5
  .nofun;refine dh true (fun Q a5=>?_) (fun _=>?_) (fun ar=>nomatch ar)
   .nofun;exact a5
   .nofun;exact fun x au ak hd cf=>⟨x,au,⟨1,name,start,eZ,off,near,least⟩,rfl,rfl,aS,rfl,fin x au ak hd⟩
 | 2,_=>
  (nofun; repeat (dsimp only [d9];nofun));refine dh false (fun Q a5=>?_) (fun ar=>nomatch ar) (fun _=>?_)
  .nofun;rw [decide_eq_false (by ac_nf)];exact a5
  .nofun;refine dh false (fun Q a5=>?_) (fun ar=>nomatch ar) (fun _=>?_)
   .nofun;rw [decide_eq_false (by ac_nf)];exact a5
   .nofun;exact fun x au ak hd cf=>⟨x,au,⟨2,name,start,eZ,off,near,least⟩,rfl,rfl,aS,rfl,fin x au ak hd⟩
theorem abS:b_ P base T 6 t.th t.vw Cj (S2 t):=by
 refine cF (DV T) fun w'=>cF (ym T) fun lU=>cF (Ih T) fun yh=>cF (aav T) fun Vc=>cF (ag9 T) fun air=>cF (aiZ T) fun agy=>?_;exists T.Gf.ok oV,9
 obtain ⟨q,row,n,wl,ds,d,rfl,R,hd,aH,hh,ij,HD,bc,oD⟩:=h;refine ⟨_,(aM (bL (i:=3) oV.aC (e3 (U 0) T.eH T.Ip w' av T.GP .nil cT (ae (gO (ae cx (ae cx (ae cx aA)))) aA)))
   (aM (bL (i:=4) oV.aC (bK Vc av T.Z2 T.I3.bh T.ajw (ae (U 0) (ae (U 2) aA))))
   (aM (bL (i:=5) oV.aC (e3 (U 0) T.eH T.pY lU av T.Gc .nil cT (ae aR (ae (bS oH (U 1) aR) aA))))
   (aM (bL (i:=6) oV.aC (bK air av T.acy T.Dt.bh T.ae3 (ae (U 0) (ae (U 1) (ae (U 5) aA)))))
   (aM (bL (i:=7) oV.aC (e3 (U 0) T.eH T.pY lU av T.Gc .nil cT (ae aR (ae (jy rfl T.ae' T.Z9) aA))))
   (aM (bL (i:=8) oV.aC (e3 (U 0) T.eH T.pY lU av T.Gc .nil cT (ae aR (ae (jy rfl T.adq T.ajQ) aA))))
   (aM (bL (i:=9) oV.aC (e3 (U 0) T.eH T.pY lU av T.Gc .nil cT (ae aR (ae (jy rfl T.XA T.afM) aA))))
   (aM (fO (mM (U 0) T.eH T.Dr yh av T.Fm .nil cT))
   (a3 (bX (bK agy av T.Xg T.DZ.bh T.abH (ae (U 3) (ae (U 4) (ae (U 5) (ae (U 6) (ae (U 7) (ae (U 8) (ae (U 9) aA)))))))))))))))))),?_⟩
 have j0:=hd.st;have kl:=hd.eZ;have vv:=hd.of;have OB:=hd.jr;have ag0:=hd.le;obtain ⟨_,au,aV,aw,az⟩:=id R;nofun;refine ⟨_,_,aw,cp.no _ _ _ (by ac_nf),by decide,fun p ao=>?_⟩;have s0:aN H (upd H p (.lst [V.str (ag "car"),V.str (ag "foot"),V.str (ag "tram")])):=a0 ao;have r5:d9 d.k ∈ [ag "car",ag "foot",ag "tram"]:=by
  have:=hd.k
  match d.k,this with
  | 0,_=>simp [d9]
  | 1,_=>simp [d9]
  | 2,_=>simp [d9]
 refine ⟨q,row,_,0,d9 d.k,p,[ag "car",ag "foot",ag "tram"],rfl,R.same s0,rfl,aW.of aS,r5,fun H1 s1 bH kI=>?_⟩;have Cm:c3 q H H1:=(c3.of s0).trans s1;have qA:=bH bc.upd;nofun;refine ⟨q,row,_,1,wl,ds,d.name,rfl,kI,rfl,hd.nm,hh.B0 Cm R,ij,HD,qA,fun ay s2 tp ez=>?_⟩;obtain ⟨_,OG,abb,f2,g2⟩:=id ez;have tY:=Cm.trans s2;nofun;refine ⟨_,_,f2,cp.no _ _ _ (by ac_nf),⟨q,row,_,2,num d.start,0,n - 1,d.start,rfl,ez,rfl,pp (by omega) (by omega) (by omega) (by omega),tp,fun bA s3 df l'=>?_⟩⟩;have Kc:=tY.trans s3;have Eu:=df tp;nofun;refine ⟨q,row,_,3,n,d.start,d.fin,rfl,l',rfl,j0,kl,hd.ne,aH.2,Eu,fun dH s4 Rd j2=>?_⟩;obtain ⟨_,amz,akS,f4,ke⟩:=id j2;have pk:=Kc.trans s4;nofun;refine ⟨_,_,f4,cp.no _ _ _ (by ac_nf),⟨q,row,_,4,num d.off,0,30,d.off,rfl,j2,rfl,pp (by omega) (by omega) (by omega) (by omega),Rd,fun fY s5 gc oT=>?_⟩⟩;obtain ⟨_,aiM,akb,el,TK⟩:=id oT;have pD:=pk.trans s5;have Q6:=gc Rd;nofun;refine ⟨_,_,el,cp.no _ _ _ (by ac_nf),⟨q,row,_,5,num d.near,0,30,d.near,rfl,oT,rfl,pp (by omega) (by omega) (by omega) (by omega),Q6,fun la e5 j_ QV=>?_⟩⟩;obtain ⟨_,amF,amy,vh,KW⟩:=id QV;have kP:=pD.trans e5;have RO:=j_ Q6;nofun;refine ⟨_,_,vh,cp.no _ _ _ (by ac_nf),⟨q,row,_,6,num d.least,1,60,d.least,rfl,QV,rfl,pp (by omega) (by omega) (by omega) (by omega),RO,fun hb hD m1 O6=>?_⟩⟩;obtain ⟨_,amh,amV,qw,alQ⟩:=id O6;have iX:=kP.trans hD;have ajX:=m1 RO;nofun;refine ⟨_,_,qw,cp.no _ _ _ (by ac_nf),⟨q,row,_,7,rfl,O6,rfl,?_⟩⟩;nofun;refine ⟨d,rfl,hd.k,fun x dI fK adC DN y9=>?_⟩;refine oD x dI (iX.trans (c3.of fK)) (adC ajX) DN ?_;cases h3:H x with
 | none=>rfl
 | some u=>
  by_cases RG:x=q
  .subst RG;rw [qw] at y9;cases y9
  .rw [iX x u RG h3] at y9;cases y9
noncomputable abbrev wE:List Str:=[ag "places",ag "ways",ag "numbers"]
noncomputable def nU (n:Int) (wl aC:Addr):List (Str × V):=[(ag "places",.int n),(ag "ways",.ref wl),(ag "numbers",.ref aC)]
theorem Al (n:Int) (wl aC:Addr):(nU n wl aC).map (·.1)=wE:=rfl
noncomputable def nm (ds:List a8) (i:Nat):Str:=((ds[i]?).map (·.name)).getD (ag "")
noncomputable def jd (ds:List a8) (i:Nat):List (Key × V):=(dW i).map fun j=>(g9 (nm ds j),V.int j)
theorem qr {ds:List a8} {i:Nat} {d:a8} (h:ds[i]? = some d):nm ds i=d.name:=by unfold nm;rw [h];rfl
theorem JI {ds:List a8} (h:(ds.map (·.name)).Nodup) {i j:Nat} (aj:i < ds.length) (bf:j < ds.length) (e:nm ds i=nm ds j):i=j:=by
 rw [qr (cJ aj),qr (cJ bf)] at e;have:=(ZG (xs:=ds.map (·.name)) (i:=i) (j:=j) (h₀:=by rw [bb];exact aj) (h₁:=by rw [bb];exact bf) h).mp (by rw [sW,sW];exact e);exact this
theorem Lv {ds:List a8} (h:(ds.map (·.name)).Nodup) {i:Nat}:∀ {n:Nat},i < n->n <= ds.length->dg (jd ds n) (g9 (nm ds i))=some (.int i):=by
 intro n
 induction n with
 | zero=>intro aj _;omega
 | succ n a_=>
  intro aj aH;unfold jd dg;rw [oy,eD,List.find?_append];by_cases c:i < n
  .have:=a_ c (by omega);unfold jd dg at this;cases e:afh (fun dF=>decide (dF.fst=g9 (nm ds i))) (nf (fun j=>((g9 (nm ds j):Key),V.int j)) (dW n)) with
   | none=>rw [e] at this;cases this
   | some p=>rw [e] at this;exact this
  .have e:i=n:=by omega
   subst e;have no:afh (fun dF=>decide (dF.fst=g9 (nm ds i))) (nf (fun j=>((g9 (nm ds j):Key),V.int j)) (dW i))=none:=by
    rw [akd];intro p ao;obtain ⟨j,bf,rfl⟩:=da.mp ao;have rJ:=hZ.mp bf;simp only [decide_eq_true_eq];intro z;have:=JI h (by omega) (by omega) (AI z);omega
   rw [no];simp
theorem Zk {ds:List a8} {x:Str} (h:∀ d ∈ ds,d.name ≠ x):∀ {n:Nat},n <= ds.length->dg (jd ds n) (g9 x)=none:=by
 intro n aH;unfold dg jd;rw [akd.mpr]
 .rfl
 intro p ao;obtain ⟨j,bf,rfl⟩:=da.mp ao;have rJ:=hZ.mp bf;simp only [decide_eq_true_eq];intro z;have PF:j < ds.length:=by omega
 have e:=AI z;rw [qr (cJ PF)] at e;exact h _ (zp PF) e
theorem U0 {ds:List a8} (h:(ds.map (·.name)).Nodup) {n:Nat} (aH:n < ds.length):fs (jd ds n) (g9 (nm ds n)) (.int n)=jd ds (n + 1):=by
 unfold fs;have no:((jd ds n).any fun dF=>decide (dF.1=g9 (nm ds n)))=false:=by
  rw [UY];intro p ao;obtain ⟨j,bf,rfl⟩:=da.mp ao;have rJ:=hZ.mp bf;simp only [decide_eq_true_eq];intro z;have:=JI h (by omega) aH (AI z);omega
 rw [no];unfold jd;rw [oy,eD];rfl
theorem GR {H H1 ay:aq} {q:Addr} (a:aN H H1) (b:c3 q H1 ay) (n:H q=none):aN H ay:=fun c u e=>b c u (Db e n) (a c u e)
theorem O1 {t:bJ} {H:aq} {p q:Addr} {i j:Int} {ws vs:List Str} {k l:Nat} (a:cp t H p i ws k) (b:cp t H q j vs l) (n:i ≠ j):p ≠ q:=fun z=>by
 subst z;obtain ⟨_,au,aV,aw,_⟩:=a;obtain ⟨_,hG,ajU,az,_⟩:=b;rw [aw] at az;have bW:=dj az;injection bW with _ _ fu;unfold kH at fu;injection fu with lC _;injection lC with _ iY;injection iY with p0;exact n p0
theorem ade {t:bJ} {H:aq} {p q:Addr} {d:a8} {j:Int} {vs:List Str} {l:Nat} (a:eo t H p d) (b:cp t H q j vs l):p ≠ q:=fun z=>by
 subst z;obtain ⟨_,au,aw⟩:=a;obtain ⟨_,hG,ajU,az,_⟩:=b;rw [aw] at az;have bW:=dj az;injection bW with _ _ fu;exact absurd (congrArg mP fu) (by show ¬ (7:Nat)=3;decide)
def ff (t:bJ) (H:aq) (c:Addr) (n:Int) (ds:List a8):Prop:=
 ((ds.map (·.name)).Nodup/\ds.length <= 12)/\∃ au wl aC,H c=some (.ins t.fo au (nU n wl aC))/\l8 t H wl ds/\H aC=some (.dN (jd ds ds.length))
theorem ff.same {t:bJ} {H I:aq} {c:Addr} {n:Int} {ds:List a8} (h:ff t H c n ds) (s:aN H I):ff t I c n ds:=by
 obtain ⟨h0,au,wl,aC,aw,az,bW⟩:=h;exact ⟨h0,au,wl,aC,s _ _ aw,az.same s,s _ _ bW⟩
theorem pw {m:Str} (n:Int) (wl aC:Addr) (h:wE.contains m=false):(nU n wl aC).lookup m=none:=l4 wE (Al ..) h
section
variable {w:World} {K:a4} {ah:Str->Option Value} {t:bJ} {H:aq} {c au wl aC:Addr} {n:Int}
theorem ag6 (T:Txt w K ah t) (e:H c=some (.ins t.fo au (nU n wl aC))):io K H c (ag "places") (.int n):=⟨_,au,_,e,T.jW,T.TA,lz wE 0 (Al ..) (by ac_nf) rfl⟩
theorem Ml (T:Txt w K ah t) (e:H c=some (.ins t.fo au (nU n wl aC))):io K H c (ag "ways") (.ref wl):=⟨_,au,_,e,T.jW,T.Qm,lz wE 1 (Al ..) (by ac_nf) rfl⟩
theorem uh (T:Txt w K ah t) (e:H c=some (.ins t.fo au (nU n wl aC))):io K H c (ag "numbers") (.ref aC):=⟨_,au,_,e,T.jW,T.Pu,lz wE 2 (Al ..) (by ac_nf) rfl⟩
end
def MF (t:bJ):bI:=fun vs H Q _=>∃ c au n wl ds,vs=[.ref c,.int n,.ref wl]/\H c=some (.ins t.fo au [])/\l8 t H wl ds/\(ds.map (·.name)).Nodup/\ds.length <= 12/\aY H /\
 ∀ I,c3 c H I->aY I->ff t I c n ds->Q .bT I
def abz (t:bJ):bI:=fun vs H Q _=>∃ n ds,vs=[.str (f5 n ds)]/\mv n ds/\aY H/\∀ c I,aN H I->aY I->ff t I c n ds->Q (.ref c) I
def aae (t:bJ):bI:=fun vs H Q _=>∃ c n ds,∃ i:Nat,∃ d,vs=[.ref c,.str d.name]/\ff t H c n ds/\ds[i]? = some d/\Q (.int (i:Nat)) H
def adf (t:bJ):bI:=fun vs H Q _=>∃ c n ds,∃ i:Nat,∃ d,vs=[.ref c,.str d.name]/\ff t H c n ds/\ds[i]? = some d/\∀ a,eo t H a d->Q (.ref a) H
theorem agS:b_ P base T 1 t.qH t.vH AO (MF t):=by
 exists T.Uk.ok DS,9
 obtain ⟨c,au,n,wl,ds,rfl,ar,hh,m_,ij,bc,q⟩:=h;have ba:=gF av;refine ⟨_,(aM (g8 (U 0) (U 1) rfl)
   (aM (g8 (U 0) (U 2) rfl)
   (aM (g8 (U 0) CF rfl)
   (a3 (ho hl rfl (rn rfl T.o8 (ae (U 2) aA)) (fZ (K:=K) (n:=2) rfl rfl (c0 (b6 (i:=3) DS.aC) (c0 (b6 (i:=4) DS.aC) f'))) (a3 (S6 ba (c1 (U 0) rfl) (c1 (U 4) rfl) (U 3) rfl))))))),?_⟩
 nofun;refine ⟨_,_,_,ar,T.jW,T.TA,by decide,?_⟩;refine ⟨_,_,_,aS,T.jW,T.Qm,fG (n:=999) (by decide),fun aC aH=>?_⟩;simp only [nk] at aH ⊢;rw [show Tk (ag "places") (V.int n) ([]:List (Str × V))=[(ag "places",V.int n)] from rfl,show Tk (ag "ways") (V.ref wl) [(ag "places",V.int n)]=[(ag "places",V.int n),(ag "ways",V.ref wl)] from iC [ag "places"] rfl (by ac_nf)] at aH ⊢;have zN:c ≠ aC:=fun z=>by subst z;rw [aS] at aH;cases aH
 refine ⟨t.fo,au,[(ag "places",V.int n),(ag "ways",V.ref wl)],by rw [aX zN];exact aS,T.jW,T.Pu,show (2:Nat) < 1000 by decide,?_⟩;rw [show Tk (ag "numbers") (V.ref aC) [(ag "places",V.int n),(ag "ways",V.ref wl)]=nU n wl aC from iC [ag "places",ag "ways"] rfl (by ac_nf)];obtain ⟨as,cL,c_,al⟩:=hh;have Qj:H aC=none:=by rw [aX (c7 zN)] at aH;exact aH
 have gi:c3 c H (upd (upd (upd H c (.ins t.fo au [(ag "places",V.int n),(ag "ways",V.ref wl)])) aC (.dN [])) c (.ins t.fo au (nU n wl aC))):=fun b u ab e=>by
  rw [aX ab,aX (Db e Qj),aX ab];exact e
 have G8:wl ≠ c:=fb cL ar (by intro z;cases z);refine ⟨⟨_,aW.of (gi _ _ G8 cL)⟩,?_⟩;refine ap.enum (xs:=as.map V.ref) (fun i σ I=>(∃ x y,σ=[some (V.ref c),some (V.int n),some (V.ref wl),x,y])/\I c=some (.ins t.fo au (nU n wl aC))/\I aC=some (.dN (jd ds i))/\c3 c H I/\aY I) ?_ ?_ ?_ ?_
 .exact ⟨⟨_,_,rfl⟩,aS,by rw [aX (c7 zN),aS];rfl,gi,((bc.upd).upd).upd⟩
 .rintro i σ I aj bU;ac_rfl
  obtain ⟨_,_,_,pZ,_⟩:=bU;subst bM;exact aW.of (pZ _ _ G8 cL)
 .rintro i v σ I p aU ⟨⟨x,y,rfl⟩,af,ai,pZ,qP⟩ ao;obtain ⟨a,aO,rfl⟩:=eU aU;obtain ⟨aj,_⟩:=cV.mp aO;have lJ:i < ds.length:=by omega
  have hd:ds[i]? = some ds[i]:=cJ lJ;have gY:eo t H a ds[i]:=al i a _ aO hd;have KP:a ≠ c:=by
   obtain ⟨_,hG,e⟩:=gY;intro z;subst z;rw [ar] at e;have az:=dj e;injection az with _ _ bW;exact absurd (congrArg mP bW) (by show ¬ (0:Nat)=7;decide)
  have aa':eo t I a ds[i]:=⟨gY.1,gY.2.imp fun hG e=>pZ _ _ KP e⟩;have sp:aN I (upd I p (.tup [.int i,.ref a])):=a0 ao;refine si ?_;nofun;refine ⟨_,uh T (sp _ _ af),_,(aa'.same sp).PX T,_,rfl,_,n0.k (k:=g9 ds[i].name) (sp _ _ ai) (jV (show (jd ds i).length <= 12 by unfold jd;rw [bb,kS];omega) (by decide)),?_⟩;rw [<- qr hd,U0 m_ lJ];refine ⟨⟨_,rfl⟩,?_,aS,fun b u ab e=>?_,(qP.upd).upd⟩
  .rw [aX zN];exact sp _ _ af
  .rw [aX (Db e Qj)];exact sp _ _ (pZ b u ab e)
 .rintro σ I bU;ac_rfl
  obtain ⟨⟨x,y,rfl⟩,af,ai,pZ,qP⟩:=bU;subst bM;nofun;rw [bb,c_] at ai;refine q I pZ qP ⟨⟨m_,ij⟩,au,wl,aC,af,⟨as,pZ _ _ G8 cL,c_,fun i a d br cm=>?_⟩,ai⟩;have gY:=al i a d br cm;have KP:a ≠ c:=by
   obtain ⟨_,hG,e⟩:=gY;intro z;subst z;rw [ar] at e;have az:=dj e;injection az with _ _ bW;exact absurd (congrArg mP bW) (by show ¬ (0:Nat)=7;decide)
  exact ⟨gY.1,gY.2.imp fun hG e=>pZ _ _ KP e⟩
theorem ahg:b_ P base T 1 t.qf t.uy i1 (aae t):=by
 exists T.GJ.ok PE,9
 obtain ⟨c,n,ds,i,d,rfl,⟨⟨m_,ij⟩,au,wl,aC,aw,az,bW⟩,hd,q⟩:=h;have ba:=gF av;have aU:dg (jd ds ds.length) (g9 d.name)=some (.int i):=by
  rw [<- qr hd];exact Lv m_ (cV.mp hd).1 (bu _)
 have bj:iy H aC (.str d.name) (some (.int i)):=by rw [<- aU];exact iy.k (k:=g9 d.name) bW
 refine ⟨_,(aM (c9 (qV (Jj ba (U 1) (c1 (U 0) rfl))) (a3 iJ) dd)
   (a3 (bX (DL ba (c1 (U 0) rfl) (U 1) (fun _ _=>rfl))))),?_⟩
 nofun;refine dh false (fun Q a5=>?_) (fun ar=>nomatch ar) (fun _=>?_)
 .nofun;refine ⟨_,uh T aw,_,rfl,_,bj,?_⟩;exact a5
 .nofun;exact ⟨_,uh T aw,_,rfl,_,bj,q⟩
theorem Ji:b_ P base T 2 t.o5 t.uw i1 (adf t):=by
 refine cF (ahg T) fun aiK=>?_;exists T.Ec.ok T1,9
 obtain ⟨c,n,ds,i,d,rfl,C,hd,q⟩:=h;obtain ⟨⟨m_,ij⟩,au,wl,aC,aw,⟨as,cL,c_,al⟩,bW⟩:=id C;refine ⟨_,(a3 (bX (cD gI (c1 (U 0) rfl) (e3 (U 0) T.jW T.Cl aiK av T.Sv .nil cT (ae (U 1) aA))))),?_⟩;nofun;refine ⟨_,Ml T aw,_,_,aw,pw _ _ _ (by ac_nf),⟨c,n,ds,i,d,rfl,C,hd,?_⟩⟩;have aj:i < as.length:=by rw [c_];exact (cV.mp hd).1
 have aO:as[i]? = some as[i]:=cJ aj;nofun;refine ⟨_,aW.of cL,_,dw (show (as.map V.ref)[i]? = some (V.ref as[i]) by rw [ec,aO];rfl),?_⟩;exact q as[i] (al i _ d aO hd)
theorem aj2:b_ P base T 7 t.sf t.sI ["text"] (abz t):=by
 have ZU:bt P w K ah base b7 6 t.dl t.x7 ["text"] (Oo t):=(aiS T).mono (by decide);have U9:bt P w K ah base b7 6 t.Ch t.wN ["reader"] (RW t):=(ad7 T).mono (by decide);have Vl:bt P w K ah base b7 6 t.th t.vw Cj (S2 t):=abS T;have aem:bt P w K ah base b7 5 t.qH t.vH AO (MF t):=(agS T).mono (by decide);exists T.AL.ok wd,9
 obtain ⟨n,ds,rfl,cB,bc,oD⟩:=h;refine ⟨_,(aM (bL (i:=1) wd.aC (bK ZU av T.Yn T.Kw.bh T.aiJ (ae (U 0) aA)))
   (aM (bL (i:=2) wd.aC (bK U9 av T.W7 T.JK.bh T.acZ (ae (cD gI (U 1) aR) aA)))
   (aM (bL (i:=3) wd.aC (gO aA))
   (aM (ho hl rfl (iP (od vJ (U 1) (mX aR) pq)) (b6 (i:=4) wd.aC) (aM (c9 (cU fw (g7 jU rfl T.iI iF (ae (U 3) aA)) (jy rfl T.YF T.ahm) (lc _)) (a3 iJ) dd)
   (a3 (fO (iS m9 rX uH q2 (U 3) (ae (bK Vl av T.aaF T.Gf.bh T.ajz (ae (U 4) (ae (U 2) (ae (U 3) aA)))) aA))))))
   (aM (c9 (tT (TF (U 3) (fun _=>rfl))) (a3 iJ) dd)
   (a3 (bX (p' T.Z_ aem av rfl T.U1 T.afJ .nil cT (ae (U 2) (ae (U 3) aA)))))))))),?_⟩
 have qh:=abj cB;have hlen:=aah cB;have OJ:=cB.nn;have Xy:=cB.ln;nofun;refine ⟨f5 n ds,rfl,by omega,?_,bc,fun p H1 n1 oa R=>?_⟩
 .rw [qh];intro r av;refine ⟨?_,fun x ak=>b8 (cB.plain r av x ak).1 (by decide)⟩;rcases cX.mp av with rfl | av
  .show (2:Nat) <= 1000;decide
  .obtain ⟨d,hd,rfl⟩:=da.mp av;show (7:Nat) <= 1000;decide
 rw [qh] at R;obtain ⟨qs,ao,z9,vG,Mr⟩:=R;have NX:qs.length=ds.length + 1:=by rw [vG];simp [gu]
 obtain ⟨eW,gZ,rfl⟩:∃ eW gZ,qs=eW :: gZ:=by
  cases qs with
  | nil=>simp at NX
  | cons a b=>exact ⟨a,b,rfl⟩
 obtain ⟨Cx,w2⟩:=Mr 0 eW _ rfl rfl;nofun;refine ⟨_,aW.of ao,_,dw (j:=0) rfl,⟨eW,_,n,rfl,Cx,OJ,oa,fun ay s2 tF=>⟨fL _,fun wl eR=>?_⟩⟩⟩;obtain ⟨akL,am1,alR,agt⟩:=Cx.ins;have CH:p ≠ eW:=fb ao agt (by intro z;cases z);have c5:ay p=some (.lst ((eW :: gZ).map V.ref)):=s2 _ _ CH ao;have IT:aN ay (upd ay wl (.lst [])):=a0 eR;have Iz:hk ((eW :: gZ).map V.ref) (some 1) none=gZ.map V.ref:=by
  unfold hk;simp [ea.cC];exact xY (by rw [bb];exact bu _)
 refine ⟨_,aW.of (IT _ _ c5),fun pc I2=>?_⟩;rw [Iz];have mj:pc ≠ wl:=fun z=>by subst z;rw [aS] at I2;cases I2
 have I7:aN (upd ay wl (.lst [])) (upd (upd ay wl (.lst [])) pc (.lst (gZ.map V.ref))):=a0 I2;refine ⟨⟨_,aW.of aS⟩,?_⟩;have OM:aN H ay:=GR n1 s2 w2;have WC:gZ.length=ds.length:=by simpa using NX
 refine ap.list (xs:=gZ.map V.ref) (fun i σ I=>(∃ x,σ=[some (V.str (f5 n ds)),some (V.ref p),some (V.int n),some (V.ref wl),x])/\aY I/\aN H I/\I pc=some (.lst (gZ.map V.ref))/\H wl=none/\l8 t I wl (ds.take i) /\
  ∀ (j:Nat) (q:Addr) (d:a8),i <= j->gZ[j]? = some q->ds[j]? = some d->cp t I q ((j + 1:Nat):Int) (ol d) 0/\H q=none) ?_ ?_ ?_ ?_
 .refine ⟨⟨_,rfl⟩,(tF.upd).upd,(OM.trans IT).trans I7,aS,OM.free eR,⟨[],I7 _ _ aS,rfl,fun j a d h=>by simp at h⟩,fun j q d _ af ai=>?_⟩;have av:(gu n ds)[j + 1]? = some (ol d):=by
   unfold gu;rw [AH,ec,ai];rfl
  obtain ⟨vM,rO⟩:=Mr (j + 1) q _ (by rw [AH];exact af) av;refine ⟨((vM.B0 s2 (O1 vM Cx (by omega)) Cx.ins).same IT).same I7,rO⟩
 .rintro i σ I aj bU;ac_rfl
  obtain ⟨_,_,_,h,_⟩:=bU;subst bM;exact aW.of h
 .rintro i v σ I aU bU;ac_rfl
  obtain ⟨⟨x,rfl⟩,qP,Bg,D9,D7,W,Rs⟩:=bU;obtain ⟨q,aB,rfl⟩:=eU aU;obtain ⟨aj,_⟩:=cV.mp aB;have lJ:i < ds.length:=by omega
  have hd:ds[i]? = some ds[i]:=cJ lJ;obtain ⟨x_,n'⟩:=Rs i q _ (bu _) aB hd;have vj:(ds.take i).length=i:=by rw [eX];omega
  obtain ⟨as,cL,c_,al⟩:=id W;subst bM;nofun;refine dh false (fun Q a5=>?_) (fun ar=>nomatch ar) (fun _=>?_)
  .nofun;refine ⟨_,.inl (aW.of cL),?_⟩;rw [bb,c_,vj];rw [decide_eq_false (by omega)] <;> exact a5
  .nofun;refine ⟨.inl ⟨_,aW.of cL⟩,?_⟩;refine ⟨q,_,n,wl,ds.take i,ds[i],rfl,x_,cB.al _ (zp lJ),OJ,W,by omega,fun e he z=>?_,qP,fun y bA s3 vI gR Q8=>?_⟩
   .obtain ⟨j,bf,rfl⟩:=OL he;rw [List.getElem_take] at z;have rJ:j < i:=by omega
    have:=JI cB.aC (i:=j) (j:=i) (by omega) lJ (by rw [qr (cJ (by omega)),qr hd];exact z);omega
   .nofun;obtain ⟨amm,WZ,amf,f9⟩:=x_.ins;have ahv:wl ≠ q:=fb cL f9 (by intro z;cases z);have EU:bA wl=some (.lst (as.map V.ref)):=s3 _ _ ahv cL;have ai4:aN H bA:=GR Bg s3 n';refine ⟨_,EU,jV (show (as.map V.ref).length <= 12 by rw [bb];omega) (by decide),?_⟩;have acn:y ≠ wl:=fun z=>by
     subst z;rw [cL] at Q8;cases Q8
    refine ⟨⟨_,rfl⟩,vI.upd,fun b u e=>?_,?_,D7,⟨as ++ [y],by rw [aS,eD];rfl,?_,fun j a d af ai=>?_⟩,fun j cS d bf af ai=>?_⟩
    .rw [aX (Db e D7)];exact ai4 _ _ e
    .rw [aX mj];exact s3 _ _ (fb D9 f9 (by intro z;cases z)) D9
    .rw [dq,c_,vj,eX];show i + 1=_;omega
    .by_cases bf:j < as.length
     .rw [kq bf] at af;have Y':(ds.take i)[j]? = some d:=by
       rw [oK (by omega)];rw [oK (by omega)] at ai;exact ai
      obtain ⟨aJ,hG,e⟩:=al j a d af Y';have abg:a ≠ q:=ade ⟨aJ,hG,e⟩ x_;have ahX:a ≠ wl:=fb e cL (by intro z;cases z);exact ⟨aJ,hG,by rw [aX ahX];exact s3 _ _ abg e⟩
     .rw [kd (by omega)] at af;have qc:j - as.length=0:=by
       cases cQ:j - as.length with
       | zero=>rfl
       | succ m=>rw [cQ] at af;simp at af
      rw [qc] at af;have bW:y=a:=by simpa using af
      subst bW;have fu:j=i:=by omega
      subst fu;rw [oK (by omega),hd] at ai;cases ai;exact ⟨gR.1,gR.2.imp fun hG e=>by rw [aX acn];exact e⟩
    .obtain ⟨vM,rO⟩:=Rs j cS d (by omega) af ai;have l':=vM.B0 s3 (O1 vM x_ (by omega)) x_.ins;refine ⟨?_,rO⟩;obtain ⟨aD,hG,aV,aw,az⟩:=l';refine ⟨aD,hG,aV,by rw [aX (fb aw EU (by intro z;cases z))];exact aw,?_⟩;rw [aX (fun z=>by
      subst z;rw [EU] at az;have lC:=dj az;injection lC with iY;cases as with
      | nil=>exact absurd (congrArg mP iY) (by show ¬ (0:Nat)=7;decide)
      | cons a r=>injection iY with p0 _;cases p0)]
     exact az
 .rintro σ I bU;ac_rfl
  obtain ⟨⟨x,rfl⟩,qP,Bg,D9,D7,W,Rs⟩:=bU;subst bM;rw [bb,WC,jg] at W;obtain ⟨as,cL,c_,al⟩:=id W;nofun;refine dh false (fun Q a5=>?_) (fun ar=>nomatch ar) (fun _=>?_)
  .nofun;refine ⟨true,.inl ⟨_,aW.of cL,?_⟩,a5⟩;cases as with
   | nil=>simp at c_;omega
   | cons a r=>rfl
  .nofun;intro c au ar n8 cf;have sc:aN I (upd (upd I au (.own c)) c (.ins t.fo au [])):=((aN.refl I).hM n8).hM ar;refine ⟨c,au,n,wl,ds,rfl,aS,W.same sc,cB.aC,Xy.2,(qP.upd).upd,fun fY s5 af4 nq=>⟨rfl,?_⟩⟩;exact oD c fY (GR (Bg.trans sc) s5 (Bg.free ar)) af4 nq
theorem Mt {n s p:Int} (h0:0 <= s) (af:s < n) (ai:0 <= p) (br:p < n):(p - s) % n=if s <= p then p - s else p - s + n:=by
 split
 .rename_i h;exact pL (by omega) (by omega)
 .rename_i h;have e:(p - s) % n=(p - s + n) % n:=(Tf ..).symm;rw [e];exact pL (by omega) (by omega)
noncomputable def kb (n s f p:Int):Bool:=decide (0 < (p - s) % n) && decide ((p - s) % n < (f - s) % n)
noncomputable def Br (n s f s2 f2:Int):Bool:=decide (f=f2) || (if (s2=s\/s2=f)\/(f2=s\/f2=f) then false else (kb n s f s2 != kb n s f f2))
theorem zQ {s f p:Int} (af:p ≠ s) (ai:p ≠ f) (br:s ≠ f):((decide (s < f) && decide (f < p) && !decide (s < p)) || (!decide (s < f) && !decide (f < p) && decide (s < p)))=false:=by
 by_cases a:s < f <;> by_cases b:f < p
 .rw [decide_eq_true a,decide_eq_true b,decide_eq_true (show s < p by omega)];rfl
 .rw [decide_eq_true a,decide_eq_false b];rfl
 .rw [decide_eq_false a,decide_eq_true b];rfl
 .rw [decide_eq_false a,decide_eq_false b,decide_eq_false (show ¬ s < p by omega)];rfl
theorem uT {s p:Int} (h:s ≠ p):decide (p < s) = !decide (s < p):=by
 by_cases a:s < p
 .rw [decide_eq_true a,decide_eq_false (by omega)];rfl
 .rw [decide_eq_false a,decide_eq_true (by omega)];rfl
theorem B8 {n s f p:Int} (aG:0 <= s/\s < n) (hf:0 <= f/\f < n) (ao:0 <= p/\p < n) (af:p ≠ s) (ai:p ≠ f) (br:s ≠ f):kb n s f p=((decide (s < p) && decide (p < f)) || (decide (p < f) && decide (f < s)) || (decide (f < s) && decide (s < p))):=by
 unfold kb;rw [Mt aG.1 aG.2 ao.1 ao.2,Mt aG.1 aG.2 hf.1 hf.2,decide_eq_true (show 0 < (if s <= p then p - s else p - s + n) by split <;> omega),z7,uT br];by_cases a:s < p <;> by_cases b:s < f
 .rw [if_pos (by omega),if_pos (by omega),decide_eq_true a,decide_eq_true b,show decide (p - s < f - s)=decide (p < f) from decide_eq_decide.mpr (by omega)];cases decide (p < f) <;> rfl
 .rw [if_pos (by omega),if_neg (by omega),decide_eq_true a,decide_eq_false b,decide_eq_true (show p - s < f - s + n by omega)];cases decide (p < f) <;> rfl
 .rw [if_neg (by omega),if_pos (by omega),decide_eq_false a,decide_eq_true b,decide_eq_false (show ¬ p - s + n < f - s by omega)];cases decide (p < f) <;> rfl
 .rw [if_neg (by omega),if_neg (by omega),decide_eq_false a,decide_eq_false b,show decide (p - s + n < f - s + n)=decide (p < f) from decide_eq_decide.mpr (by omega)];cases decide (p < f) <;> rfl
theorem abE:∀ a b c d e g:Bool,((a && d && !b) || (!a && !d && b))=false->((a && e && !c) || (!a && !e && c))=false->((b && g && !c) || (!b && !g && c))=false->((d && g && !e) || (!d && !g && e))=false ->
  (((b && !d) || (!d && !a) || (!a && b)) != ((c && !e) || (!e && !a) || (!a && c)))=(((!b && c) || (c && !g) || (!g && !b)) != ((!d && e) || (e && !g) || (!g && !d))):=by ac_nf
theorem aky {n s f s2 f2:Int} (aG:0 <= s/\s < n) (hf:0 <= f/\f < n) (fN:0 <= s2/\s2 < n) (Eb:0 <= f2/\f2 < n) (cf:s ≠ f) (rM:s2 ≠ f2):Br n s f s2 f2=Br n s2 f2 s f:=by
 unfold Br;by_cases e:f=f2
 .rw [decide_eq_true e,decide_eq_true e.symm];rfl
 .rw [decide_eq_false e,decide_eq_false (c7 e)];by_cases c:(s2=s\/s2=f)\/(f2=s\/f2=f)
  .have dT:(s=s2\/s=f2)\/(f=s2\/f=f2):=by omega
   rw [if_pos c,if_pos dT]
  .have dT:¬ ((s=s2\/s=f2)\/(f=s2\/f=f2)):=by omega
   rw [if_neg c,if_neg dT];have bH:s2 ≠ s:=by omega
   have bQ:s2 ≠ f:=by omega
   have df:f2 ≠ s:=by omega
   have d8:f2 ≠ f:=by omega
   rw [yE,yE,B8 aG hf fN bH bQ cf,B8 aG hf Eb df d8 cf,B8 fN Eb aG bH.symm df.symm rM,B8 fN Eb hf bQ.symm d8.symm rM,uT bH.symm,uT bQ.symm,uT d8.symm,uT cf,uT rM];exact abE _ _ _ _ _ _ (zQ bH bQ cf) (zQ df d8 cf) (zQ df rM.symm bH.symm) (zQ d8 rM.symm bQ.symm)
noncomputable def setOf:List Bool->Nat
 | []=>0
 | b :: r=>(if b then 1 else 0) + 2 * setOf r
noncomputable abbrev mt (n:Int) (d e:a8):Bool:=Br n d.start d.fin e.start e.fin
def R1 (t:bJ):bI:=fun vs H Q _=>∃ a d n p,vs=[.int n,.ref a,.int p]/\eo t H a d/\0 < n/\Q (.bp (kb n d.start d.fin p)) H
noncomputable def xD (n:Int) (d e:a8):Bool:=if (e.start=d.start\/e.start=d.fin)\/(e.fin=d.start\/e.fin=d.fin) then false else (kb n d.start d.fin e.start != kb n d.start d.fin e.fin)
def afb (t:bJ):bI:=fun vs H Q _=>∃ a b d e n,vs=[.int n,.ref a,.ref b]/\eo t H a d/\eo t H b e/\0 < n/\aY H/\Q (.bp (xD n d e)) H
def aew (t:bJ):bI:=fun vs H Q _=>∃ a b d e n,vs=[.int n,.ref a,.ref b]/\eo t H a d/\eo t H b e/\0 < n/\∀ I,aN H I->Q (.bp (xD n d e)) I
def Gj (t:bJ):bI:=fun vs H Q _=>∃ c n ds,∃ i j:Nat,∃ d e,vs=[.ref c,.str d.name,.str e.name]/\ff t H c n ds/\0 < n/\ds[i]? = some d/\ds[j]? = some e/\aY H/\Q (.bp (mt n d e)) H
theorem ahz:b_ P base T 1 t.u0 t.wz BQ (R1 t):=by
 exists T.Ac.ok Sk,9
 obtain ⟨a,d,n,p,rfl,W,aH,q⟩:=h;refine ⟨_,(aM (bL (i:=3) Sk.aC (bS lQ (bS oH (U 2) (c1 (U 1) rfl)) (U 0)))
   (a3 (bX (Hl (iH sh aR (U 3) (lc _)) (rR (iH sh (U 3) (bS lQ (bS oH (c1 (U 1) rfl) (c1 (U 1) rfl)) (U 0)) (lc _))))))),?_⟩
 nofun;refine ⟨_,W.sZ T,_,rfl,aH,?_⟩;unfold kb at q;by_cases c:0 < (p - d.start) % n
 .rw [if_pos (decide_eq_true c)];rw [decide_eq_true c,z7] at q;exact ⟨_,W.rL T,_,W.sZ T,_,rfl,_,rfl,aH,q⟩
 .rw [if_neg (by simpa using c)];rw [decide_eq_false c,tR] at q;exact q
theorem Q' (x a b:Int):n2 (.int x) [.int a,.int b]=decide (x=a\/x=b):=by
 unfold n2;simp only [xR,List.any_nil,lK,ZX];rw [oE];simp only [Bk,beq_iff_eq,decide_eq_true_eq];omega
theorem aiF:b_ P base T 2 t.x5 t.BH Bj (afb t):=by
 refine bt.forget (sp:=aew t) ?_ fun vs H Q E h=>?_
 .have SW:bt P w K ah base b7 1 t.u0 t.wz BQ (R1 t):=ahz T;exists T.Ik.ok ZP,9
  obtain ⟨a,b,d,e,n,rfl,gY,kj,aH,q⟩:=h;refine ⟨_,(aM (c9 (gr.pt (vN (cU nO (c1 (U 2) rfl) (gO (ae (c1 (U 1) rfl) (ae (c1 (U 1) rfl) aA))) (by with_unfolding_all rfl)) (xK (cU nO (c1 (U 2) rfl) (gO (ae (c1 (U 1) rfl) (ae (c1 (U 1) rfl) aA))) (by with_unfolding_all rfl))))) (a3 (bX mz)) dd)
   (a3 (bX (iH l5 (bK SW av T.P9 T.Ac.bh T.UR (ae (U 0) (ae (U 1) (ae (c1 (U 2) rfl) aA)))) (bK SW av T.P9 T.Ac.bh T.UR (ae (U 0) (ae (U 1) (ae (c1 (U 2) rfl) aA)))) (lc _))))),?_⟩
  nofun;refine lF (fun b I=>aN H I/\b=decide ((e.start=d.start\/e.start=d.fin)\/(e.fin=d.start\/e.fin=d.fin))) (fun Q a5=>?_) (fun I ⟨ck,ab⟩=>?_) (fun I ⟨ck,ab⟩=>?_)
  .nofun;refine ⟨_,kj.sZ T,_,gY.sZ T,_,gY.rL T,by decide,fun p ao=>⟨_,.inl (aW.of aS),rfl,rfl,?_⟩⟩;have s1:aN H (upd H p (.lst [.int d.start,.int d.fin])):=a0 ao;rw [Q'];by_cases g6:e.start=d.start\/e.start=d.fin
   .rw [if_pos (decide_eq_true g6)];exact a5 _ _ ⟨s1,(decide_eq_true (.inl g6)).symm⟩
   .rw [if_neg (by simpa using g6)];refine ⟨_,(kj.same s1).rL T,_,(gY.same s1).sZ T,_,(gY.same s1).rL T,by decide,fun dM c5=>⟨_,.inl (aW.of aS),rfl,rfl,?_⟩⟩;rw [Q'];refine a5 _ _ ⟨s1.trans (a0 c5),?_⟩;rw [oE,decide_eq_true_eq,decide_eq_true_eq];exact ⟨.inr,fun z=>z.resolve_left g6⟩
  .nofun;have ew:=of_decide_eq_true ab.symm;have:=q I ck;unfold xD at this;rw [if_pos ew] at this;exact this
  .nofun;have ew:=of_decide_eq_false ab.symm;refine ⟨_,(kj.same ck).sZ T,⟨a,d,n,_,rfl,gY.same ck,aH,?_⟩⟩;refine ⟨_,(kj.same ck).rL T,⟨a,d,n,_,rfl,gY.same ck,aH,?_⟩⟩;refine ⟨rfl,?_⟩;have:=q I ck;unfold xD at this;rw [if_neg ew] at this;rw [show (!decide (V.bp (kb n d.start d.fin e.start)=V.bp (kb n d.start d.fin e.fin)))=(kb n d.start d.fin e.start != kb n d.start d.fin e.fin) by
    cases kb n d.start d.fin e.start <;> cases kb n d.start d.fin e.fin <;> rfl]
   exact this
 .obtain ⟨a,b,d,e,n,af,ai,br,cm,bc,q⟩:=h;exact ⟨bc,a,b,d,e,n,af,ai,br,cm,fun I ck=>⟨ck,q⟩⟩
theorem XS (n:Int) (d e:a8):mt n d e=(decide (d.fin=e.fin) || xD n d e):=rfl
theorem UK:b_ P base T 3 t.rq t.s8 nC (Gj t):=by
 refine cF (Ji T) fun r9=>cF (aiF T) fun acU=>?_;exists T.Cu.ok Ez,9
 obtain ⟨c,n,ds,i,j,d,e,rfl,C,aH,hd,he,bc,q⟩:=h;obtain ⟨_,au,wl,aC,aw,az,bW⟩:=id C;refine ⟨_,(aM (bL (i:=3) Ez.aC (e3 (U 0) T.jW T.ce r9 av T.um .nil cT (ae (U 1) aA)))
   (aM (bL (i:=4) Ez.aC (e3 (U 0) T.jW T.ce r9 av T.um .nil cT (ae (U 2) aA)))
   (a3 (bX (BZ (iH fw (c1 (U 3) rfl) (c1 (U 4) rfl) (lc _)) (rR (bK acU av T.aiC T.Ik.bh T.ZV (ae (c1 (U 0) rfl) (ae (U 3) (ae (U 4) aA)))))))))),?_⟩
 rw [XS] at q;nofun;refine ⟨_,_,aw,pw _ _ _ (by ac_nf),⟨c,n,ds,i,d,rfl,C,hd,fun a gY=>?_⟩⟩;nofun;refine ⟨_,_,aw,pw _ _ _ (by ac_nf),⟨c,n,ds,j,e,rfl,C,he,fun b kj=>?_⟩⟩;nofun;refine ⟨_,gY.rL T,_,kj.rL T,rfl,?_⟩;nofun;by_cases g6:d.fin=e.fin
 .rw [if_pos (decide_eq_true g6)];rw [decide_eq_true g6,FX] at q;exact q
 .rw [if_neg (by simpa using g6)];rw [decide_eq_false g6,yE] at q;exact ⟨_,ag6 T aw,⟨a,b,d,e,n,rfl,gY,kj,aH,bc,q⟩⟩
def FE (t:bJ):bI:=fun vs H Q _=>∃ c n ds,∃ i j:Nat,∃ d e,vs=[.ref c,.str d.name,.str e.name]/\ff t H c n ds/\ds[i]? = some d/\ds[j]? = some e/\Q (.int (if d.off - e.near > 0 then d.off - e.near else 0)) H
theorem NB:b_ P base T 3 t.rb t.tW nC (FE t):=by
 refine cF (Ji T) fun r9=>?_;exists T.B3.ok KQ,9
 obtain ⟨c,n,ds,i,j,d,e,rfl,C,hd,he,q⟩:=h;obtain ⟨_,au,wl,aC,aw,az,bW⟩:=id C;refine ⟨_,(aM (bL (i:=3) KQ.aC (e3 (U 0) T.jW T.ce r9 av T.um .nil cT (ae (U 1) aA)))
   (aM (bL (i:=4) KQ.aC (e3 (U 0) T.jW T.ce r9 av T.um .nil cT (ae (U 2) aA)))
   (a3 (bX (g7 (OH rfl) rfl T.Kj K1 (ae aR (ae (bS oH (c1 (U 3) rfl) (c1 (U 4) rfl)) aA))))))),?_⟩
 nofun;refine ⟨_,_,aw,pw _ _ _ (by ac_nf),⟨c,n,ds,i,d,rfl,C,hd,fun a gY=>?_⟩⟩;nofun;refine ⟨_,_,aw,pw _ _ _ (by ac_nf),⟨c,n,ds,j,e,rfl,C,he,fun b kj=>?_⟩⟩;nofun;refine ⟨_,gY.Oe T,_,kj.af3 T,?_⟩;nofun;exact q
theorem FQ {i:Int} (h:i.natAbs < 100000):i.natAbs.log2 < 1920:=by
 by_cases h0:i.natAbs=0
 .rw [h0];decide
 .exact (VG h0).mpr (Wg h (by decide))
theorem jY {α:Type} {l:List α} {a x:α} {i:Nat} (h:(l ++ [a])[i]? = some x):(i < l.length/\l[i]? = some x)\/(i=l.length/\x=a):=by
 by_cases aj:i < l.length
 .rw [kq aj] at h;exact .inl ⟨aj,h⟩
 .rw [kd (by omega)] at h;have h0:i - l.length=0:=by
   cases cQ:i - l.length with
   | zero=>rfl
   | succ m=>rw [cQ] at h;simp at h
  rw [h0] at h;exact .inr ⟨by omega,(by simpa using h:a=x).symm⟩
def yu (H:aq) (wl:Addr) (ws:List (a8 × Int)):Prop:=∃ qs:List Addr,H wl=some (.lst (qs.map V.ref))/\qs.length=ws.length/\∀ (i:Nat) (q:Addr) (p:a8 × Int),qs[i]? = some q->ws[i]? = some p->H q=some (.tup [.str p.1.name,.int p.2])
noncomputable def e_ (i j:Nat):List Key:=[qk (i:Int),qk (j:Int)]
noncomputable def k9 (d e:a8):Int:=if d.off - e.near > 0 then d.off - e.near else 0
noncomputable def hR (n:Int) (ws:List (a8 × Int)) (i m:Nat):List (List Key × V):=
 (dW m).filterMap fun j=>match ws[i]?,ws[j]? with
  | some p,some q=>if i ≠ j/\mt n p.1 q.1=true then some (e_ i j,V.int (p.2 + k9 p.1 q.1)) else none
  | _,_=>none
noncomputable def fz (n:Int) (ws:List (a8 × Int)) (i:Nat):List (List Key × V):=(dW i).flatMap fun k=>hR n ws k ws.length
theorem afn (n:Int) (ws:List (a8 × Int)) (i:Nat):hR n ws i 0=[]:=rfl
theorem JO {n:Int} {ws:List (a8 × Int)} {i m:Nat} {p q:a8 × Int} (aj:ws[i]? = some p) (hm:ws[m]? = some q) (h:¬ (i ≠ m/\mt n p.1 q.1=true)):hR n ws i (m + 1)=hR n ws i m:=by
 unfold hR;rw [oy,ais];simp only [qT,adl,aj,hm,if_neg h,me]
theorem Qo {n:Int} {ws:List (a8 × Int)} {i m:Nat} {p q:a8 × Int} (aj:ws[i]? = some p) (hm:ws[m]? = some q) (h:i ≠ m/\mt n p.1 q.1=true):hR n ws i (m + 1)=hR n ws i m ++ [(e_ i m,V.int (p.2 + k9 p.1 q.1))]:=by
 unfold hR;rw [oy,ais];simp only [qT,adl,aj,hm,if_pos h]
theorem SN (n:Int) (ws:List (a8 × Int)) (i:Nat):fz n ws (i + 1)=fz n ws i ++ hR n ws i ws.length:=by
 unfold fz;rw [oy,Mk];simp
theorem Ge {n:Int} {ws:List (a8 × Int)} {i m:Nat} {x:List Key × V} (h:x ∈ hR n ws i m):∃ j p q,j < m/\ws[i]? = some p/\ws[j]? = some q/\i ≠ j/\mt n p.1 q.1=true/\x=(e_ i j,V.int (p.2 + k9 p.1 q.1)):=by
 unfold hR at h;obtain ⟨j,bf,e⟩:=Hk.mp h;have rJ:=hZ.mp bf;cases ao:ws[i]? with
 | none=>simp [ao] at e
 | some p=>
  cases aB:ws[j]? with
  | none=>simp [ao,aB] at e
  | some q=>
   simp only [ao,aB] at e;split at e
   .rename_i c;exact ⟨j,p,q,rJ,rfl,aB,c.1,c.2,(dj e).symm⟩
   .cases e
theorem PJ {n:Int} {ws:List (a8 × Int)} {i:Nat} {x:List Key × V} (h:x ∈ fz n ws i):∃ k,k < i/\x ∈ hR n ws k ws.length:=by
 unfold fz at h;obtain ⟨k,aJ,e⟩:=qn.mp h;exact ⟨k,hZ.mp aJ,e⟩
theorem tu {i j KS EG:Nat} (h:e_ i j=e_ KS EG):i=KS/\j=EG:=by
 unfold e_ at h;simp only [FD,Sum.inl.injEq,and_true] at h;omega
theorem MI {aE:List (List Key × V)} {k:List Key} {v:V} (h:∀ x ∈ aE,x.1 ≠ k):fs aE k v=aE ++ [(k,v)]:=by
 unfold fs;rw [if_neg];intro z;obtain ⟨x,ak,e⟩:=EY.mp z;exact h x ak (of_decide_eq_true e)
theorem aaN {n:Int} {ws:List (a8 × Int)} {i m:Nat} {p q:a8 × Int} (aj:ws[i]? = some p) (hm:ws[m]? = some q) (h:i ≠ m/\mt n p.1 q.1=true) :
  fs (fz n ws i ++ hR n ws i m) (e_ i m) (V.int (p.2 + k9 p.1 q.1))=fz n ws i ++ hR n ws i (m + 1):=by
 rw [Qo aj hm h,MI,tZ];intro x ak e;rcases hB.mp ak with z | z
 .obtain ⟨k,aJ,z⟩:=PJ z;obtain ⟨j,iu,cS,_,_,_,_,_,rfl⟩:=Ge z;have:=tu e;omega
 .obtain ⟨j,iu,cS,bf,_,_,_,_,rfl⟩:=Ge z;have:=tu e;omega
theorem Tg (n:Int) (ws:List (a8 × Int)) (i m:Nat):(hR n ws i m).length <= m:=by
 unfold hR;exact b8 (List.length_filterMap_le _ _) (by simp)
theorem Ph (n:Int) (ws:List (a8 × Int)) (i:Nat):(fz n ws i).length <= i * ws.length:=by
 induction i with
 | zero=>simp [fz]
 | succ i a_=>
  rw [SN,dq,Dd];have:=Tg n ws i ws.length;omega
noncomputable def fx (p:a8 × Int):Int:=p.2 + lq p.1 + lT p.1
noncomputable def jE (m:Int) (al cE:Addr):List (Str × V):=[(ag "many",.int m),(ag "alones",.ref al),(ag "steps",.ref cE)]
theorem KU {d:a8} {m:Str} (h:Ev.contains m=false):(nd d).lookup m=none:=l4 Ev (QX _) h
theorem AZ {P:Program} {w:World} {K:a4} {ah:Str->Option Value} {base:Heap} {CX:hF} {j k:Nat} {l_:Addr->Prop} {m:Str} {ps:List Str} {mf:Addr->bI} (V:nV P w K ah base CX j l_ m ps mf) (h:j <= k):nV P w K ah base CX k l_ m ps mf:=⟨fun C cB=>by
 obtain ⟨f,fd,af,ai,br,cm⟩:=V.ok C cB;exact ⟨f,fd,af,ai,br.mono h,cm⟩⟩
theorem Ty {H:aq} {p b C D au qa:Addr} {x:Str × V} {aQ:List (Str × V)} (ao:H p=some (.ins C au [])) (ab:H b=some (.ins D qa (x :: aQ))):b ≠ p:=fun z=>by
 subst z;rw [ao] at ab;cases ab
theorem Th {t:bJ} {H I:aq} {p a C au:Addr} {d:a8} (ao:H p=some (.ins C au [])) (gi:c3 p H I) (h:eo t H a d):eo t I a d:=by
 obtain ⟨af,qa,e⟩:=h;exact ⟨af,qa,gi _ _ (Ty ao e) e⟩
theorem Qe {t:bJ} {H I:aq} {p c C au:Addr} {n:Int} {ds:List a8} (ao:H p=some (.ins C au [])) (gi:c3 p H I) (h:ff t H c n ds):ff t I c n ds:=by
 obtain ⟨h0,qa,wl,aC,aw,⟨as,cL,c_,gR⟩,bW⟩:=h;exact ⟨h0,qa,wl,aC,gi _ _ (Ty ao aw) aw,⟨as,gi _ _ (fb cL ao (by intro z;cases z)) cL,c_,fun i a d af ai=>Th ao gi (gR i a d af ai)⟩,gi _ _ (fb bW ao (by intro z;cases z)) bW⟩
theorem Yq {K:a4} {a b:Addr} {xs ys:List V} {g:e1} {cI:St} {H:aq} {cu:TT} {bo:TE} {Q:cc} (Pv:Nat->List V->aq->Prop) (n:Nat) (aH:n=min xs.length ys.length) (aD:n <= sizeLine) (h0:Pv 0 [] H) (ax:∀ i zs H,i <= n->Pv i zs H->(aW K H a xs/\aW K H b ys)/\zs.length <= i)
  (aG:∀ i x y zs H p,xs[i]? = some x->ys[i]? = some y->Pv i zs H->H p=none->nt Pv g cu bo cI i (.ref p) zs (upd H p (.tup [x,y]))) (hd:∀ zs H,Pv n zs H->∀ p,H p=none->Q (.ref p) (upd H p (.lst zs))):cY (H8 K a b) g cu bo cI Q H:=by
 refine cY.of (n:=n) Pv aD h0 (fun i zs H aj p=>?_) (fun zs H p=>?_) (fun i zs H aj p=>(ax i zs H (nu aj) p).2) (fun i zs H v I aj p y=>?_) hd
 .obtain ⟨⟨d_,d5⟩,_⟩:=ax i zs H (nu aj) p;exact ⟨xs,ys,xs[i],ys[i],d_,d5,by rw [cJ (by omega)],by rw [cJ (by omega)]⟩
 .obtain ⟨⟨d_,d5⟩,_⟩:=ax n zs H (bu _) p;exact ⟨xs,ys,d_,d5,by omega⟩
 .obtain ⟨q,x,y,aB,rfl,ak,aT,rfl⟩:=y;obtain ⟨⟨d_,d5⟩,_⟩:=ax i zs H (nu aj) p;exact aG i x y zs H q (ak xs d_) (aT ys d5) p aB
section
variable (P:Program) (w:World)
def i0 (t:bJ) (H:aq) (p:Addr) (n:Int) (ws:List (a8 × Int)):Prop:=∃ au al cE,H p=some (.ins t.dS au (jE ws.length al cE))/\H al=some (.lst (ws.map fun p=>V.int (fx p)))/\gg P w H cE (fz n ws ws.length)
def Qf (t:bJ):bI:=fun vs H Q _=>∃ p au c wl n ds ws,vs=[.ref p,.ref c,.ref wl]/\H p=some (.ins t.dS au [])/\ff t H c n ds/\0 < n/\yu H wl ws/\(∀ q ∈ ws,∃ i:Nat,ds[i]? = some q.1)/\ws.length <= 20/\(∀ q ∈ ws,0 <= q.2/\q.2 <= 100000)/\aY H /\
 ∀ I,c3 p H I->aY I->i0 P w t I p n ws->Q .bT I
end
noncomputable def z1:List Str:=[ag "many",ag "alones",ag "steps"]
theorem EW (m:Int) (al cE:Addr):(jE m al cE).map (·.1)=z1:=rfl
theorem og (T:Txt w K ah t) {H:aq} {p au al cE:Addr} {m:Int} (e:H p=some (.ins t.dS au (jE m al cE))):io K H p (ag "steps") (.ref cE):=⟨_,au,_,e,T.tB,T.Me,lz z1 2 (EW ..) (by ac_nf) rfl⟩
theorem PL (T:Txt w K ah t) {H:aq} {p au al cE:Addr} {m:Int} (e:H p=some (.ins t.dS au (jE m al cE))):io K H p (ag "alones") (.ref al):=⟨_,au,_,e,T.tB,T.R4,lz z1 1 (EW ..) (by ac_nf) rfl⟩
theorem ZS:b_ P base T 4 t.oR t.q9 t9 (Qf P w t):=by
 refine cF (Ji T) fun r9=>?_;have Fu:nV P w K ah base b7 3 (sk t) "ready" ["self"] (tc t):=AZ (SD T) (by decide);have Ep:nV P w K ah base b7 3 (sk t) "fade" ["self"] (uN t):=AZ (Mc T) (by decide);have G5:bt P w K ah base b7 3 t.rq t.s8 nC (Gj t):=UK T;have J4:bt P w K ah base b7 3 t.rb t.tW nC (FE t):=NB T;exists T.Dz.ok k3,9
 obtain ⟨p,au,c,wl,n,ds,ws,rfl,ao,C,aH,W,kr,hlen,ab,bc,q⟩:=h;have ba:=gF av;refine ⟨_,(aM (t8 (i:=3) k3.aC rfl (lY rfl) rfl (iP (U 2)) (gx (sc:=bG ri) rfl (by ac_nf)) (N:=tv) (sel:=[none,none,some 1]) (gs (M:=yf) (by ac_nf)) (fD.of (fun _ _ _ _=>(fZ (K:=K) (n:=2) rfl rfl (c0 (b6 (i:=0) (eT (N:=tv) (by ac_nf) rfl)) (c0 (b6 (i:=1) (eT (N:=tv) (by ac_nf) rfl)) f')))) (fun _ _ _ _=>⟨_,iz,by walk_at "B"⟩) (fun _ _ _ _=>⟨_,(e3 (U 2) T.jW T.ce r9 av T.um .nil cT (ae (U 0) aA)),by walk_at "B"⟩)) rfl)
   (aM (g8 (U 0) (g7 jU rfl T.iI iF (ae (U 2) aA)) rfl)
   (aM (g8 (U 0) (iG rfl (KM rfl T.PG (ae (U 2) (ae (U 3) aA))) (gx (sc:=bG ri) rfl (by ac_nf)) (N:=uW) (sel:=[none,none]) (gs (M:=yf) (by ac_nf)) (fD.of (fun _ _ _ _=>(fZ (K:=K) (n:=2) rfl rfl (c0 (b6 (i:=0) (eT (N:=uW) (by ac_nf) rfl)) (c0 (b6 (i:=1) (eT (N:=uW) (by ac_nf) rfl)) f')))) (fun _ _ _ _=>⟨_,iz,by walk_at "B"⟩) (fun _ _ _ _=>⟨_,(bS dJ (bS dJ (cD er (U 0) aR) (AV (U 1) Ep av cT)) (AV (U 1) Fu av cT)),by walk_at "B"⟩))) rfl)
   (aM (g8 (U 0) Dm rfl)
   (a3 (ho hl rfl (rn rfl T.o8 (ae (U 2) aA)) (fZ (K:=K) (n:=2) rfl rfl (c0 (b6 (i:=4) k3.aC) (c0 (b6 (i:=5) k3.aC) f'))) (a3 (ho hl rfl (rn rfl T.o8 (ae (U 2) aA)) (fZ (K:=K) (n:=2) rfl rfl (c0 (b6 (i:=6) k3.aC) (c0 (b6 (i:=7) k3.aC) f'))) (a3 (c9 (gr.pt (zi (cU l5 (U 4) (U 6) (lc _)) (Ck (mK (bK G5 av T.SL T.Cu.bh T.Uq (ae (U 1) (ae (cD er (U 5) aR) (ae (cD er (U 7) aR) aA)))))))) (a3 (Ai ba (c1 (U 0) rfl) (eL (ae (U 4) (ae (U 6) aA))) (bS dJ (cD er (U 5) aR) (bK J4 av T.MJ T.B3.bh T.Rh (ae (U 1) (ae (cD er (U 5) aR) (ae (cD er (U 7) aR) aA))))) rfl)) dd)))))))))),?_⟩
 obtain ⟨qs,cL,c_,al⟩:=id W;have vG:(qs.map V.ref).length <= sizeLine:=b8 (show (qs.map V.ref).length <= 20 by rw [bb,c_];exact hlen) (by decide);obtain ⟨_,Yp,acX,YN,Kg,ZJ,aik⟩:=id C;nofun;refine ⟨⟨_,aW.of cL⟩,?_⟩;refine cY.list (xs:=qs.map V.ref) (fun i ys I=>I=H/\∃ as:List Addr,ys=as.map V.ref/\as.length=i/\∀ (j:Nat) (a:Addr) (q:a8 × Int),as[j]? = some a->ws[j]? = some q->eo t H a q.1) vG ⟨rfl,[],rfl,rfl,fun j a q h=>by simp at h⟩ (fun i ys I _ ⟨e,as,aw,az,_⟩=>by subst e aw;exact ⟨aW.of cL,by rw [bb,az];exact bu _⟩) ?_ ?_
 .rintro i x ys I ak ⟨rfl,as,rfl,az,bW⟩ N bx;obtain ⟨gD,f9,rfl⟩:=eU ak;have aj:i < ws.length:=by rw [<- c_];exact (cV.mp f9).1
  have fR:ws[i]? = some ws[i]:=cJ aj;have aB:=al i gD _ f9 fR;obtain ⟨k,aJ⟩:=kr _ (d4 fR);refine ox (bY.of aB) ?_;nofun;refine ⟨Sub.r2,_,_,Kg,pw _ _ _ (by ac_nf),⟨c,n,ds,k,_,rfl,C,aJ,fun a gY=>?_⟩⟩;show N (as.map V.ref ++ [V.ref a]) I;rw [show as.map V.ref ++ [V.ref a]=(as ++ [a]).map V.ref by rw [eD];rfl];refine bx _ _ ⟨rfl,as ++ [a],rfl,by rw [dq,az];rfl,fun j b q af ai=>?_⟩;rcases jY af with z | z
  .exact bW j b q z.2 ai
  .obtain ⟨d_,rfl⟩:=z;rw [d_,az,fR] at ai;cases ai;exact gY
 .rintro ys I ⟨rfl,as,rfl,az,bW⟩ l2 mj;rw [bb,c_] at az;nofun;have s1:aN I (upd I l2 (.lst (as.map V.ref))):=a0 mj;have vF:l2 ≠ p:=fun z=>by subst z;rw [ao] at mj;cases mj
  refine ⟨_,.inl (aW.of (s1 _ _ cL)),_,_,_,s1 _ _ ao,T.tB,T.TZ,by decide,?_⟩;have pO:c3 p I (upd (upd I l2 (.lst (as.map V.ref))) p (.ins t.dS au [(ag "many",V.int (ws.length:Int))])):=fun b u ab e=>by rw [aX ab];exact s1 _ _ e
  have JD:(upd (upd I l2 (.lst (as.map V.ref))) p (.ins t.dS au [(ag "many",V.int (ws.length:Int))])) p=some (.ins t.dS au [(ag "many",V.int (ws.length:Int))]):=aS;have ID:(upd (upd I l2 (.lst (as.map V.ref))) p (.ins t.dS au [(ag "many",V.int (ws.length:Int))])) l2=some (.lst (as.map V.ref)):=by rw [aX vF];exact aS
  have tF:aY (upd (upd I l2 (.lst (as.map V.ref))) p (.ins t.dS au [(ag "many",V.int (ws.length:Int))])):=(bc.upd).upd;rw [show Tk (ag "many") (V.int ((qs.map V.ref).length:Int)) ([]:List (Str × V))=[(ag "many",V.int (ws.length:Int))] by rw [bb,c_];rfl];generalize upd (upd I l2 (.lst (as.map V.ref))) p (.ins t.dS au [(ag "many",V.int (ws.length:Int))])=ay at pO JD ID tF ⊢;have OI:ay wl=some (.lst (qs.map V.ref)):=pO _ _ (fb cL ao (by intro z;cases z)) cL;refine ⟨⟨_,aW.of OI⟩,⟨_,aW.of ID⟩,?_⟩;refine Yq (xs:=qs.map V.ref) (ys:=as.map V.ref) (fun i zs bA=>aN ay bA/\aY bA/\zs=(ws.take i).map fun p=>V.int (fx p)) ws.length (by rw [bb,bb,c_,az];simp) (b8 hlen (by decide)) ⟨aN.refl _,tF,rfl⟩ (fun i zs bA aj ⟨ck,_,e⟩=>⟨⟨(aW.of OI).same ck,(aW.of ID).same ck⟩,by rw [e,bb,eX];omega⟩) ?_ ?_
  .rintro i x y zs bA r ak aT ⟨ck,vI,rfl⟩ xi N bx;obtain ⟨gD,f9,rfl⟩:=eU ak;obtain ⟨CP,qE,rfl⟩:=eU aT;have aj:i < ws.length:=by rw [<- c_];exact (cV.mp f9).1
   have fR:ws[i]? = some ws[i]:=cJ aj;have aB:ay gD=some (.tup [.str ws[i].1.name,.int ws[i].2]):=pO _ _ (fb (al i gD _ f9 fR) ao (by intro z;cases z)) (al i gD _ f9 fR);have gY:eo t bA CP ws[i].1:=(Th ao pO (bW i CP _ qE fR)).same ck;have JH:aN bA (upd bA r (.tup [.ref gD,.ref CP])):=a0 xi;have kj:=gY.same JH;refine si ?_;nofun;obtain ⟨bO,amx,LZ⟩:=id kj;refine ⟨Sub.r2,_,bY.of (JH _ _ (ck _ _ aB)),_,dw (j:=1) rfl,_,_,_,LZ,⟨_,bO,rfl⟩,KU (by ac_nf),_,_,rfl,kj,rfl,_,rfl,_,rfl,_,_,_,LZ,⟨_,bO,rfl⟩,KU (by ac_nf),_,_,rfl,kj,rfl,_,rfl,?_⟩;refine bx _ _ ⟨ck.trans JH,vI.upd,?_⟩;rw [i9,fR,eD];rfl
  .rintro zs bA ⟨ck,vI,rfl⟩ cO n5;rw [jg];nofun;have s4:aN bA (upd bA cO (.lst (ws.map fun p=>V.int (fx p)))):=a0 n5;have LW:cO ≠ p:=fun z=>by subst z;rw [ck _ _ JD] at n5;cases n5
   refine ⟨_,_,_,s4 _ _ (ck _ _ JD),T.tB,T.R4,(show (1:Nat) < 1000 by decide),fun cE o l9 cn=>?_⟩;rw [show Tk (ag "alones") (V.ref cO) [(ag "many",V.int (ws.length:Int))]=[(ag "many",V.int (ws.length:Int)),(ag "alones",V.ref cO)] from iC [ag "many"] rfl (by ac_nf)] at l9 cn ⊢;have hU:cE ≠ p:=fun z=>by subst z;rw [aS] at l9;cases l9
   have ub:bA cE=none:=by
    rw [aX hU] at l9;by_cases z:cE=cO
    .subst z;exact n5
    .rw [aX z] at l9;exact l9
   have Mj:cE ≠ cO:=fun z=>by subst z;rw [aX hU,aS] at l9;cases l9
   refine ⟨t.dS,au,[(ag "many",V.int (ws.length:Int)),(ag "alones",V.ref cO)],by rw [aX (c7 hU)];exact aS,T.tB,T.Me,show (2:Nat) < 1000 by decide,?_⟩;rw [show Tk (ag "steps") (V.ref cE) [(ag "many",V.int (ws.length:Int)),(ag "alones",V.ref cO)]=jE ws.length cO cE from iC [ag "many",ag "alones"] rfl (by ac_nf)];have HL:c3 p I (upd (upd (upd (upd bA cO (.lst (ws.map fun p=>V.int (fx p)))) p (.ins t.dS au [(ag "many",V.int (ws.length:Int)),(ag "alones",V.ref cO)])) cE (.ext (hs cE o))) p (.ins t.dS au (jE ws.length cO cE))):=fun b u ab e=>by
    have fu:=ck _ _ (pO _ _ ab e);rw [aX ab,aX (Db fu ub),aX ab];exact s4 _ _ fu
   have Nn:(upd (upd (upd (upd bA cO (.lst (ws.map fun p=>V.int (fx p)))) p (.ins t.dS au [(ag "many",V.int (ws.length:Int)),(ag "alones",V.ref cO)])) cE (.ext (hs cE o))) p (.ins t.dS au (jE ws.length cO cE))) p=some (.ins t.dS au (jE ws.length cO cE)):=aS;have QZ:(upd (upd (upd (upd bA cO (.lst (ws.map fun p=>V.int (fx p)))) p (.ins t.dS au [(ag "many",V.int (ws.length:Int)),(ag "alones",V.ref cO)])) cE (.ext (hs cE o))) p (.ins t.dS au (jE ws.length cO cE))) cO=some (.lst (ws.map fun p=>V.int (fx p))):=by
    rw [aX LW,aX (c7 Mj),aX LW];exact aS
   have ON:aY (upd (upd (upd (upd bA cO (.lst (ws.map fun p=>V.int (fx p)))) p (.ins t.dS au [(ag "many",V.int (ws.length:Int)),(ag "alones",V.ref cO)])) cE (.ext (hs cE o))) p (.ins t.dS au (jE ws.length cO cE))):=(((vI.upd).upd).upd).upd;have Nl:=Zf (u:=.ins t.dS au (jE ws.length cO cE)) cn (c7 hU) (fun xs z=>by rw [aX (c7 hU),aS] at z;cases z);generalize upd (upd (upd (upd bA cO (.lst (ws.map fun p=>V.int (fx p)))) p (.ins t.dS au [(ag "many",V.int (ws.length:Int)),(ag "alones",V.ref cO)])) cE (.ext (hs cE o))) p (.ins t.dS au (jE ws.length cO cE))=hb at HL Nn QZ ON Nl ⊢;have qz:wl ≠ p:=fb cL ao (by intro z;cases z);have VF:I cE=none:=by
    cases e:I cE with
    | none=>rfl
    | some u=>
     have:=ck _ _ (pO _ _ hU e);rw [ub] at this;cases this
   refine ⟨⟨_,aW.of (HL _ _ qz cL)⟩,?_⟩;refine ap.enum (xs:=qs.map V.ref) (fun i σ dI=>(∃ a b dT d,σ=[some (V.ref p),some (V.ref c),some (V.ref wl),some (V.ref l2),a,b,dT,d])/\c3 p I dI/\aY dI/\dI p=some (.ins t.dS au (jE ws.length cO cE))/\dI cO=some (.lst (ws.map fun p=>V.int (fx p)))/\gg P w dI cE (fz n ws i)) ?_ ?_ ?_ ?_
   .exact ⟨⟨_,_,_,_,rfl⟩,HL,ON,Nn,QZ,Nl⟩
   .rintro i σ dI aj ⟨_,uI,_⟩;exact aW.of (uI _ _ qz cL)
   .rintro i v σ dI r aU ⟨⟨a,b,dT,d,rfl⟩,uI,IE,Im,H3,BE⟩ Vi;obtain ⟨gD,f9,rfl⟩:=eU aU;have aj:i < ws.length:=by rw [<- c_];exact (cV.mp f9).1
    have fR:ws[i]? = some ws[i]:=cJ aj;have Jd:∀ {hW:aq},c3 p I hW->hW gD=some (.tup [.str ws[i].1.name,.int ws[i].2]):=fun gi=>gi _ _ (fb (al i gD _ f9 fR) ao (by intro z;cases z)) (al i gD _ f9 fR)
    obtain ⟨Rl,Uz⟩:=kr _ (d4 fR);refine si ?_;nofun;have yP:aN dI (upd dI r (.tup [.int i,.ref gD])):=a0 Vi;refine ⟨⟨_,aW.of (yP _ _ (uI _ _ qz cL))⟩,?_⟩;refine ap.enum (xs:=qs.map V.ref) (fun j σ hW=>(∃ dT d,σ=[some (V.ref p),some (V.ref c),some (V.ref wl),some (V.ref l2),some (V.int (i:Int)),some (V.ref gD),dT,d])/\c3 p I hW/\aY hW/\hW p=some (.ins t.dS au (jE ws.length cO cE))/\hW cO=some (.lst (ws.map fun p=>V.int (fx p)))/\gg P w hW cE (fz n ws i ++ hR n ws i j)) ?_ ?_ ?_ ?_
    .exact ⟨⟨_,_,rfl⟩,uI.trans (c3.of yP),IE.upd,yP _ _ Im,yP _ _ H3,by rw [afn,me];exact fv BE yP⟩
    .rintro j σ hW bf ⟨_,we,_⟩;exact aW.of (we _ _ qz cL)
    .rintro j v σ hW cw aU ⟨⟨kZ,dE,rfl⟩,we,HI,DA,H0,CT⟩ adx;obtain ⟨uO,rO,rfl⟩:=eU aU;have bf:j < ws.length:=by rw [<- c_];exact (cV.mp rO).1
     have tx:ws[j]? = some ws[j]:=cJ bf;obtain ⟨LU,Nf⟩:=kr _ (d4 tx);have Bs:aN hW (upd hW cw (.tup [.int j,.ref uO])):=a0 adx;have mh:=we.trans (c3.of (p:=p) Bs);have ND:∀ {hW:aq},c3 p I hW->hW uO=some (.tup [.str ws[j].1.name,.int ws[j].2]):=fun gi=>gi _ _ (fb (al j uO _ rO tx) ao (by intro z;cases z)) (al j uO _ rO tx)
     have xN:aY (upd hW cw (.tup [.int j,.ref uO])):=HI.upd;have sm:=Bs _ _ DA;have wy:=Bs _ _ H0;have z8:=fv CT Bs;refine si ?_;simp only [ks,kv];generalize upd hW cw (.tup [.int j,.ref uO])=DO at mh xN sm wy z8 ⊢;by_cases pz:i=j
     .refine dh false (fun Q a5=>?_) (fun z=>nomatch z) (fun _=>?_)
      .nofun;rw [if_neg (by simp [pz])];exact a5
      .simp only [ft];exact ⟨⟨_,_,rfl⟩,mh,xN,sm,wy,by rw [JO fR tx (fun z=>z.1 pz)];exact z8⟩
     refine dh (mt n ws[i].1 ws[j].1) (fun Q a5=>?_) (fun hm=>?_) (fun hm=>?_)
     .nofun;rw [if_pos (by simp;omega)];exact ⟨_,bY.of (Jd mh),_,dw (j:=0) rfl,_,bY.of (ND mh),_,dw (j:=0) rfl,c,n,ds,Rl,LU,_,_,rfl,Qe ao mh C,aH,Uz,Nf,xN,_,rfl,a5⟩
     .nofun;refine ⟨_,bY.of (Jd mh),_,dw (j:=1) rfl,_,bY.of (Jd mh),_,dw (j:=0) rfl,_,bY.of (ND mh),_,dw (j:=0) rfl,c,n,ds,Rl,LU,_,_,rfl,Qe ao mh C,Uz,Nf,_,rfl,_,rfl,_,og T sm,by decide,fun eG eP=>⟨cE,rfl,_,fv z8 (a0 eP),e_ i j,(show upd DO eG (.tup [V.int (i:Int),V.int (j:Int)]) eG=some (ey.tup [V.int (i:Int),V.int (j:Int)]) from aS),?_,fun o ah1=>⟨⟨_,rfl⟩,?_,(xN.upd).upd,?_,?_,?_⟩⟩⟩
      .have a1:=Ph n ws i;have a2:=Tg n ws i j;have SX:=aay (show i <= 20 by omega) hlen;exact jV (show (fz n ws i ++ hR n ws i j).length <= 420 by rw [dq];omega) (by decide)
      .intro b u ab e;have aw:=mh _ _ ab e;rw [aX (Db e VF),aX (Db aw eP)];exact aw
      .rw [aX (c7 hU),aX (Db sm eP)];exact sm
      .rw [aX (c7 Mj),aX (Db wy eP)];exact wy
      .rw [<- aaN fR tx ⟨pz,hm⟩];exact ah1
     .simp only [ft];exact ⟨⟨_,_,rfl⟩,mh,xN,sm,wy,by rw [JO fR tx (fun z=>by rw [hm] at z;exact nomatch z.2)];exact z8⟩
    .rintro σ hW bU;ac_rfl
     obtain ⟨⟨kZ,dE,rfl⟩,we,HI,DA,H0,CT⟩:=bU;subst bM;rw [bb,c_,<- SN] at CT;exact ⟨⟨_,_,_,_,rfl⟩,we,HI,DA,H0,CT⟩
   .rintro σ dI bU;ac_rfl
    obtain ⟨⟨a,b,dT,d,rfl⟩,uI,IE,Im,H3,BE⟩:=bU;subst bM;rw [bb,c_] at BE;nofun;exact q _ uI IE ⟨au,cO,cE,Im,H3,BE⟩
theorem ai' {H I:aq} {wl:Addr} {ws:List (a8 × Int)} (h:yu H wl ws) (s:aN H I):yu I wl ws:=by
 obtain ⟨qs,cL,c_,gR⟩:=h;exact ⟨qs,s _ _ cL,c_,fun i q p af ai=>s _ _ (gR i q p af ai)⟩
theorem WJ {n:Int} {ws:List (a8 × Int)} {i j:Nat} {p q:a8 × Int} (aj:ws[i]? = some p) (bf:ws[j]? = some q) (pz:i ≠ j) (hm:mt n p.1 q.1=true):(e_ i j,V.int (p.2 + k9 p.1 q.1)) ∈ fz n ws ws.length:=by
 unfold fz;refine qn.mpr ⟨i,hZ.mpr (cV.mp aj).1,?_⟩;unfold hR;refine Hk.mpr ⟨j,hZ.mpr (cV.mp bf).1,?_⟩;simp only [aj,bf,if_pos (And.intro pz hm)]
unseal L2.ei L2.bk L2.e2 L2.f_ L2.hi L2.gr
section
open PySem.Spec PyProof.Rows
section
variable {prog:Program} {w:World} {A:Around} {R:Result->Shared->Prop} {J:Addr} {a9 wr:List Addr} {n:Nat} {P:Nat->Value->Prop} {St:Nat->Heap->Prop}
theorem aiP (W:Walks prog w A.in1 J a9 wr n P St) (pK:Nat->Nat->Bool) (VC:CmpOf prog w A.in1 .Gt P pK) (S:Addr) (QW:S ∉ a9) (kB:Value) (aa7:Str) :
  ∀ (k j:Nat) (s:Shared) (acc:Array Value) (c:Nat),n - j=k->j <= n->St j s.heap->ai2 P pK j acc ->
  s.heap.get? S=some { cls:=.type "list",dict:=none,data:=.seq acc c,slots:=#[] } ->
  (∀ v h' cG,(n=0/\v=kB)\/(0 < n/\P (argBest pK (n - 1)) v)->(∀ b o,b ∉ wr->b ≠ S->s.heap.get? b=some o->h'.get? b=some o)->R (.ok (.ret v)) { s with heap:=h',toks:=cG }) ->
  codeAny (model prog w) A (.builtin "max.loop" ⟨[.ref J,.none,.ref S],[(aa7,kB)]⟩) R s:=by
 have Qh:S ∉ wr:=fun h=>QW (W.sub _ h)
 have ya:(toString "max" ++ toString ".loop" : String) = "max.loop" := by decide
 intro k
 induction k with
 | zero=>
  intro j s acc c aJ bf fE qX gW ie;have r5:j=n:=by omega
  refine codeAny_builtin Wy ?_;rw [ai9 wF _];show wpAny _ A.in1 (seqItems? (.ref S) >>= _) _ _ s;refine wpAny_bind (wpAny_seqItems gW rfl ?_);show wpAny _ A.in1 (tryCatch (pyNext (.ref J)) _ >>= _) _ _ s;refine wpAny_bind (wpAny_tryCatch (W.done s _ _ (r5 ▸ fE) fun h' cG lh=>?_));have rN:=lh S _ Qh gW;rcases qX with ⟨h0,rfl⟩ | ⟨l3,i,aj,rfl,dC⟩
  .show wpAny _ A.in1 (rule _ >>= _) _ _ _;refine wpAny_bind (wpAny_rule (wpAny_pure ?_));exact ie kB h' cG (.inl ⟨by omega,rfl⟩) fun b o lD nv e=>lh b o lD e
  .show wpAny _ A.in1 (updateSeq S (fun _=>#[]) >>= _) _ _ _;refine wpAny_bind ?_;refine wpAny_updateSeq rN rfl (wpAny_bind (wpAny_letGo (wpAny_pure ?_)));refine ie l3 _ cG (.inr ⟨by omega,by rw [show n - 1=i by omega];exact dC⟩) fun b o lD nv e=>(jM _ _ (c7 nv)).trans (lh b o lD e)
 | succ k a_=>
  intro j s acc c aJ bf fE qX gW ie;have cH:j < n:=by omega
  refine codeAny_builtin Wy ?_;rw [ai9 wF _];show wpAny _ A.in1 (seqItems? (.ref S) >>= _) _ _ s;refine wpAny_bind (wpAny_seqItems gW rfl ?_);show wpAny _ A.in1 (tryCatch (pyNext (.ref J)) _ >>= _) _ _ s;refine wpAny_bind (wpAny_tryCatch (W.item j s _ _ cH fE fun v h' cG dC Tt lh=>?_));have rN:=lh S _ Qh gW;have put:∀ oh:Heap,oh=h'.update S (yC (fun _=>#[v,v]))->St (j + 1) oh:=fun oh e=>by
   subst e;exact W.frame _ _ _ Tt fun b HX o e=>(jM _ _ (fun h:S=b=>QW (by rw [h];exact HX))).trans e
  rcases qX with ⟨h0,rfl⟩ | ⟨l3,i,aj,rfl,NH⟩
  .show wpAny _ A.in1 (updateSeq S (fun _=>#[v,v]) >>= _) _ _ _;refine wpAny_bind ?_;refine wpAny_updateSeq rN rfl ?_;rw [ya];refine wpAny_pure ⟨plainId_quiet wF _,a_ (j + 1) _ #[v,v] _ (by omega) cH (put _ rfl) (.inr ⟨v,j,rfl,rfl,by subst h0;exact dC⟩) (lS _ rN rfl) fun nG oh x6 n7 vQ=>?_⟩;exact ie nG oh x6 n7 fun b o lD nv e=>vQ b o lD nv ((jM _ _ (c7 nv)).trans (lh b o lD e))
  .subst aj;show wpAny _ A.in1 (tryCatch (holding [v,v] (richCompare .Gt v l3 >>= _)) _ >>= _) _ _ _;refine wpAny_bind (wpAny_tryCatch (wpAny_holding (wpAny_bind (VC (i + 1) (argBest pK i) v l3 _ _ _ dC NH ?_))));refine wpAny_bind (wpAny_holding (wpAny_truthy_bool ?_));refine wpAny_bind (wpAny_letGo (wpAny_pure ?_));cases ab:pK (i + 1) (argBest pK i) with
   | true=>
    simp only [if_true];refine wpAny_bind ?_;refine wpAny_updateSeq rN rfl (wpAny_bind (wpAny_letGo ?_));rw [ya];refine wpAny_pure ⟨plainId_quiet wF _,a_ (i + 1 + 1) _ #[v,v] _ (by omega) cH (put _ rfl) (.inr ⟨v,i + 1,rfl,rfl,by simp only [argBest,ab,if_true];exact dC⟩) (lS _ rN rfl) fun nG oh x6 n7 vQ=>?_⟩;exact ie nG oh x6 n7 fun b o lD nv e=>vQ b o lD nv ((jM _ _ (c7 nv)).trans (lh b o lD e))
   | false=>
    simp only [wj,if_false];refine wpAny_bind (wpAny_letGo ?_);rw [ya];refine wpAny_pure ⟨plainId_quiet wF _,a_ (i + 1 + 1) _ #[l3,l3] c (by omega) cH Tt (.inr ⟨l3,i + 1,rfl,rfl,by simp only [argBest,ab,wj,if_false];exact NH⟩) rN fun nG oh x6 n7 vQ=>?_⟩;exact ie nG oh x6 n7 fun b o lD nv e=>vQ b o lD nv (lh b o lD e)
end
section
variable {prog:Program} {w:World} {A:Around} {E:Value->Shared->Prop} {s:Shared}
theorem ajN (a d:Value):argsOk "max" ⟨[a],[(ag "default",d)]⟩:=by unfold argsOk;kernel_rfl
theorem age {l:Addr} {aI:Array Value} {kB:Value} {Q:Value->Shared->Prop} (cQ:A.handled=none) (ax:s.heap.IsList l aI) (bB:List Int) (aJ:aI.size=bB.length) (aU:∀ (i:Nat) (v:Value),aI[i]? = some v->∃ t,v=nc (bB.getD i 0) t)
  (a5:∀ v h' cG,(bB=[]/\v=kB)\/(∃ m t,bB.max? = some m/\v=.int m t)->(∀ b o,s.heap.get? b=some o->h'.get? b=some o)->Q v { s with heap:=h',toks:=cG }) :
  wpAny (model prog w) A (call (.builtin "max") [.ref l] [(ag "default",kB)]) Q E s:=by
 have ya:(toString "max" ++ toString ".loop" : String) = "max.loop" := by decide
 have cH:l < s.heap.objs.size:=by obtain ⟨_,e,_⟩:=ax;exact cW e
 refine wpAny_call (codeAny_call_builtin PySem.F.plain_max PySem.F.entry_max ?_);simp only [checkBuiltinCall,PySem.F.kind_max];have key:wpAny (model prog w) A.in1 (Builtin.«max» ⟨[.ref l],[(ag "default",kB)]⟩) (fun fin s'=>match fin with
   | .done f=>(match (Except.ok f:Result) with | .ok (.ret v)=>Q v s' | .ok _=>False | .error e=>E e s')
   | .again dT=>dT.quiet=true/\codeAny (model prog w) A dT (fun r s'=>match r with | .ok (.ret v)=>Q v s' | .ok _=>False | .error e=>E e s') s') E s:=by
  show wpAny _ A.in1 (ajj "max" ["key","default"] 0 ⟨[],[(ag "default",kB)]⟩ >>= _) _ _ s;refine wpAny_bind (wpAny_of_eq (show ajj "max" ["key","default"] 0 ⟨[],[(ag "default",kB)]⟩=pure [none,some kB] from rfl) ?_);refine wpAny_bind (wpAny_pure ?_);refine wpAny_bind (wpAny_pyIter_list ax ?_);refine wpAny_bind (wpAny_newObj_type ?_);rw [ya];have W:=aiU (prog:=prog) (w:=w) (A:=A.in1) cQ s.heap.objs.size l (eb cH) aI;have mg:(s.heap.push { cls:=.type "list_iterator",data:=.fields #[.ref l,.int 0 0] }).objs.size=s.heap.objs.size + 1:=wV ..;refine wpAny_pure ⟨plainId_quiet wF _,aiP W _ (CmpOf.ints_gt (fun i=>bB.getD i 0) fun i v h=>aU i v h) _ ?_ kB _ aI.size 0 _ #[] _ rfl (fL _) ?_ (.inl ⟨rfl,rfl⟩) (en _ rfl) fun v h' cG dC lh=>?_⟩
  .show (s.heap.push _).objs.size ∉ _;rw [mg];simp only [cX,gP,or_false,not_or];exact ⟨Sw _,c7 (eb (AJ cH))⟩
  .exact W.frame 0 (s.heap.push { cls:=.type "list_iterator",data:=.fields #[.ref l,.int 0 0] }) _ ⟨⟨_,en _ rfl,rfl,rfl⟩,ax.push _⟩ fun b _ o e=>c6 _ e
  .refine a5 v h' cG ?_ fun b o e=>lh b o (fun hm=>?_) ?_ (c6 _ (c6 _ e))
   .rcases dC with ⟨h0,af⟩ | ⟨h0,af⟩
    .exact .inl ⟨uj.mp (by omega),af⟩
    .obtain ⟨t,e⟩:=aU _ v af;have ab:=argBest_gt (fun i=>bB.getD i 0) (aI.size - 1);refine .inr ⟨_,t,?_,e⟩;rw [List.max?_eq_some_iff];have aj:argBest (fun i j=>decide (bB.getD i 0 > bB.getD j 0)) (aI.size - 1) < bB.length:=by omega
     refine ⟨?_,fun b ew=>?_⟩
     .rw [jx,cJ aj];exact zp aj
     .obtain ⟨j,bf,rfl⟩:=OL ew;have:=ab.2 j (by omega);rw [jx (i:=j),cJ bf] at this;exact this
   .rw [fQ.mp hm] at e;exact absurd (cW e) (lM _)
   .rw [mg];exact eb (AJ (cW e))
 cases afR:Manifest.signature? "max" with
 | none=>exact wpAny_pure key
 | some sig=>
  have aO:=ajN (.ref l) kB;have ah8:Bind.checkArgs "max" sig ⟨[.ref l],[(ag "default",kB)]⟩=pure ():=by simpa only [argsOk,afR] using aO
  simp only [ah8];exact wpAny_pure key
end
section
variable {X:aP}
noncomputable def SF (K:a4) (aV:d2) (fa:TE):TE:=fun σ H Q=>aV σ H fun vs H1=>fa σ H1 fun y ay=>∃ l bB,vs=[.ref l]/\aW K ay l (nf V.int bB)/\Q (match bB.max? with | some m=>.int m | none=>y) ay
theorem agH {a d:Expr} {aV:d2} {fa:TE} {p bh pos:Pos} (ar:X.calm=true) (bj:hn X "max") (hm:X.ah "max"=none) (aO:ei X [a] aV) (hd:bk X d fa)
  (he:∀ pos,backTo pos (starEach [a] X.env)=(false,eval a X.env) :: backTo pos (starEach [] X.env):=by intro _;rfl) (eE:∀ pos,(backTo pos (starEach [a] X.env)).any (·.1)=false:=by intro _;rfl) :
  bk X (.Call (.Name "max" p) [a] [⟨some "default",d,bh⟩] pos) (SF X.K aV fa):=by
 intro aa s σ H Q J h;refine wpAny_Call_Name_kw (pV J bj hm (show bootBuiltins "max"=some (.builtin "max") by ac_nf) ?_);refine callWith_kw (id := "max") (bq (aO pos aa s σ H _ J h) fun us s1 ⟨vs,H1,aK,bR,bF⟩=>?_) (he:=he pos) (hplain:=eE pos);refine kws_cons (bq (hd aa s1 σ H1 _ aK bF) fun v s2 ⟨y,ay,bl,cw,cA⟩=>kws_nil ?_);obtain ⟨l,bB,rfl,aB,q⟩:=cA;cases bR with
 | cons r i2=>
  cases i2;cases r;obtain ⟨aI,bV,pl,aD⟩:=bl.list aB;have ax:=bV.length;rw [bb] at ax;refine age (bl.ok.hd ar) pl.isList bB (by rw [eg];omega) (fun i v aU=>?_) fun nG h' cG Et aJ=>⟨_,ay,bl.kept aJ,?_,q⟩
  .rw [aeS] at aU;have aj:i < bB.length:=by have:=(cV.mp aU).1;omega
   obtain ⟨w,hw,hj⟩:=bV.get (show (bB.map V.int)[i]? = some (.int bB[i]) by rw [ec,cJ aj];rfl);rw [aU] at hw;cases hw;rw [jx,cJ aj];exact hj
  .rcases Et with ⟨rfl,rfl⟩ | ⟨m,t,hm,rfl⟩
   .exact cw
   .rw [hm];exact ⟨t,rfl⟩
end
end
section
open PySem.Spec PyProof.Rows
variable {prog:Program} {w:World} {A:Around} {E:Value->Shared->Prop} {s:Shared}
theorem QQ {it t:Addr} {i:Nat} {aI:Array Value} {Q:Value->Shared->Prop} (cQ:A.handled=none) (aj:s.heap.IsTupleIter it t i) (cR:s.heap.IsTuple t aI)
  (af:∀ x h',aI[i]? = some x->h'.IsTupleIter it t (i + 1)->qd it s.heap h'->Q x { s with heap:=h' })
  (ai:∀ h' e,aI[i]? = none->W4 it s.heap h'->(∃ o,h'.get? e=some o/\o.cls=.type "StopIteration")->E (.ref e) { s with heap:=h' }) :
  wpAny (model prog w) A (ak2 (.ref it)) Q E s:=by
 have ty:=aj.typeIs;obtain ⟨⟨g6,dv,amk,amD⟩,aw,Ug,f1⟩:=id aj;obtain ⟨⟨kZ,dE,amH,G3⟩,az,Nd,bQ,f2⟩:=id cR;simp only at Ug f1 Nd f2;subst Ug f1 Nd f2;obtain ⟨ao,g,d,cG,os⟩:=s;refine wpAny_bind (wpAny_callSpecial?_slot (name:=ag "__next__") ty ajd (wpAny_call_entry ajd ty PySem.F.entry_tuple_iterator_next ?_ (PySem.F.args_tuple_iterator_next_1 _)));unfold Builtin.«tuple_iterator.__next__»;have key:∀ y,aI[i]? = y->aI[(i:Int).toNat]? = y:=fun y z=>z
 cases ak:aI[i]? with
 | some x=>
  wp_walk
  rw [key _ ak]
  wp_walk
  refine ⟨x,rfl,wpAny_pure (af x _ ak ⟨_,lS _ aw rfl,rfl,rfl⟩ (EZ ..))⟩
 | none=>
  wp_walk
  rw [key _ ak];have acm:A.in1.handled=none:=cQ;unfold al2
  wp_walk
  exact wpAny_raiseNew_none acm (ai _ _ ak (((EZ ..).extBut.push _).push _) ⟨_,en _ rfl,rfl⟩)
theorem MA (cQ:A.handled=none) {it l:Addr} (ne:l ≠ it) (aI:Array Value):Draws prog w A it [it,l] aI.size (fun i v=>aI[i]? = some v) (fun i h=>h.IsTuple l aI/\h.IsTupleIter it l i):=by
 refine { live:=?_,frame:=?_,item:=?_,done:=?_ }
 .rintro i h bU;ac_rfl
  obtain ⟨_,o,aZ,_⟩:=bU;subst bM;exact ⟨o,aZ⟩
 .rintro i h h' ⟨a,b⟩ k;refine ⟨a.at ?_,b.at ?_⟩
  .exact k l (by simp)
  .exact k it (by simp)
 .rintro i s Q E lt ⟨a,b⟩ q;refine QQ cQ b a (fun x h' ex mW gV=>q x h' s.toks ex ⟨a.extBut gV.extBut ne,mW⟩ gV) fun h' e yJ=>?_
  rw [ae_ lt] at yJ;cases yJ
 .rintro s Q E ⟨a,b⟩ q;refine QQ cQ b a (fun x h' ex=>?_) fun h' e _=>q h' e
  rw [Sp (bu _)] at ex;cases ex
theorem adU (l:Addr) (o:Obj) (aI:Array Value) (n:Nat) (ar:o.cls=.type "tuple") (hd:o.data=.seq aI n) :
  Meets (Builtin.«enumerate.__new__» ⟨[.type "enumerate",.ref l],[]⟩) (fun _ R s=>s.heap.get? l=some o/\∀ aB,aB=(s.heap.push { cls:=.type "tuple_iterator",data:=.fields #[.ref l,.int 0 0] }) ->
   R (.ok (.ret (.ref aB.objs.size))) { s with heap:=aB.push { cls:=.type "enumerate",data:=.fields #[.none,.bool false,.ref s.heap.objs.size,rawInt 0,.none,.none] } }):=by
 refine .of_wp fun prog w A R s ⟨e,q⟩=>?_
 have T:s.heap.IsTuple l aI:=⟨o,e,ar,n,hd⟩;replace q:=q _ rfl;obtain ⟨c,d6,WU,bE⟩:=o;simp only at ar hd;subst ar hd;obtain ⟨ao,g,d,cG,os⟩:=s;have gV:=sub_enumerate;have go:∀ {A:Around} {E:Value->Shared->Prop} {Q:Value->Shared->Prop},Q (.ref ao.objs.size) ⟨ao.push { cls:=.type "tuple_iterator",data:=.fields #[.ref l,.int 0 0] },g,d,cG,os⟩->wpAny (model prog w) A (pyIter (.ref l)) Q E ⟨ao,g,d,cG,os⟩:=fun h=>wpAny_pyIter_tuple T h
 wp_walk using NF e
 refine wpAny_stack_any fun st=>wpAny_pure ?_
 generalize ab:List.drop 1 st=b;dsimp only;split
 .split
  all_goals wp_walk using NF e,go
  all_goals exact ⟨_,rfl,q⟩
 .wp_walk using NF e,go
  exact ⟨_,rfl,q⟩
theorem W3 {l:Addr} {aI:Array Value} {Q:Value->Shared->Prop} (T:s.heap.IsTuple l aI)
  (h:∀ h',IsEnum h' (s.heap.objs.size + 1) s.heap.objs.size 0 .none->h'.IsTupleIter s.heap.objs.size l 0->(∀ b o,s.heap.get? b=some o->h'.get? b=some o)->Q (.ref (s.heap.objs.size + 1)) { s with heap:=h' }) :
  wpAny (model prog w) A (call (.type "enumerate") [.ref l]) Q E s:=by
 obtain ⟨o,e,c,n,d⟩:=T;refine callType_new PySem.F.called_enumerate (by decide) (PySem.F.typeCall_enumerate_1 _) (PySem.F.newCall_enumerate_1 _) (fun obj=>PySem.F.args_object_init_2 obj _) PySem.F.entry_enumerate_new (adU l o aI n c d) ⟨e,fun aB eq=>?_⟩;have gj:aB.objs.size=s.heap.objs.size + 1:=by rw [eq];exact wV ..
 have tm:aB.get? s.heap.objs.size=some { cls:=.type "tuple_iterator",data:=.fields #[.ref l,.int 0 0] }:=by rw [eq];exact en _ rfl
 have up:∀ b o,s.heap.get? b=some o->aB.get? b=some o:=fun b o z=>by rw [eq];exact c6 _ z
 have at2:=en aB (o:={ cls:=.type "enumerate",data:=.fields #[.none,.bool false,.ref s.heap.objs.size,rawInt 0,.none,.none] }) rfl;show _/\_;rw [gj] at at2 ⊢;exact ⟨⟨_,at2,rfl⟩,h _ at2 ⟨_,c6 _ tm,rfl,rfl⟩ fun b o z=>c6 _ (up b o z)⟩
theorem aiL {l a:Addr} {aI:Array Value} {ns:List Int} {led:Bool} {Q:Value->Shared->Prop} (cQ:A.handled=none) (T:s.heap.IsTuple l aI) (aj:IntsAre aI.toList ns) (ab:aI.size + 1 < scanBound) (ah3:l ≠ a)
  (aO:s.heap.get? a=some { cls:=.type "set",dict:=none,data:=.set #[] 0 (.fresh 0 0 led) })
  (h:∀ (h':Heap) (cG:Nat),h'.SetOf (intKind prog w) a (fun k=>(firstMet (fun i=>ns.getD i 0) aI.size).any (· == k)) (firstMet (fun i=>ns.getD i 0) aI.size).length->(∀ b o,b ≠ a->s.heap.get? b=some o->h'.get? b=some o)->Q .none { s with heap:=h',toks:=cG }) :
  codeAny (model prog w) A (.call (.builtin "set.__init__") ⟨[.ref a,.ref l],[]⟩) (wants Q E) s:=by
 refine codeAny_call_builtin afT.init.plain PySem.F.entry_set_init (check_set_init_1 ⟨_,aO,rfl⟩ ?_);have lt:l < s.heap.objs.size:=by obtain ⟨o,e,_⟩:=T;exact cW e
 have W':=cW aO;obtain ⟨⟨c,d6,WU,bE⟩,e,ar,n,hd⟩:=id T;simp only at ar hd;subst ar hd;obtain ⟨ao,g,d,cG,os⟩:=s;have s0:(wb "tuple" == wb "dict")=false:=by decide
 have s1:isSubtype (.type "tuple") (.type "set")=pure false:=by rw [isSubtype_type];kernel_rfl
 have s2:isSubtype (.type "tuple") (.type "frozenset")=pure false:=by rw [isSubtype_type];kernel_rfl
 have go:∀ {A:Around} {E:Value->Shared->Prop} {Q:Value->Shared->Prop},Q (.ref ao.objs.size) ⟨ao.push { cls:=.type "tuple_iterator",data:=.fields #[.ref l,.int 0 0] },g,d,cG,os⟩->wpAny (model prog w) A (pyIter (.ref l)) Q E ⟨ao,g,d,cG,os⟩:=fun h=>wpAny_pyIter_tuple T h
 have iw:A.in1.in1.handled=none:=by simp [cQ]
 have nl:l ≠ ao.objs.size:=eb lt;have aeZ:a ∉ [ao.objs.size,l]:=by
  simp only [cX,gP,or_false,not_or];exact ⟨eb W',c7 ah3⟩
 unfold Builtin.«set.__init__» noKeywords alS
 wp_walk using go
 refine codeAny_set_update_loopS ((Walks.tuple iw _ l nl aI).toS) _ aeZ (fun i=>ns.getD i 0) (fun i v z=>aj.int_at i v (by rw [Rp];exact z)) ab _ 0 _ rfl (fL _) ⟨⟨_,en _ rfl,rfl,rfl⟩,T.push _⟩ ?_ fun s' m rE=>?_
 .refine SetOf_congr ((setObjOf_fresh (knd:=intKind prog w) led).setOf (c6 _ aO) (by unfold scanBound;omega)) (fun _=>rfl) rfl
 .obtain ⟨h',g',d',SG,KA⟩:=s';obtain rfl:g'=g:=m.gens;obtain rfl:d'=d:=m.drawn;obtain rfl:KA=os:=m.os;refine wpAny_pure (wpAny_pure (h h' SG rE fun b o nb z=>m.heap b o ?_ (c6 _ z)));simp only [cX,gP,or_false,not_or];exact ⟨nb,eb (cW z)⟩
theorem ahy {l:Addr} {aI:Array Value} {ns:List Int} {Q:Value->Shared->Prop} (cQ:A.handled=none) (T:s.heap.IsTuple l aI) (aj:IntsAre aI.toList ns) (ab:aI.size + 1 < scanBound)
  (h:∀ (h':Heap) (cG:Nat),h'.SetOf (intKind prog w) s.heap.objs.size (fun k=>(firstMet (fun i=>ns.getD i 0) aI.size).any (· == k)) (firstMet (fun i=>ns.getD i 0) aI.size).length->(∀ b o,s.heap.get? b=some o->h'.get? b=some o)->Q (.ref s.heap.objs.size) { s with heap:=h',toks:=cG }) :
  wpAny (model prog w) A (call (.type "set") [.ref l]) Q E s:=by
 have lt:l < s.heap.objs.size:=by obtain ⟨o,e,_⟩:=T;exact cW e
 have rH:=afT;have f0:=PySem.F.typeCall_set_1 (.ref l);have f1:=rH.made;have f2:=rH.sub;have d3:=rH.notType;have f4:=rH.canCreate;have el:=rH.init.lookup;obtain ⟨NO,mt,vh⟩:=rH.mro;refine wpAny_call (codeAny_of_tree (wpAny_pure ⟨Qu _ (by ac_nf),codeAny_builtin PySem.F.entry_type_call ?_⟩));rw [Around.under_plain (weight_type_call_type _ _ _) rfl]
 wp_walk
 refine codeAny_mono (code_set_new_1 (.ref l) (E:=E) (Q₁:=fun o s1=>∃ led:Bool,o=.ref s.heap.objs.size/\s1 = { s with heap:=s.heap.push { cls:=.type "set",dict:=none,data:=.set #[] 0 (.fresh 0 0 led) } }) fun led=>⟨led,rfl,rfl⟩) ?_;rintro (yn | (_ | _ | _ | v)) s1 z
 .exact z
 .exact z.elim
 .exact z.elim
 .exact z.elim
 obtain ⟨led,rfl,rfl⟩:=z;have A2:(s.heap.push { cls:=.type "set",dict:=none,data:=.set #[] 0 (.fresh 0 0 led) }).get? s.heap.objs.size=some { cls:=.type "set",dict:=none,data:=.set #[] 0 (.fresh 0 0 led) }:=en _ rfl;have qw:=rH.init.bind (.ref s.heap.objs.size);have ty:DF { s with heap:=s.heap.push { cls:=.type "set",dict:=none,data:=.set #[] 0 (.fresh 0 0 led) } } (.ref s.heap.objs.size) "set" := ⟨_,A2,rfl⟩
 wp_walk
 refine codeAny_mono (aiL (E:=E) (Q:=fun v s2=>v=.none/\Q (.ref s.heap.objs.size) s2) (show A.in1.handled=none by simp [cQ]) (T.push _) aj ab (eb lt) A2 fun h' cG rE k=>⟨rfl,h h' cG rE fun b o z=>k b o (eb (cW z)) (c6 _ z)⟩) ?_;rintro (yn | (_ | _ | _ | v)) s2 z
 .exact z
 .exact z.elim
 .exact z.elim
 .exact z.elim
 obtain ⟨rfl,z⟩:=z;exact wpAny_pure (wpAny_pure z)
end
section
open PySem.Spec PyProof.Rows
noncomputable def Qx (K:a4) (a:Addr):hJ:=
 ⟨fun i H=>∃ xs x,bY K H a xs/\xs[i]? = some x,fun i H v I=>∃ p y,H p=none/\v=.ref p/\(∀ xs,bY K H a xs->xs[i]? = some y)/\I=upd H p (.tup [.int i,y]),fun i H=>∃ xs,bY K H a xs/\xs.length=i⟩
theorem adH {P:Program} {w:World} {K:a4} {aF:List Expr} {k} {pos:Pos} (a e it:Addr) (cf:e ≠ it) (V6:e ≠ a) (qE:a ≠ it) :
  l6 P w K (.Tuple aF k pos) (Qx K a) [e,it] e (fun i h=>∃ old,IsEnum h e it ((i:Nat):Int) old/\h.IsTupleIter it a i) where
 mem:=by simp
 obj:=fun i h ⟨old,he,aj⟩ b ab=>by
  simp only [cX,gP,or_false] at ab;rcases ab with rfl | rfl
  .exact ⟨_,he,fun v z=>by
    have dk:H6 _=yw v:=z;cases dk⟩
  .obtain ⟨o,q,c,d⟩:=aj;exact ⟨o,q,fun v z=>by rw [d] at z;cases z⟩
 keep:=fun i h h' ⟨old,he,aj⟩ k=>⟨old,k e (by simp) _ he,aj.at fun o q=>k it (by simp) o q⟩
 item:=by
  intro X dC hw d0 ar i aa s σ H E J hf ⟨old,he,aj⟩ bj;subst dC hw d0;obtain ⟨xs,x,aB,ak⟩:=bj;obtain ⟨aI,bV,p,aD⟩:=J.tuple aB;obtain ⟨u,ba,dD⟩:=bV.get ak;have cH:i < aI.toArray.size:=by
   rw [eg];exact (cV.mp ba).1
  refine wpAny_pyNext_enum_itemD (MA (A:=X.A.in1) (it:=it) (J.ok.hd ar) qE aI.toArray) he ⟨p,aj⟩ cH cf (by simp [cf,V6]) fun y af cG aT qx tH F5 mg Hy=>⟨_,rfl,?_⟩
  obtain rfl:y=u:=by
   rw [aeS,ba] at aT;exact (dj aT).symm
  refine wpAny_letOwnedTupleGo_enum qx fun ai KH fN=>?_
  replace fN:qd e af ai:=fN;have xO:e < s.heap.objs.size:=cW he;have aJ:∀ b o,b ∉ [e,it]->s.heap.get? b=some o->ai.get? b=some o:=fun b o ab q=>by
   simp only [cX,gP,or_false,not_or] at ab;exact fN.extBut _ _ ab.1 (Hy b o ab.1 ab.2 q)
  have aK:Inv X aa σ H { s with heap:=ai,toks:=cG + 1 }:=J.t7 aJ hf;have dP:gm X aa H s.heap.objs.size:=J.jc (bu _) (J.a6.fresh (bu _));have qo:ai.get? s.heap.objs.size=some { cls:=.type "tuple",data:=.seq #[.int i cG,y] }:=(fN.2 _ (sU xO)).trans F5;have bl:=aK.adopt (o:=.tup [.int i,x]) dP ⟨⟨by show 2 <= sizeLine;decide,_,qo,rfl⟩,[.int i cG,y],.cons ⟨_,rfl⟩ (.cons dD .nil),⟨_,qo,rfl,_,rfl⟩⟩;refine ⟨.ref s.heap.objs.size,_,bl,rfl,⟨_,x,dP.1,rfl,fun ys aT=>by rw [J.Ua aT aB];exact ak,rfl⟩,⟨y,?_,?_⟩,fun b ab=>?_⟩
  .have aw:((i + 1:Nat):Int)=(i:Int) + 1:=by omega
   rw [aw];exact KH
  .exact tH.2.extBut fN.extBut (c7 cf)
  .have cH:b < s.heap.objs.size:=by
    simp only [cX,gP,or_false] at ab;rcases ab with rfl | rfl
    .exact xO
    .obtain ⟨o,q,_⟩:=aj;exact cW q
   rw [aX (eb cH)];exact (hf b ab).1
 done:=by
  intro X dC hw d0 ar i aa s σ H E J hf ⟨old,he,aj⟩ bj;subst dC hw d0;obtain ⟨xs,aB,ak⟩:=bj;obtain ⟨aI,bV,p,aD⟩:=J.tuple aB;have ax:=bV.length;obtain rfl:i=aI.toArray.size:=by rw [eg];omega
  exact wpAny_pyNext_enum_endD (MA (A:=X.A.in1) (it:=it) (J.ok.hd ar) qE aI.toArray) he ⟨p,aj⟩ fun h' ef=>⟨rfl,J.t7 (t':=s.toks) (fun b o ab q=>ef b o (fun z=>ab (by simp [z])) q) hf⟩
 self:=fun _ _ _ _ _ ⟨_,he,_⟩ h=>wpAny_pyIter_enum he h
variable {X:aP}
noncomputable def OS (K:a4) (aV:d2):TI:=fun σ H R=>aV σ H fun vs H1=>∃ a,vs=[.ref a]/\(∃ xs,bY K H1 a xs)/\R (Qx K a) H1
theorem afy {aF:List Expr} {k} {rt:Pos} {a:Expr} {aV:d2} {p pos:Pos} (bj:hn X "enumerate") (hm:X.ah "enumerate"=none) (aO:ei X [a] aV) (aG:starEach [a] X.env=[(false,eval a X.env)]:=by rfl) :
  kA X (.Tuple aF k rt) (.Call (.Name "enumerate" p) [a] [] pos) (OS X.K aV):=by
 intro aa s σ H R J h;refine Call_ (pV J bj hm L2.Do (v' (bq (aO pos aa s σ H _ J h) fun us s1 ⟨vs,H1,aK,bR,bF⟩=>?_) aG rfl));obtain ⟨a,e,⟨xs,aB⟩,q⟩:=bF;subst e;cases bR with
 | cons r i2=>
  cases i2;cases r;obtain ⟨aI,bV,pl,aD⟩:=aK.tuple aB;have ky:a < s1.heap.objs.size:=by obtain ⟨_,e,_⟩:=pl;exact cW e
  refine W3 pl fun h' iv rz aJ=>wpAny_pyIter_enum iv ?_
  refine ⟨s1.heap.objs.size + 1,[s1.heap.objs.size + 1,s1.heap.objs.size],_,_,H1,rfl,aK.kept (t':=s1.toks) aJ,adH a _ _ (Sw _) (sU (AJ ky)) (eb ky),⟨_,iv,rz⟩,fun b ab=>?_,q⟩;have ew:s1.heap.objs.size <= b:=by
   simp only [cX,gP,or_false] at ab;rcases ab with rfl | rfl
   .exact vb _
   .exact bu _
  exact aK.jc ew (aK.a6.fresh ew)
end
section
open PySem.Spec PyProof.Rows
theorem agw {ns:List Int}:∀ {σ:List Int},(ns.foldl step_dedup σ).length=σ.length + ns.length↔ns.Nodup/\∀ x ∈ ns,x ∉ σ:=by
 induction ns with
 | nil=>intro σ;simp
 | cons x ns a_=>
  intro σ;rw [aal,show step_dedup σ x=if σ.any (· == x) then σ else σ ++ [x] from rfl];by_cases ak:x ∈ σ
  .rw [if_pos (by simpa using ak)];have:=foldl_step_dedup_length_le σ ns;constructor
   .intro h;rw [dr] at h;omega
   .intro h;exact absurd ak (h.2 x (hH ..))
  .rw [if_neg (by simpa using ak)];have e:=@a_ (σ ++ [x]);rw [dq,v_] at e;rw [dr,show σ.length + (ns.length + 1)=σ.length + 1 + ns.length by omega,iM];refine e.trans ⟨fun h=>⟨⟨fun hm=>h.2 x hm (by simp),h.1⟩,fun y aT=>?_⟩,fun h=>⟨h.1.2,fun y aT hm=>?_⟩⟩
   .rcases cX.mp aT with rfl | aT
    .exact ak
    .exact fun z=>h.2 y aT (by simp [z])
   .rcases hB.mp hm with z | z
    .exact h.2 y (fk _ aT) z
    .rw [fQ.mp z] at aT;exact h.1.1 aT
theorem adR (ns:List Int):(firstMet (fun i=>ns.getD i 0) ns.length).length < ns.length↔¬ ns.Nodup:=by
 have e:firstMet (fun i=>ns.getD i 0) ns.length=ns.foldl step_dedup []:=by
  unfold firstMet;congr 1;refine Np fun i=>?_
  rw [ec];by_cases aj:i < ns.length
  .rw [AP aj];show some (ns.getD i 0)=_;rw [jx,cJ aj];rfl
  .rw [xV (by simpa using aj),xV (by omega)];rfl
 have af:=@agw ns [];have ai:=foldl_step_dedup_length_le [] ns;rw [e];simp only [u5,Ls,gP,not_false_eq_true,implies_true,and_true] at af ai;rw [<- af];omega
variable {prog:Program} {w:World} {A:Around} {E:Value->Shared->Prop} {s:Shared}
theorem WD {α:Type} {f:α->Int} {c:Int} {l:List α} (h:(l.map f).Nodup):(l.filter fun x=>f x == c).length <= 1:=by
 induction l with
 | nil=>simp
 | cons x l a_=>
  rw [dR,iM] at h;rw [uQ];split
  .rename_i ak;have kh:f x=c:=by simpa using ak
   rw [List.filter_eq_nil_iff.mpr (fun y aT z=>h.1 (by rw [kh,<- (show f y=c by simpa using z)];exact Ex aT))];exact bu _
  .exact a_ h.2
theorem aee {a:Addr} {o:Obj} {aF:Array DictEntry} {b5:Nat} {Q:Value->Shared->Prop} (aO:(a == sysModules)=false) (r:o2 s.heap a o aF b5) (aJ:∀ e ∈ aF,∃ b,e.key=.ref b/\s.TypeIs (.ref b) "tuple") (cQ:(aF.toList.map (·.hash)).Nodup) (aD:aF.size <= sizeLine)
  (h:∀ h' cM rK,h'.get? s.heap.objs.size=some cM->cM.ExactDict->cM.data=.dict aF rK->(∀ b q,s.heap.get? b=some q->h'.get? b=some q)->Q (.ref s.heap.objs.size) { s with heap:=h' }) :
  wpAny (model prog w) A (call (.type "dict") [.ref a]) Q E s:=by
 refine callType_codes (Q₁:=fun obj cN=>obj=.ref s.heap.objs.size/\cN = { s with heap:=s.heap.push { cls:=.type "dict",data:=.dict #[] } }) PySem.F.kt_called_dict (PySem.F.kt_typeCall_dict_1 _) PySem.F.entry_dict_init (kt_code_dict_new _ ⟨rfl,rfl⟩) ?_;rintro obj cN ⟨rfl,rfl⟩;have aH:(s.heap.push { cls:=.type "dict",data:=.dict #[] }).get? s.heap.objs.size=some { cls:=.type "dict",data:=.dict #[] }:=en _ rfl;have aZ:(s.heap.push { cls:=.type "dict",data:=.dict #[] }).get? a=some o:=c6 _ r.at_;have du:DF { s with heap:=s.heap.push { cls:=.type "dict",data:=.dict #[] } } (.ref s.heap.objs.size) "dict" := ⟨_,aH,rfl⟩;have to:DF { s with heap:=s.heap.push { cls:=.type "dict",data:=.dict #[] } } (.ref a) "dict" := ⟨_,aZ,r.ex.1⟩;have cf:s.heap.objs.size ≠ a:=fun e=>absurd (cW r.at_) (by rw [e];exact lM _)
 refine ⟨du,PySem.F.args_dict_init_2 _ _,?_⟩;unfold Builtin.«dict.__init__»;refine wpAny_bind ?_;unfold akZ;refine wpAny_bind (wpAny_notOrdered_dict du ?_);show wpAny _ _ (pure (s.heap.objs.size,[de a])) _ _ _;refine wpAny_pure ?_;show wpAny _ _ (XW "dict.__init__" s.heap.objs.size (.ref a) [] .none) _ _ _;unfold XW;refine wpAny_bind (wpAny_typeOf to ?_);rw [if_neg (by decide)];refine wpAny_bind ?_;unfold alA;refine wpAny_bind ?_;unfold ak';refine wpAny_bind (wpAny_isInstance to isSubtype_dict_dict ?_);simp only [aaa,wj,if_false];refine wpAny_bind (wpAny_specialOf to T2.lookup (wpAny_pure ?_));simp only [beq_self_eq_true,if_true];refine wpAny_bind (wpAny_pure ?_);unfold ak9;rw [if_neg (by simpa using cf)];unfold NP;rw [if_neg (by rw [aO];exact fh)];refine wpAny_bind (wpAny_pure (wpAny_bind (wpAny_dictEntries aZ r.dat ?_)));by_cases he:aF=#[]
 .subst he;dsimp only;rw [if_neg (by simp)];refine wpAny_bind (wpAny_dictEpoch aZ r.dat (wpAny_bind (wpAny_dictEntries aZ r.dat (wpAny_bind ?_))));rw [alY];refine wpAny_pure (wpAny_pure ?_);exact wpAny_bind (wpAny_pure (wpAny_pure ⟨rfl,h _ _ _ aH ⟨rfl,rfl,rfl⟩ rfl fun b q e=>c6 _ e⟩))
 .have hf:(decide (aF.size <= 8) && aF.all fun e=>(keyPart e.key).isSome)=false:=by
   rw [Bool.and_eq_false_iff];refine .inr (QG.mpr fun z=>?_);rw [Array.all_eq_true_iff_forall_mem] at z;have h0:0 < aF.size:=Nat.pos_of_ne_zero fun q=>he (UU q)
   obtain ⟨b,ab,_⟩:=aJ _ (afj h0);have:=z _ (afj h0);rw [ab] at this;cases this
  dsimp only;rw [hf,if_pos (show (!false)=true from rfl)];refine wpAny_bind (wpAny_dictEntries aH rfl ?_);rw [if_pos (show Array.isEmpty (#[]:Array DictEntry)=true from rfl)];refine wpAny_bind ?_;unfold alg;refine wpAny_bind (wpAny_dictEntries aZ r.dat (wpAny_bind ?_));rw [<- Array.forIn_toList];refine wpAny_forIn_list _ (fun rest _ s'=>s' = { s with heap:=s.heap.push { cls:=.type "dict",data:=.dict #[] } }/\∀ e ∈ rest,e ∈ aF) _ ?_ ?_ _ _ ⟨rfl,fun e he=>Kz.mp he⟩
  .rintro e rest u s' ⟨rfl,hm⟩;obtain ⟨b,ab,b2,af_,An⟩:=aJ e (hm e (hH ..));have ct:DF { s with heap:=s.heap.push { cls:=.type "dict",data:=.dict #[] } } (.ref b) "tuple" := ⟨b2,c6 _ af_,An⟩;unfold akI;rw [ab];refine wpAny_bind (wpAny_bind (wpAny_specialOf ct PySem.F.slot_tuple_eq.lookup (wpAny_pure ?_)));rw [if_pos (by ac_nf),if_neg (Nat.not_lt.mpr ?_)]
   .exact wpAny_pure ⟨rfl,fun e he=>hm e (fk _ he)⟩
   .rw [<- zP,Array.toList_filter];exact WD cQ
  .rintro u s' ⟨rfl,_⟩;refine wpAny_pure ?_;rw [if_pos (by simp [he])];refine wpAny_bind (wpAny_updateDictKeysTo aH rfl (wpAny_pure ?_) (by omega));refine wpAny_bind (wpAny_pure (wpAny_pure ⟨rfl,?_⟩));refine h _ _ _ (lS _ aH (Obj.isFreed_of_dict (X3 rfl _))) ((show Obj.ExactDict { cls:=.type "dict",data:=.dict #[] } from ⟨rfl,rfl,rfl⟩).mapDictKeys _) (X3 rfl _) fun b q e=>?_
   exact (jM _ _ (fun z=>absurd (cW e) (by rw [<- z];exact lM _))).trans (c6 _ e)
end
section
open PySem.Spec PyProof.Rows
variable {X:aP}
noncomputable def Gi (P:Program) (w:World) (k:List Key):Int:=(tupleKind (ig P w)).hash k
theorem aeE (ar:X.calm=true):jK X (.type "set") (fun xs H Q=>∃ r ns,xs=[.ref r]/\H r=some (.tup (nf V.int ns))/\ns.length <= 1000/\∀ p S n,(n < ns.length↔¬ ns.Nodup)->n <= 1000->H p=none->Q (.ref p) (upd H p (.set S n))):=by
 intro aa s σ H xs us Q J r h;obtain ⟨t,ns,rfl,CI,ax,q⟩:=h;obtain ⟨u,rfl,dD⟩:=Op r;cases dD;obtain ⟨aI,bV,pl,aD⟩:=J.tuple (bY.of CI);have aj:=agr bV;have hlen:=aj.length;have ab:aI.toArray.size=ns.length:=by rw [eg,hlen]
 refine ahy (J.ok.hd ar) pl (by simpa using aj) (by rw [ab];show ns.length + 1 < 4096;omega) fun h' cG gW aJ=>?_
 rw [ab] at gW;refine ⟨.ref s.heap.objs.size,_,J.laid (a:=s.heap.objs.size) (o:=.set _ _) (t':=cG) aJ (bu _) gW,rfl,q _ _ _ (adR ns) (b8 (firstMet_length_le _ _) ax) (J.a6.fresh (bu _))⟩
theorem ZQ:bootBuiltins "set"=some (.type "set"):=by ac_nf
theorem aar:jK X (.builtin "len") (fun xs H Q=>∃ p S n,xs=[.ref p]/\H p=some (.set S n)/\n <= 1000/\Q (.int (n:Nat)) H):=by
 intro aa s σ H xs us Q J r h;obtain ⟨p,S,n,rfl,e,aH,q⟩:=h;obtain ⟨u,rfl,dD⟩:=Op r;cases dD;obtain ⟨o,aF,b5,t,af,ai,br,_,_,_,cm,gK⟩:=(show s.heap.SetOf (intKind X.prog X.w) p S n from J.a6 p _ e);refine call_len_set af ai br cm (by omega) ⟨.int (n:Nat),H,J.tok _,⟨_,by rw [gK]⟩,q⟩
theorem Wz {R:(List Key × V)->(List Key × Addr × Value)->Prop} {aE:List (List Key × V)} {xs:List (List Key × Addr × Value)} (h:Paired (fun p q=>p.1=q.1/\R p q) aE xs) (f:List Key->Int):(aE.map fun p=>f p.1)=xs.map fun x=>f x.1:=by
 induction h with
 | nil=>rfl
 | cons z _ a_=>rw [dR,dR,a_,z.1]
theorem Yi:jK X (.type "dict") (fun xs H Q=>∃ d aE,xs=[.ref d]/\gg X.prog X.w H d aE/\(aE.map fun p=>Gi X.prog X.w p.1).Nodup/\∀ p o,H p=none->gg X.prog X.w (upd H p (.ext (hs p o))) p aE->Q (.ref p) (upd H p (.ext (hs p o)))):=by
 intro aa s σ H xs us Q J r h;obtain ⟨d,aE,rfl,⟨o,aF,b5,xs,D⟩,aH,q⟩:=h;obtain ⟨u,rfl,dD⟩:=Op r;cases dD;have hlen:=Ps D.bB;have hsz:aF.size=xs.length:=size_of_entries D.ent;refine aee D.ns (A5 J.a6 D) (fun e he=>?_) ?_ (by have:=D.gj;omega) fun h' cM rK g1 g2 g3 ke=>?_
 .obtain ⟨x,ak,rfl⟩:=da.mp (D.ent ▸ Kz.mpr he);obtain ⟨i,aj⟩:=q1 ak;have jk:i < aE.length:=by rw [hlen];exact (cV.mp aj).1
  obtain ⟨y,aT,z⟩:=NM D.bB (cJ jk);rw [aj] at aT;cases aT;obtain ⟨b2,aI,n,af,ai,_⟩:=rg J.a6 z.2.1;exact ⟨x.2.1,rfl,b2,af,ai⟩
 .rw [D.ent,jC];rw [Wz D.bB (fun k=>Gi X.prog X.w k)] at aH;exact aH
 .have ao:H s.heap.objs.size=none:=J.a6.fresh (bu _);have n4:aN H (upd H s.heap.objs.size (.ext (hs s.heap.objs.size cM))):=a0 ao;refine ⟨.ref s.heap.objs.size,_,J.laid (a:=s.heap.objs.size) (o:=.ext (hs s.heap.objs.size cM)) (t':=s.toks) ke (bu _) ⟨g1,⟨cM,g1⟩,fun _ _ q k=>k cM q⟩,rfl,q _ _ ao ⟨cM,aF,rK,xs,aS,g2,g3,D.ent,D.aC,Paired.pf D.bB fun p q z=>⟨z.1,n4 _ _ z.2.1,z.2.2⟩,D.gj,beq_eq_false_iff_ne.mpr (c7 (eb J.big))⟩⟩
end
noncomputable def Cq (p:Nat × Nat):Int:=reduceHash (al1 [hashInt (p.1:Int),hashInt (p.2:Int)])
noncomputable def Mo:List (Nat × Nat):=(dW 6).flatMap fun i=>(dW 6).map fun j=>(i,j)
theorem abp:(Mo.map Cq).Nodup:=by ac_nf
theorem Pq {p:Nat × Nat} (af:p.1 < 6) (ai:p.2 < 6):p ∈ Mo:=qn.mpr ⟨p.1,hZ.mpr af,da.mpr ⟨p.2,hZ.mpr ai,rfl⟩⟩
theorem abc {α:Type} {f:α->Int} {l:List α} (h:(l.map f).Nodup):∀ x ∈ l,∀ y ∈ l,f x=f y->x=y:=by
 induction l with
 | nil=>intro x ak;cases ak
 | cons a l a_=>
  rw [dR,iM] at h;intro x ak y aT e;rcases cX.mp ak with ak | ak <;> rcases cX.mp aT with aT | aT
  .rw [ak,aT]
  .rw [ak] at e;exact absurd (e ▸ Ex aT) h.1
  .rw [aT] at e;exact absurd (e ▸ Ex ak) h.1
  .exact a_ h.2 x ak y aT e
seal L2.ei L2.bk L2.e2 L2.f_ L2.hi L2.gr
structure Sys where
 m:Nat
 e:Nat->Nat->Bool
 st:Nat->Nat->Int
 al:Nat->Int
structure Sys.Ok (S:Sys):Prop where
 lt:∀ {i j},S.e i j=true->i < S.m/\j < S.m/\i ≠ j
 ph:∀ {i j},S.e i j=true->S.e j i=true
 s1:∀ {i j},S.e i j=true->1 <= S.st i j
 a1:∀ {i},i < S.m->1 <= S.al i
noncomputable abbrev dn:=List (Nat × Nat)
noncomputable def dm (o:dn) (i j:Nat):Bool:=decide ((i,j) ∈ o) || decide ((j,i) ∈ o)
noncomputable def iB (S:Sys) (z:Int) (o:dn) (i j:Nat):Int:=if (j,i) ∈ o then S.st i j - z else S.st i j
noncomputable def fP (S:Sys) (z:Int) (o:dn):List Nat->Int
 | []=>0
 | [_]=>0
 | x :: y :: r=>iB S z o x y + fP S z o (y :: r)
noncomputable def hz (o:dn):List Nat->Bool
 | []=>true
 | [_]=>true
 | x :: y :: r=>dm o x y && hz o (y :: r)
noncomputable def i7 (S:Sys) (z:Int) (o:dn) (r:List Nat):Bool:=decide (2 <= r.length) && decide r.Nodup && hz o (r ++ r.take 1) && decide (0 < fP S z o (r ++ r.take 1))
inductive oI where
 | alone (k:Nat)
 | ring (r:List Nat)
 | case (i j:Nat) (p q:oI)
noncomputable def bn (S:Sys) (z:Int) (o:dn):oI->Bool
 | .alone k=>decide (z < S.al k)
 | .ring r=>i7 S z o r
 | .case i j p q=>S.e i j && !dm o i j && bn S z (o ++ [(i,j)]) p && bn S z (o ++ [(j,i)]) q
noncomputable def tj (m:Nat):Nat->oI->Prop
 | _,.alone k=>k < m
 | _,.ring r=>∀ k ∈ r,k < m
 | 0,.case _ _ _ _=>False
 | d + 1,.case i j p q=>i < m/\j < m/\tj m d p/\tj m d q
def dQ (S:Sys) (z:Int) (b:Nat->Int):Prop:=(∀ k,k < S.m->S.al k <= z)/\∀ i j,S.e i j=true->S.st i j <= (b j - b i) % z
noncomputable def gw (z:Int) (b:Nat->Int) (i:Nat):Int:=(b i - b 0) % z
def q_ (S:Sys) (z:Int) (b:Nat->Int) (o:dn):Prop:=∀ q ∈ o,S.e q.1 q.2=true/\gw z b q.1 < gw z b q.2
section
variable {S:Sys} {z:Int} {b:Nat->Int} {o:dn}
theorem wZ (aD:0 < z) (i:Nat):0 <= gw z b i/\gw z b i < z:=⟨pd _ (by omega),sP _ aD⟩
theorem AN (i j:Nat):(b j - b i) % z=(gw z b j - gw z b i) % z:=by
 unfold gw;rw [show b j - b i=(b j - b 0) - (b i - b 0) by omega,PA]
theorem zK {x y:Int} (h:x <= y) (ak:0 <= x) (aT:y < z):(y - x) % z=y - x:=pL (by omega) (by omega)
theorem AK {x y:Int} (h:y < x) (ak:x < z) (aT:0 <= y):(y - x) % z=y - x + z:=by
 rw [<- Tf];exact pL (by omega) (by omega)
theorem dQ.ne (k:S.Ok) (D:dQ S z b) {i j:Nat} (h:S.e i j=true):gw z b i ≠ gw z b j:=fun q=>by
 have af:=D.2 i j h;have ai:=k.s1 h;rw [AN,q,Ry,M7] at af;omega
theorem dQ.step (k:S.Ok) (aD:0 < z) (D:dQ S z b) (C:q_ S z b o) {i j:Nat} (h:dm o i j=true):iB S z o i j <= gw z b j - gw z b i:=by
 have bR:=wZ (b:=b) aD i;have cw:=wZ (b:=b) aD j;unfold iB;split
 .rename_i hm;obtain ⟨e,l⟩:S.e j i=true/\gw z b j < gw z b i:=C _ hm;have:=D.2 i j (k.ph e);rw [AN,AK l bR.2 cw.1] at this;omega
 .rename_i hm;have H2:(i,j) ∈ o:=by simpa [dm,hm] using h
  obtain ⟨e,l⟩:S.e i j=true/\gw z b i < gw z b j:=C _ H2;have:=D.2 i j e;rw [AN,zK (Int.le_of_lt l) bR.1 cw.2] at this;exact this
theorem dQ.path (k:S.Ok) (aD:0 < z) (D:dQ S z b) (C:q_ S z b o):∀ (r:List Nat) (x y:Nat),hz o (x :: r ++ [y])=true->fP S z o (x :: r ++ [y]) <= gw z b y - gw z b x:=by
 intro r
 induction r with
 | nil=>
  intro x y h;have h':dm o x y=true:=by simpa [hz] using h
  have:=D.step k aD C h';show iB S z o x y + 0 <= _;omega
 | cons u r a_=>
  intro x y h;have h':dm o x u=true/\hz o (u :: r ++ [y])=true:=by simpa [hz] using h
  have af:=D.step k aD C h'.1;have ai:=a_ u y h'.2;show iB S z o x u + fP S z o (u :: r ++ [y]) <= _;omega
theorem dQ.aeI (k:S.Ok) (aD:0 < z) (D:dQ S z b) (C:q_ S z b o) (r:List Nat):i7 S z o r=false:=by
 rw [QG];intro h;cases r with
 | nil=>simp [i7] at h
 | cons x r=>
  unfold i7 at h;simp only [iQ,decide_eq_true_eq] at h;have:=D.path k aD C r x x h.1.2;have ai:=h.2;rw [show (x :: r) ++ (x :: r).take 1=x :: r ++ [x] from rfl] at ai;omega
theorem dQ.cons (C:q_ S z b o) {i j:Nat} (h:S.e i j=true) (ax:gw z b i < gw z b j):q_ S z b (o ++ [(i,j)]):=fun q aB=>by
 rcases hB.mp aB with aB | aB
 .exact C q aB
 .rw [fQ.mp aB];exact ⟨h,ax⟩
theorem dQ.sound (k:S.Ok) (aD:0 < z) (D:dQ S z b) (aJ:∀ i,S.m <= i->S.al i <= z):∀ (p:oI) (o:dn),q_ S z b o->bn S z o p=false:=by
 intro p
 induction p with
 | alone i=>
  intro o _;have:S.al i <= z:=by
   by_cases h:i < S.m
   .exact D.1 i h
   .exact aJ i (by omega)
  simp [bn];omega
 | ring r=>exact fun o C=>D.aeI k aD C r
 | case i j p q Gs Dq=>
  intro o C;unfold bn;cases he:S.e i j with
  | false=>rfl
  | true=>
   rcases Int.lt_or_lt_of_ne (D.ne k he) with h | h
   .rw [Gs _ (dQ.cons C he h),A3,tR]
   .rw [Dq _ (dQ.cons C (k.ph he) h),A3]
noncomputable def km (S:Sys):Nat->dn
 | 0=>[]
 | k + 1=>km S k ++ (if S.e 0 (k + 1) then [(0,k + 1)] else [])
noncomputable def i5 (S:Sys):dn:=km S (S.m - 1)
theorem On {k:Nat} {q:Nat × Nat} (h:q ∈ km S k):q.1=0/\0 < q.2/\q.2 <= k/\S.e 0 q.2=true:=by
 induction k with
 | zero=>cases h
 | succ k a_=>
  unfold km at h;rcases hB.mp h with h | h
  .have:=a_ h;exact ⟨this.1,this.2.1,by omega,this.2.2.2⟩
  .split at h
   .rename_i he;rw [fQ.mp h];exact ⟨rfl,Nat.succ_pos _,bu _,he⟩
   .cases h
theorem aef:∀ k,(km S k).Nodup:=by
 intro k
 induction k with
 | zero=>exact zM
 | succ k a_=>
  unfold km;split
  .rw [JF];refine ⟨a_,by simp,fun x ak y aT e=>?_⟩;have:=On ak;rw [fQ.mp aT] at e;rw [e] at this;omega
  .simpa using a_
theorem dQ.ad6 (k:S.Ok) (aD:0 < z) (D:dQ S z b):q_ S z b (i5 S):=fun q aB=>by
 obtain ⟨af,ai,br,cm⟩:=On aB;rw [af];refine ⟨cm,?_⟩;have aH:=D.ne k cm;have h0:gw z b 0=0:=by unfold gw;rw [Ry,M7]
 have:=wZ (b:=b) aD q.2;omega
theorem dQ.more (aD:0 < z) (D:dQ S z b) {y:Int} (h:z <= y):dQ S y (gw z b):=by
 refine ⟨fun i aj=>oe (D.1 i aj) h,fun i j e=>?_⟩;have bR:=wZ (b:=b) aD i;have cw:=wZ (b:=b) aD j;have:=D.2 i j e;rw [AN] at this;rcases Int.lt_or_le (gw z b j) (gw z b i) with q | q
 .rw [AK q bR.2 cw.1] at this;rw [AK q (by omega) cw.1];omega
 .rw [zK q bR.1 cw.2] at this;rw [zK q bR.1 (by omega)];exact this
theorem MH (k:S.Ok) (aJ:∀ i,S.m <= i->S.al i <= z) {y:Int} {p:oI} (h:bn S z (i5 S) p=true) (aT:0 < y) (ax:y <= z):¬ dQ S y b:=fun D=>by
 have mI:=D.more aT ax;rw [mI.sound k (by omega) aJ p _ (mI.ad6 k (by omega))] at h;cases h
end
section
variable {S:Sys} {z:Int} {o:dn}
noncomputable def gB (S:Sys):List Nat->Prop
 | []=>True
 | [_]=>True
 | x :: y :: r=>S.e x y=true/\gB S (y :: r)
theorem lR:∀ (a:List Nat) (x:Nat) (r:List Nat),fP S z o (a ++ x :: r)=fP S z o (a ++ [x]) + fP S z o (x :: r):=by
 intro a
 induction a with
 | nil=>intro x r;simp [fP]
 | cons u a a_=>
  intro x r;cases a with
  | nil=>simp [fP]
  | cons v a=>
   have:=a_ x r;simp only [kn,fP] at this ⊢;omega
theorem ka:∀ (a:List Nat) (x:Nat) (r:List Nat),gB S (a ++ x :: r)↔gB S (a ++ [x])/\gB S (x :: r):=by
 intro a
 induction a with
 | nil=>intro x r;simp [gB]
 | cons u a a_=>
  intro x r;cases a with
  | nil=>simp [gB]
  | cons v a=>
   have:=a_ x r;simp only [kn,gB] at this ⊢;rw [this,and_assoc]
theorem Ud:∀ {l:List Nat},¬ l.Nodup->∃ a x b c,l=a ++ x :: (b ++ x :: c):=by
 intro l
 induction l with
 | nil=>intro h;exact absurd zM h
 | cons y t a_=>
  intro h;by_cases aT:y ∈ t
  .obtain ⟨b,c,rfl⟩:=aj7 aT;exact ⟨[],y,b,c,rfl⟩
  .obtain ⟨a,x,b,c,rfl⟩:=a_ (fun q=>h (iM.mpr ⟨aT,q⟩));exact ⟨y :: a,x,b,c,rfl⟩
theorem VS:∀ {l:List Nat},l ≠ []->∃ y ∈ l,∀ x ∈ l,y <= x:=by
 intro l
 induction l with
 | nil=>intro h;exact absurd rfl h
 | cons x l a_=>
  intro _;by_cases ax:l=[]
  .subst ax;exact ⟨x,by simp,by simp⟩
  .obtain ⟨y,aT,h⟩:=a_ ax;by_cases q:x <= y
   .refine ⟨x,hH ..,fun u ba=>?_⟩;rcases cX.mp ba with rfl | ba
    .exact bu _
    .exact b8 q (h u ba)
   .refine ⟨y,fk _ aT,fun u ba=>?_⟩;rcases cX.mp ba with rfl | ba
    .omega
    .exact h u ba
def ql (S:Sys) (z:Int) (o:dn):Prop:=∀ x t,(x :: t).Nodup->(∀ y ∈ t,x < y)->t ≠ []->gB S (x :: t ++ [x])->fP S z o (x :: t ++ [x]) <= 0
theorem ql.simple (k:S.Ok) (R:ql S z o) {x:Nat} {t:List Nat} (aC:(x :: t).Nodup) (h:gB S (x :: t ++ [x])):fP S z o (x :: t ++ [x]) <= 0:=by
 have cR:t ≠ []:=fun q=>by
  subst q;exact (k.lt h.1).2.2 rfl
 obtain ⟨y,aT,ax⟩:=VS (l:=x :: t) (by simp);obtain ⟨a,c,e⟩:=aj7 aT;cases a with
 | nil=>
  cases e;refine R x t aC (fun u ba=>?_) cR h;have:=ax u (fk _ ba);have:u ≠ x:=fun q=>(iM.mp aC).1 (q ▸ ba)
  omega
 | cons I8 a=>
  rw [kn,FD] at e;obtain ⟨rfl,rfl⟩:=e;have aw:x :: (a ++ y :: c) ++ [x]=(x :: a) ++ y :: (c ++ [x]):=by simp
  have az:y :: (c ++ x :: a) ++ [y]=(y :: c) ++ x :: (a ++ [y]):=by simp
  rw [aw,ka] at h;have Qt:(y :: (c ++ x :: a)).Nodup:=by
   have:=(List.perm_append_comm (l₁:=x :: a) (l₂:=y :: c)).nodup_iff.mp aC;simpa using this
  have:=R y (c ++ x :: a) Qt (fun u ba=>by
   have af:=ax u (by
    rcases hB.mp ba with q | q
    .simp [q]
    .rcases cX.mp q with rfl | q
     .simp
     .simp [q])
   have ai:u ≠ y:=fun q=>(iM.mp Qt).1 (q ▸ ba)
   omega) (by simp) (by rw [az,ka];exact ⟨by simpa using h.2,by simpa using h.1⟩)
  rw [az,lR] at this;rw [aw,lR];simp only [kn] at this ⊢;omega
theorem ql.closed (k:S.Ok) (R:ql S z o):∀ (n:Nat) (x:Nat) (t:List Nat),t.length <= n->gB S (x :: t ++ [x])->fP S z o (x :: t ++ [x]) <= 0:=by
 intro n
 induction n with
 | zero=>
  intro x t aH h;have:t=[]:=uj.mp (by omega);subst this;exact absurd rfl (k.lt h.1).2.2
 | succ n a_=>
  intro x t aH h;by_cases aC:(x :: t).Nodup
  .exact R.simple k aC h
  .obtain ⟨a,y,b,c,e⟩:=Ud aC;have hlen:=congrArg mP e;simp only [dr,dq] at hlen;rw [e,show a ++ y :: (b ++ y :: c) ++ [x]=a ++ y :: (b ++ y :: (c ++ [x])) by simp,ka] at h;obtain ⟨af,ai⟩:=h;rw [show y :: (b ++ y :: (c ++ [x]))=(y :: b) ++ y :: (c ++ [x]) by simp,ka] at ai;obtain ⟨ai,br⟩:=ai;have es:=a_ y b (by omega) ai;rw [e,show a ++ y :: (b ++ y :: c) ++ [x]=a ++ y :: (b ++ y :: (c ++ [x])) by simp,lR,show y :: (b ++ y :: (c ++ [x]))=(y :: b) ++ y :: (c ++ [x]) by simp,lR (y :: b)];have je:fP S z o (a ++ [y]) + fP S z o (y :: (c ++ [x])) <= 0:=by
    rw [<- lR];cases a with
    | nil=>
     cases e;exact a_ x c (by simp at aH;omega) br
    | cons I8 a=>
     rw [kn,FD] at e;obtain ⟨rfl,rfl⟩:=e;refine a_ x (a ++ y :: c) (by simp at aH ⊢;omega) ?_ |> fun q=>by simpa using q
     rw [show x :: (a ++ y :: c) ++ [x]=(x :: a) ++ y :: (c ++ [x]) by simp,ka];exact ⟨af,br⟩
   omega
theorem ql.cut (k:S.Ok) (R:ql S z o) (v:Nat):∀ (n:Nat) (l:List Nat),l.length <= n->gB S (l ++ [v])->∃ ia,gB S (ia ++ [v])/\(ia ++ [v]).Nodup/\fP S z o (l ++ [v]) <= fP S z o (ia ++ [v]):=by
 intro n
 induction n with
 | zero=>
  intro l aH h;have:l=[]:=uj.mp (by omega);subst this;exact ⟨[],h,by simp,oZ _⟩
 | succ n a_=>
  intro l aH h;by_cases aC:(l ++ [v]).Nodup
  .exact ⟨l,h,aC,oZ _⟩
  .obtain ⟨a,y,b,c,e⟩:=Ud aC;have hlen:=congrArg mP e;simp only [dr,dq,u5] at hlen;rw [e,ka] at h;obtain ⟨af,ai⟩:=h;rw [show y :: (b ++ y :: c)=(y :: b) ++ y :: c by simp,ka] at ai;obtain ⟨ai,br⟩:=ai;have es:=R.closed k b.length y b (bu _) ai;obtain ⟨d,oj⟩:∃ d,a ++ y :: c=d ++ [v]:=by
    rcases uE c with rfl | ⟨dT,u,rfl⟩
    .have:l ++ [v]=(a ++ y :: b) ++ [y]:=by rw [e];simp
     have:=(agj this rfl).2;cases this;exact ⟨a,by simp⟩
    .have:l ++ [v]=(a ++ y :: (b ++ y :: dT)) ++ [u]:=by rw [e];simp
     have:=(agj this rfl).2;cases this;exact ⟨a ++ y :: dT,by simp⟩
   have hd:=congrArg mP oj;simp only [dr,dq,u5] at hd;obtain ⟨ia,g1,g2,g3⟩:=a_ d (by omega) (by rw [<- oj,ka];exact ⟨af,br⟩);refine ⟨ia,g1,g2,oe ?_ g3⟩;rw [<- oj,e,lR,show y :: (b ++ y :: c)=(y :: b) ++ y :: c by simp,lR (y :: b),lR a y c];simp only [kn] at es ⊢;omega
noncomputable def il (S:Sys) (z:Int) (o:dn) (b:Nat->Int) (p:Nat × Nat):Nat->Int:=fun v=>if v=p.2 then max (b p.2) (b p.1 + iB S z o p.1 p.2) else b v
theorem Rr (b:Nat->Int) (p:Nat × Nat) (v:Nat):b v <= il S z o b p v:=by
 unfold il;split
 .rename_i h;rw [h];exact T_ ..
 .exact oZ _
theorem Nr:∀ (E:dn) (b:Nat->Int) (v:Nat),b v <= E.foldl (il S z o) b v:=by
 intro E
 induction E with
 | nil=>intro b v;exact oZ _
 | cons p E a_=>intro b v;exact oe (Rr b p v) (a_ _ v)
theorem Vw:∀ (E:dn) (b:Nat->Int) {u v:Nat},(u,v) ∈ E->b u + iB S z o u v <= E.foldl (il S z o) b v:=by
 intro E
 induction E with
 | nil=>intro b u v h;cases h
 | cons p E a_=>
  intro b u v h;rcases cX.mp h with rfl | h
  .refine oe ?_ (Nr E _ v);show _ <= il S z o b (u,v) v;unfold il;rw [if_pos rfl];exact Sn ..
  .have:=Rr (S:=S) (z:=z) (o:=o) b p u;exact oe (by omega) (a_ _ h)
def q6 (S:Sys) (z:Int) (o:dn) (b:Nat->Int):Prop:=∀ v,∃ l,gB S (l ++ [v])/\fP S z o (l ++ [v])=b v
theorem q6.il {b:Nat->Int} (h:q6 S z o b) {p:Nat × Nat} (ao:S.e p.1 p.2=true):q6 S z o (il S z o b p):=fun v=>by
 unfold My.il;split
 .rename_i aU;rcases Int.le_total (b p.1 + iB S z o p.1 p.2) (b p.2) with q | q
  .rw [abT q,aU];exact h _
  .rw [Int.max_eq_right q,aU];obtain ⟨l,af,ai⟩:=h p.1;refine ⟨l ++ [p.1],?_,?_⟩
   .rw [show l ++ [p.1] ++ [p.2]=l ++ p.1 :: [p.2] by simp,ka];exact ⟨af,ao,trivial⟩
   .rw [show l ++ [p.1] ++ [p.2]=l ++ p.1 :: [p.2] by simp,lR,ai];simp [fP]
 .exact h v
theorem q6.fold:∀ (E:dn) {b:Nat->Int},q6 S z o b->(∀ p ∈ E,S.e p.1 p.2=true)->q6 S z o (E.foldl (My.il S z o) b):=by
 intro E
 induction E with
 | nil=>intro b h _;exact h
 | cons p E a_=>intro b h iv;exact a_ (h.il (iv p (hH ..))) fun q aB=>iv q (fk _ aB)
noncomputable def md (S:Sys) (z:Int) (o:dn) (E:dn):Nat->Nat->Int
 | 0=>fun _=>0
 | k + 1=>E.foldl (il S z o) (md S z o E k)
theorem abO {E:dn} (iv:∀ p ∈ E,S.e p.1 p.2=true):∀ k,q6 S z o (md S z o E k):=by
 intro k
 induction k with
 | zero=>exact fun v=>⟨[],trivial,rfl⟩
 | succ k a_=>exact a_.fold E iv
theorem xL {E:dn} (iv:∀ i j,S.e i j=true->(i,j) ∈ E):∀ (k:Nat) (v:Nat) (l:List Nat),l.length <= k->gB S (l ++ [v])->fP S z o (l ++ [v]) <= md S z o E k v:=by
 intro k
 induction k with
 | zero=>
  intro v l ax h;have:l=[]:=uj.mp (by omega);subst this;exact oZ _
 | succ k a_=>
  intro v l ax h;rcases uE l with rfl | ⟨ia,u,rfl⟩
  .exact oe (a_ v [] (fL _) h) (Nr E _ v)
  .rw [show ia.concat u ++ [v]=ia ++ u :: [v] by simp,ka] at h;have af:=a_ u ia (by simpa using ax) h.1;have ai:=Vw (S:=S) (z:=z) (o:=o) E (md S z o E k) (iv u v h.2.1);rw [show ia.concat u ++ [v]=ia ++ u :: [v] by simp,lR];show _ <= E.foldl (il S z o) (md S z o E k) v;simp only [fP];omega
theorem Tj (k:S.Ok) {v:Nat} (aU:v < S.m):∀ {l:List Nat},gB S (l ++ [v])->∀ x ∈ l ++ [v],x < S.m:=by
 intro l
 induction l with
 | nil=>intro _ x ak;rw [fQ.mp ak];exact aU
 | cons u l a_=>
  intro h x ak;have h':S.e u ((l ++ [v]).headD 0)=true/\gB S (l ++ [v]):=by
   cases l with
   | nil=>exact h
   | cons y l=>exact h
  rcases cX.mp ak with rfl | ak
  .exact (k.lt h'.1).1
  .exact a_ h'.2 x ak
theorem Hd {m:Nat} {l:List Nat} (aC:l.Nodup) (h:∀ x ∈ l,x < m):l.length <= m:=by
 induction m generalizing l with
 | zero=>
  cases l with
  | nil=>exact bu _
  | cons x l=>exact absurd (h x (hH ..)) (D4 _)
 | succ m a_=>
  by_cases q:m ∈ l
  .have:=a_ (aC.erase m) fun x ak=>by
    have af:=h x (List.mem_of_mem_erase ak);have ai:=(aC.mem_erase_iff.mp ak).1;omega
   rw [ahc q] at this;omega
  .have:=a_ aC fun x ak=>by
    have af:=h x ak;have ai:x ≠ m:=fun e=>q (e ▸ ak)
    omega
   omega
theorem ahV (k:S.Ok) {E:dn} (iv:∀ p ∈ E,S.e p.1 p.2=true) (FG:∀ i j,S.e i j=true->(i,j) ∈ E) (R:ql S z o) {i j:Nat} (h:S.e i j=true):md S z o E S.m i + iB S z o i j <= md S z o E S.m j:=by
 obtain ⟨l,af,ai⟩:=abO (z:=z) (o:=o) iv S.m i;have g6:gB S ((l ++ [i]) ++ [j]):=by
  rw [show l ++ [i] ++ [j]=l ++ i :: [j] by simp,ka];exact ⟨af,h,trivial⟩
 obtain ⟨ia,g1,g2,g3⟩:=R.cut k j _ (l ++ [i]) (bu _) g6;have aH:=Hd g2 (Tj k (k.lt h).2.1 g1);have:=xL (z:=z) (o:=o) FG S.m j ia (by simp at aH;omega) g1;rw [show l ++ [i] ++ [j]=l ++ i :: [j] by simp,lR,ai] at g3;simp only [fP] at g3;omega
theorem abA (k:S.Ok) (aD:0 < z) (aO:∀ i,i < S.m->S.al i <= z) {b:Nat->Int} (aZ:∀ i j,S.e i j=true->dm o i j=true) (aG:∀ i j,(i,j) ∈ o->(j,i) ∉ o) (h:∀ i j,S.e i j=true->b i + iB S z o i j <= b j):dQ S z b:=by
 refine ⟨aO,fun i j e=>?_⟩;have af:=h i j e;have ai:=h j i (k.ph e);have s1:=k.s1 e;have s2:=k.s1 (k.ph e);unfold iB at af ai;by_cases q:(j,i) ∈ o
 .rw [if_pos q] at af;rw [if_neg (aG _ _ q)] at ai;rw [<- Tf,pL (by omega) (by omega)];omega
 .have cS:(i,j) ∈ o:=by simpa [dm,q] using aZ i j e
  rw [if_neg q] at af;rw [if_pos cS] at ai;rw [pL (by omega) (by omega)];omega
end
noncomputable def jm (p:List Nat):Nat:=p.getLast?.getD 0
noncomputable def kX (S:Sys) (p:List Nat):List (List Nat):=((((dW (S.m - (p.headD 0 + 1))).map fun k=>p.headD 0 + 1 + k).filter fun v=>S.e (jm p) v).filter fun v=>decide (v ∉ p)).map fun v=>p ++ [v]
noncomputable def e0 (S:Sys):Nat->List (List Nat)
 | 0=>(dW S.m).map fun k=>[k]
 | k + 1=>(e0 S k).flatMap (kX S)
noncomputable def oc (S:Sys) (p:List Nat):Bool:=S.e (jm p) (p.headD 0)
noncomputable def jv (S:Sys):Nat->List (List Nat)
 | 0=>[]
 | k + 1=>jv S k ++ (e0 S (k + 1)).filter (oc S)
section
variable {S:Sys} {z:Int} {o:dn}
theorem P7 (a:List Nat) (u:Nat):jm (a ++ [u])=u:=by unfold jm;simp
theorem Lg {p q:List Nat}:q ∈ kX S p↔∃ v,q=p ++ [v]/\p.headD 0 < v/\v < S.m/\S.e (jm p) v=true/\v ∉ p:=by
 unfold kX;constructor
 .intro h;obtain ⟨v,aU,rfl⟩:=da.mp h;obtain ⟨aU,ai⟩:=k1.mp aU;obtain ⟨aU,af⟩:=k1.mp aU;obtain ⟨k,aJ,rfl⟩:=da.mp aU;have:=hZ.mp aJ;exact ⟨_,rfl,by omega,by omega,af,of_decide_eq_true ai⟩
 .rintro ⟨v,rfl,af,ai,br,cm⟩;refine da.mpr ⟨v,k1.mpr ⟨k1.mpr ⟨da.mpr ⟨v - (p.headD 0 + 1),hZ.mpr (by omega),by omega⟩,br⟩,decide_eq_true cm⟩,rfl⟩
theorem B2:∀ (k:Nat) (p:List Nat),p ∈ e0 S k->p.length=k + 1/\p.Nodup/\∀ x ∈ p,x < S.m:=by
 intro k
 induction k with
 | zero=>
  intro p h;obtain ⟨v,aU,rfl⟩:=da.mp h;exact ⟨rfl,by simp,fun x ak=>by rw [fQ.mp ak];exact hZ.mp aU⟩
 | succ k a_=>
  intro p h;obtain ⟨q,aB,h⟩:=qn.mp h;obtain ⟨v,rfl,af,ai,br,cm⟩:=Lg.mp h;obtain ⟨es,je,LG⟩:=a_ q aB;refine ⟨by rw [dq,es];rfl,?_,fun x ak=>?_⟩
  .rw [JF];exact ⟨je,by simp,fun x ak y aT e=>cm (by rw [<- fQ.mp aT,<- e];exact ak)⟩
  .rcases hB.mp ak with ak | ak
   .exact LG x ak
   .rw [fQ.mp ak];exact ai
theorem Xq:e0 S S.m=[]:=by
 refine List.eq_nil_iff_forall_not_mem.mpr fun p ao=>?_
 obtain ⟨af,ai,br⟩:=B2 _ p ao;have:=Hd ai br;omega
theorem MN {k:Nat} (h:e0 S k=[]):∀ i,e0 S (k + i)=[]:=by
 intro i
 induction i with
 | zero=>exact h
 | succ i a_=>show (e0 S (k + i)).flatMap (kX S)=[];rw [a_];rfl
theorem NW {p:List Nat} {v:Nat} (ao:p ≠ []) (h:gB S (p ++ [v])):S.e (jm p) v=true:=by
 rcases uE p with rfl | ⟨a,u,rfl⟩
 .exact absurd rfl ao
 .rw [vy,tZ] at h;rw [vy,P7];exact ((ka a u [v]).mp h).2.1
theorem af0:∀ (n:Nat) (x:Nat) (t:List Nat),t.length=n->(x :: t).Nodup->(∀ y ∈ t,x < y)->gB S (x :: t)->(∀ y ∈ x :: t,y < S.m)->x :: t ∈ e0 S n:=by
 intro n
 induction n with
 | zero=>
  intro x t aH _ _ _ h;have:t=[]:=uj.mp aH;subst this;exact da.mpr ⟨x,hZ.mpr (h x (hH ..)),rfl⟩
 | succ n a_=>
  intro x t aH aC ax ar hm;rcases uE t with rfl | ⟨a,v,rfl⟩
  .cases aH
  .rw [vy] at *;rw [<- kn] at aC ar hm ⊢;rw [JF] at aC;have l1:gB S (x :: a):=by
    rcases uE a with rfl | ⟨b,u,rfl⟩
    .exact trivial
    .rw [vy,<- kn] at ar ⊢;rw [tZ] at ar;exact ((ka (x :: b) u [v]).mp ar).1
   refine qn.mpr ⟨x :: a,a_ x a (by simpa using aH) aC.1 (fun y aT=>ax y (by simp [aT])) l1 (fun y aT=>hm y (by simp only [hB];exact .inl aT)),Lg.mpr ⟨v,rfl,ax v (by simp),hm v (by simp),NW (by simp) ar,fun h=>aC.2.2 v h v (by simp) rfl⟩⟩
theorem U3 {r:List Nat}:∀ {k:Nat},r ∈ jv S k->∃ i,i < k/\r ∈ e0 S (i + 1):=by
 intro k
 induction k with
 | zero=>intro h;cases h
 | succ k a_=>
  intro h;rcases hB.mp h with h | h
  .obtain ⟨i,aj,h⟩:=a_ h;exact ⟨i,by omega,h⟩
  .exact ⟨k,by omega,(k1.mp h).1⟩
theorem ae2 {r:List Nat} {i k:Nat} (aj:i < k) (h:r ∈ e0 S (i + 1)) (ar:oc S r=true):r ∈ jv S k:=by
 induction k with
 | zero=>omega
 | succ k a_=>
  by_cases q:i < k
  .exact sM _ (a_ q)
  .have:i=k:=by omega
   subst this;exact jP _ (k1.mpr ⟨h,ar⟩)
theorem aek (k:S.Ok) {K:Nat} (d0:e0 S K=[]) {x:Nat} {t:List Nat} (aC:(x :: t).Nodup) (ax:∀ y ∈ t,x < y) (cR:t ≠ []) (ar:gB S (x :: t ++ [x])):x :: t ∈ jv S K:=by
 obtain ⟨a,u,e⟩:∃ a u,t=a ++ [u]:=by
  rcases uE t with q | ⟨a,u,q⟩
  .exact absurd q cR
  .exact ⟨a,u,by rw [q,vy]⟩
 have PR:=NW (p:=x :: t) (by simp) ar;have ak:=(k.lt PR).2.1;have l1:gB S (x :: t):=by
  rw [e,<- kn] at ar ⊢;rw [tZ] at ar;exact ((ka (x :: a) u [x]).mp ar).1
 have hm:x :: t ∈ e0 S t.length:=af0 _ x t rfl aC ax l1 (fun y aT=>Tj k ak ar y (sM _ aT));have af:t.length < K:=by
  rcases yy t.length K with q | q
  .exact q
  .have:=MN d0 (t.length - K);rw [show K + (t.length - K)=t.length by omega] at this;rw [this] at hm;cases hm
 have h0:0 < t.length:=yG.mpr cR;refine ae2 (i:=t.length - 1) (by omega) (by rw [show t.length - 1 + 1=t.length by omega];exact hm) PR
theorem Zg (aZ:∀ i j,S.e i j=true->dm o i j=true):∀ (l:List Nat),gB S l->hz o l=true:=by
 intro l
 induction l with
 | nil=>intro _;rfl
 | cons x l a_=>
  intro h;cases l with
  | nil=>rfl
  | cons y l=>
   have h':S.e x y=true/\gB S (y :: l):=h;show (dm o x y && hz o (y :: l))=true;rw [aZ _ _ h'.1,a_ h'.2];rfl
theorem aaG (k:S.Ok) {K:Nat} (d0:e0 S K=[]) (aZ:∀ i j,S.e i j=true->dm o i j=true) (h:∀ r ∈ jv S K,i7 S z o r=false):ql S z o:=fun x t aC ax cR ar=>by
 have ab:=h _ (aek k d0 aC ax cR ar);have h0:0 < t.length:=yG.mpr cR;unfold i7 at ab;rw [show (x :: t) ++ (x :: t).take 1=x :: t ++ [x] from rfl,Zg aZ _ ar,decide_eq_true (show 2 <= (x :: t).length by rw [dr];omega),decide_eq_true aC] at ab;simpa using ab
theorem MO (p:List Nat):(kX S p).length <= S.m:=by
 unfold kX;rw [bb];refine b8 (o6 ..) (b8 (o6 ..) ?_);rw [bb,kS];omega
theorem Lw {f:List Nat->List (List Nat)} {c:Nat} (h:∀ p,(f p).length <= c):∀ l:List (List Nat),(l.flatMap f).length <= l.length * c:=by
 intro l
 induction l with
 | nil=>simp
 | cons p l a_=>
  rw [BJ,dq,dr,Dd];have:=h p;omega
theorem MZ:∀ k,(e0 S k).length <= S.m ^ (k + 1):=by
 intro k
 induction k with
 | zero=>simp [e0]
 | succ k a_=>
  show ((e0 S k).flatMap (kX S)).length <= _;refine b8 (Lw MO _) ?_;rw [Nat.pow_succ];exact Te _ a_
end
structure KF (S:Sys) (o:dn):Prop where
 e:∀ p ∈ o,S.e p.1 p.2=true
 aC:o.Nodup
 as:∀ i j,(i,j) ∈ o->(j,i) ∉ o
theorem KF.len {S:Sys} {o:dn} (h:KF S o) (k:S.Ok) (hm:S.m <= 6):o.length <= 36:=by
 have af:(o.map fun p=>p.1 * 6 + p.2).Nodup:=by
  have:∀ l:dn,l.Nodup->(∀ p ∈ l,p.1 < 6/\p.2 < 6)->(l.map fun p=>p.1 * 6 + p.2).Nodup:=by
   intro l
   induction l with
   | nil=>intro _ _;exact zM
   | cons p l a_=>
    intro aC ax;rw [iM] at aC;rw [dR,iM];refine ⟨fun ak=>?_,a_ aC.2 fun q aB=>ax q (fk _ aB)⟩;obtain ⟨q,aB,e⟩:=da.mp ak;have a1:=ax p (hH ..);have a2:=ax q (fk _ aB);exact aC.1 (by rw [show p=q from LA (by omega) (by omega)];exact aB)
  exact this o h.aC fun p ao=>by have:=k.lt (h.e p ao);omega
 have:=Hd (m:=36) af fun x ak=>by
  obtain ⟨p,ao,rfl⟩:=da.mp ak;have:=k.lt (h.e p ao);omega
 rw [bb] at this;exact this
theorem KF.XZ {S:Sys} {o:dn} (h:KF S o) (k:S.Ok) {i j:Nat} (q:dm o i j=true):S.e i j=true:=by
 unfold dm at q;rcases Bool.or_eq_true_iff.mp q with q | q
 .exact h.e _ (of_decide_eq_true q)
 .exact k.ph (h.e _ (of_decide_eq_true q))
theorem KF.put {S:Sys} {o:dn} (h:KF S o) (k:S.Ok) {i j:Nat} (he:S.e i j=true) (aH:dm o i j=false):KF S (o ++ [(i,j)]):=by
 unfold dm at aH;rw [zu,decide_eq_false_iff_not,decide_eq_false_iff_not] at aH;refine ⟨fun p ao=>?_,?_,fun a b FN ahH=>?_⟩
 .rcases hB.mp ao with ao | ao
  .exact h.e p ao
  .rw [fQ.mp ao];exact he
 .rw [JF];exact ⟨h.aC,by simp,fun x ak y aT e=>aH.1 (by rw [<- fQ.mp aT,<- e];exact ak)⟩
 .have cf:=(k.lt he).2.2;rcases hB.mp FN with x | x <;> rcases hB.mp ahH with y | y
  .exact h.as a b x y
  .cases fQ.mp y;exact aH.2 x
  .cases fQ.mp x;exact aH.2 y
  .cases fQ.mp x;cases fQ.mp y;exact cf rfl
theorem IU (o:dn) (i j:Nat):dm o i j=dm o j i:=Bool.or_comm ..
noncomputable def vY (m:Nat):dn:=(dW m).flatMap fun j=>(dW j).map fun i=>(i,j)
theorem La {m i j:Nat} (h:i < j) (bf:j < m):(i,j) ∈ vY m:=qn.mpr ⟨j,hZ.mpr bf,da.mpr ⟨i,hZ.mpr h,rfl⟩⟩
noncomputable def lG (S:Sys) (o:dn):Nat:=(vY S.m).countP fun p=>S.e p.1 p.2 && !dm o p.1 p.2
theorem M' {α:Type} {p q:α->Bool} (h:∀ x,q x=true->p x=true):∀ {l:List α} {y:α},y ∈ l->p y=true->q y=false->l.countP q < l.countP p:=by
 intro l
 induction l with
 | nil=>intro y aT;cases aT
 | cons x l a_=>
  intro y aT af ai;rw [adN,adN];have hle:l.countP q <= l.countP p:=ac9 fun x _=>h x
  rcases cX.mp aT with rfl | aT
  .rw [af,ai];simp;omega
  .have:=a_ aT af ai;by_cases aB:q x=true
   .rw [h x aB,aB];simp;exact this
   .rw [Bool.not_eq_true] at aB;rw [aB];simp;omega
section
variable {S:Sys} {o:dn}
theorem aj4 (i j a b:Nat) (h:dm o a b=true):dm (o ++ [(i,j)]) a b=true:=by
 unfold dm at h ⊢;simp only [Bk,decide_eq_true_eq,hB] at h ⊢;exact h.imp .inl .inl
theorem Qy (i j:Nat):dm (o ++ [(i,j)]) i j=true:=by
 unfold dm;simp
theorem JP (k:S.Ok) {i j:Nat} (he:S.e i j=true) (aH:dm o i j=false):lG S (o ++ [(i,j)]) < lG S o:=by
 have ax:=k.lt he;unfold lG;have S1:∀ p:Nat × Nat,(S.e p.1 p.2 && !dm (o ++ [(i,j)]) p.1 p.2)=true->(S.e p.1 p.2 && !dm o p.1 p.2)=true:=fun p h=>by
  rw [iQ,XF] at h ⊢;refine ⟨h.1,?_⟩;rw [QG];intro q;rw [aj4 i j _ _ q] at h;cases h.2
 rcases aiQ ax.2.2 with q | q
 .exact M' S1 (La q ax.2.1) (by simp [he,aH]) (by simp [Qy])
 .refine M' S1 (La q ax.1) (by simp [k.ph he,IU o j i,aH]) (by simp [IU _ j i,Qy])
theorem abo (k:S.Ok) {i j:Nat} (he:S.e i j=true) (aH:dm o i j=false):0 < lG S o:=jV (fL _) (JP k he aH)
theorem ZL:∀ k,(km S k).length <= k:=by
 intro k
 induction k with
 | zero=>exact bu _
 | succ k a_=>
  unfold km;rw [dq];split <;> simp <;> omega
theorem ae9 {k j:Nat} (h0:0 < j) (bf:j <= k) (he:S.e 0 j=true):(0,j) ∈ km S k:=by
 induction k with
 | zero=>omega
 | succ k a_=>
  unfold km;by_cases q:j <= k
  .exact sM _ (a_ q)
  .have:j=k + 1:=by omega
   subst this;rw [if_pos he];exact jP _ (by simp)
theorem U2 (k:S.Ok) (hm:S.m <= 6):lG S (i5 S) <= 10/\(S.m <= 5->lG S (i5 S) <= 6):=by
 have h:lG S (i5 S) <= (vY S.m).countP fun p=>decide (p.1 ≠ 0):=by
  refine ac9 fun p _ ao=>?_
  rw [iQ,XF] at ao;refine decide_eq_true fun q=>?_
  rw [q] at ao;have ax:=k.lt ao.1;have:dm (i5 S) 0 p.2=true:=by
   unfold dm;rw [decide_eq_true (show (0,p.2) ∈ i5 S from ae9 (by omega) (by omega) ao.1)];rfl
  rw [this] at ao;cases ao.2
 have FR:∀ m,m <= 6->((vY m).countP fun p=>decide (p.1 ≠ 0)) <= 10/\(m <= 5->((vY m).countP fun p=>decide (p.1 ≠ 0)) <= 6):=by ac_nf
 exact ⟨b8 h (FR _ hm).1,fun q=>b8 h ((FR _ hm).2 q)⟩
theorem XK:KF S (i5 S) where
 e:=fun p ao=>by
  obtain ⟨af,ai,br,cm⟩:=On ao;rw [af];exact cm
 aC:=aef _
 as:=fun i j af ai=>by
  have a:=On af;have b:=On ai;have:i=0:=a.1;have:0 < i:=b.2.1;omega
noncomputable def gk (f:Nat->Int):Nat->Int
 | 0=>0
 | k + 1=>gk f k + f k
theorem RJ {f:Nat->Int} {m:Nat} (h:∀ i,i < m->0 <= f i):∀ (d i:Nat),i + d <= m->gk f i <= gk f (i + d):=by
 intro d
 induction d with
 | zero=>intro i _;exact oZ _
 | succ d a_=>
  intro i aj;have af:=a_ i (by omega);have ai:=h (i + d) (by omega);show _ <= gk f (i + d) + f (i + d);omega
theorem x4 {f:Nat->Int} {m:Nat} (h:∀ i,i < m->0 <= f i) {i j:Nat} (pz:i < j) (bf:j <= m):gk f i + f i <= gk f j:=by
 have:=RJ h (j - (i + 1)) (i + 1) (by omega);rw [show i + 1 + (j - (i + 1))=j by omega] at this;exact this
theorem acV (k:S.Ok) {mx:Nat->Int} (h0:∀ i,0 <= mx i) (h:∀ i j,S.e i j=true->S.st i j <= mx i):dQ S (gk (fun i=>S.al i + mx i) S.m) (gk fun i=>S.al i + mx i):=by
 have hf:∀ i,i < S.m->0 <= S.al i + mx i:=fun i aj=>by have:=k.a1 aj;have:=h0 i;omega
 have aG:∀ i,0 + i <= S.m->0 <= gk (fun i=>S.al i + mx i) i:=fun i aj=>by
  have:=RJ hf i 0 aj;simpa [gk] using this
 refine ⟨fun i aj=>?_,fun i j e=>?_⟩
 .have af:=x4 hf (i:=i) (j:=S.m) aj (bu _);have ai:=aG i (by omega);have br:=h0 i;omega
 .have ax:=k.lt e;have aj:=x4 hf (i:=i) (j:=S.m) ax.1 (bu _);have bf:=x4 hf (i:=j) (j:=S.m) ax.2.1 (bu _);have CP:=k.a1 ax.1;have alk:=k.a1 ax.2.1;have alO:=h0 i;have amC:=h0 j;have mO:=h i j e;have pi:=aG i (by omega);have ajg:=aG j (by omega);rcases aiQ ax.2.2 with q | q
  .have g:=x4 hf q (by omega);rw [zK (by omega) pi (by omega)];omega
  .have g:=x4 hf q (by omega);rw [AK (by omega) (by omega) ajg];omega
end
noncomputable def ac (n:Int) (ws:List (a8 × Int)):Sys where
 m:=ws.length
 e:=fun i j=>match ws[i]?,ws[j]? with
  | some p,some q=>decide (i ≠ j) && mt n p.1 q.1
  | _,_=>false
 st:=fun i j=>match ws[i]?,ws[j]? with
  | some p,some q=>p.2 + k9 p.1 q.1
  | _,_=>0
 al:=fun i=>match ws[i]? with
  | some p=>fx p
  | none=>0
theorem sw {n:Int} {ws:List (a8 × Int)} {i j:Nat} (h:(ac n ws).e i j=true):∃ p q,ws[i]? = some p/\ws[j]? = some q/\i ≠ j/\mt n p.1 q.1=true:=by
 unfold ac at h;cases ao:ws[i]? with
 | none=>simp [ao] at h
 | some p=>
  cases aB:ws[j]? with
  | none=>simp [ao,aB] at h
  | some q=>exact ⟨p,q,rfl,rfl,by simpa [ao,aB] using h⟩
theorem oC {n:Int} {ws:List (a8 × Int)} {i j:Nat} {p q:a8 × Int} (aj:ws[i]? = some p) (bf:ws[j]? = some q):(ac n ws).e i j=(decide (i ≠ j) && mt n p.1 q.1)/\(ac n ws).st i j=p.2 + k9 p.1 q.1:=by
 refine ⟨?_,?_⟩ <;> simp only [ac,aj,bf]
def jf (n:Int) (ws:List (a8 × Int)):Prop:=(∀ p ∈ ws,lE n p.1/\1 <= p.2/\p.2 <= 1000)/\ws.length <= 6/\ws ≠ []
theorem aaD (d e:a8):0 <= k9 d e:=by unfold k9;split <;> omega
theorem SV {n:Int} {d:a8} (o:lE n d):0 <= lq d + lT d:=by
 have h:=o.of;unfold lq lT;rcases d with ⟨k,_⟩
 match k with
 | 0=>simp
 | 1=>simpa using h.1
 | k + 2=>simp
theorem jf.ok {n:Int} {ws:List (a8 × Int)} (h:jf n ws):(ac n ws).Ok where
 lt:=fun e=>by
  obtain ⟨p,q,af,ai,br,_⟩:=sw e;exact ⟨(cV.mp af).1,(cV.mp ai).1,br⟩
 ph:=fun e=>by
  obtain ⟨p,q,af,ai,br,cm⟩:=sw e;obtain ⟨op,_⟩:=h.1 p (d4 af);obtain ⟨Dv,_⟩:=h.1 q (d4 ai);have H2:mt n q.1 p.1=true:=by rw [<- cm];exact (aky op.st op.eZ Dv.st Dv.eZ op.ne Dv.ne).symm
  rw [(oC ai af).1,H2];simp [c7 br]
 s1:=fun e=>by
  obtain ⟨p,q,af,ai,br,cm⟩:=sw e;rw [(oC af ai).2];have:=(h.1 p (d4 af)).2.1;have:=aaD p.1 q.1;omega
 a1:=fun {i} aj=>by
  have ao:ws[i]? = some ws[i]:=cJ aj;obtain ⟨o,l,_⟩:=h.1 _ (d4 ao);have e:(ac n ws).al i=fx ws[i]:=by
   show (match ws[i]? with | some p=>fx p | none=>0)=_;rw [ao]
  rw [e];have af:=SV o;unfold fx;omega
noncomputable def n_ (o:dn):List (List Key × V):=o.map fun p=>(e_ p.1 p.2,V.bp true)
theorem O8 (o:dn):(n_ o).length=o.length:=bb ..
theorem DJ (o:dn) (i j:Nat):(dg (n_ o) (e_ i j)).isSome=decide ((i,j) ∈ o):=by
 induction o with
 | nil=>rfl
 | cons p o a_=>
  unfold n_ at a_ ⊢;rw [dR];by_cases h:p=(i,j)
  .subst h;rw [kD rfl];simp
  .rw [kR fun e=>h (LA (tu e).1 (tu e).2),a_];simp [c7 h]
theorem LX {o:dn} {i j:Nat} (h:(i,j) ∉ o):fs (n_ o) (e_ i j) (V.bp true)=n_ (o ++ [(i,j)]):=by
 rw [MI]
 .unfold n_;rw [eD];rfl
 .intro x ak e;obtain ⟨p,ao,rfl⟩:=da.mp ak;obtain ⟨aw,az⟩:=tu e;subst aw az;exact h ao
theorem ahB (P:Program) (w:World) {o:dn} (aC:o.Nodup) (h:∀ p ∈ o,p.1 < 6/\p.2 < 6):((n_ o).map fun p=>Gi P w p.1).Nodup:=by
 unfold n_;rw [jC];show (o.map Cq).Nodup
 induction o with
 | nil=>exact zM
 | cons p o a_=>
  rw [iM] at aC;rw [dR,iM];refine ⟨fun hm=>?_,a_ aC.2 fun q aB=>h q (fk _ aB)⟩;obtain ⟨q,aB,e⟩:=da.mp hm;have af:=h p (hH ..);have ai:=h q (fk _ aB);have:=abc abp q (Pq ai.1 ai.2) p (Pq af.1 af.2) e;exact aC.1 (this ▸ aB)
theorem MK {k:List Key} {v:V}:∀ {aE:List (List Key × V)},dg aE k=some v->(k,v) ∈ aE
 | [],h=>nomatch h
 | p :: r,h=>by
  by_cases e:p.1=k
  .rw [kD e] at h;cases h;rw [<- e];exact hH ..
  .rw [kR e] at h;exact fk _ (MK h)
theorem NR {n:Int} {ws:List (a8 × Int)} (i j:Nat):dg (fz n ws ws.length) (e_ i j)=if (ac n ws).e i j then some (V.int ((ac n ws).st i j)) else none:=by
 have key:∀ v,dg (fz n ws ws.length) (e_ i j)=some v->(ac n ws).e i j=true/\v=V.int ((ac n ws).st i j):=fun v h=>by
  obtain ⟨k,_,ak⟩:=PJ (MK h);obtain ⟨EG,p,q,_,af,ai,br,cm,e⟩:=Ge ak;obtain ⟨rfl,rfl⟩:=tu (congrArg Prod.fst e);have az:v=V.int (p.2 + k9 p.1 q.1):=congrArg Prod.snd e;rw [(oC af ai).1,(oC af ai).2,cm,az];simp [br]
 cases he:(ac n ws).e i j with
 | true=>
  obtain ⟨p,q,af,ai,br,cm⟩:=sw he;have hm:=WJ af ai br cm;cases aU:dg (fz n ws ws.length) (e_ i j) with
  | none=>exact absurd (Ex (f:=(·.1)) hm) (aif aU)
  | some v=>rw [(key v aU).2];rfl
 | false=>
  cases aU:dg (fz n ws ws.length) (e_ i j) with
  | none=>rfl
  | some v=>rw [(key v aU).1] at he;cases he
theorem Uw {n:Int} {ws:List (a8 × Int)} {i j:Nat} (h:(ac n ws).e i j=true):dg (fz n ws ws.length) (e_ i j)=some (V.int ((ac n ws).st i j)):=by rw [NR,h];rfl
theorem Gx {n:Int} {ws:List (a8 × Int)} (i j:Nat):(dg (fz n ws ws.length) (e_ i j)).isSome=(ac n ws).e i j:=by
 rw [NR];cases (ac n ws).e i j <;> rfl
def jb (P:Program) (w:World) (H:aq) (a:Addr) (o:dn):Prop:=gg P w H a (n_ o)
section
variable (P:Program) (w:World)
def aag:bI:=fun vs H Q _=>∃ a i j o,vs=[.ref a,.int (i:Nat),.int (j:Nat)]/\jb P w H a o/\aY H/\Q (.bp (dm o i j)) H
def KV (S:Sys):bI:=fun vs H Q _=>∃ a i j o,vs=[.ref a,.int (i:Nat),.int (j:Nat)]/\jb P w H a o/\KF S o/\S.Ok/\S.m <= 6/\(i,j) ∉ o/\aY H /\
 ∀ r I,aN H I->aY I->jb P w I r (o ++ [(i,j)])->Q (.ref r) I
def ahO (t:bJ):bI:=fun vs H Q _=>∃ wp z a i j o n ws,vs=[.ref wp,.int z,.ref a,.int (i:Nat),.int (j:Nat)]/\i0 P w t H wp n ws/\jb P w H a o/\(ac n ws).e i j=true/\aY H/\Q (.int (iB (ac n ws) z o i j)) H
def Zt (t:bJ):bI:=fun vs H Q _=>∃ wp n ws,vs=[.ref wp]/\i0 P w t H wp n ws/\jf n ws/\aY H /\
 ∀ r I,aN H I->aY I->jb P w I r (i5 (ac n ws))->Q (.ref r) I
end
theorem i0.same {P:Program} {w:World} {t:bJ} {H I:aq} {p:Addr} {n:Int} {ws:List (a8 × Int)} (h:i0 P w t H p n ws) (s:aN H I):i0 P w t I p n ws:=by
 obtain ⟨au,al,cE,aw,az,bW⟩:=h;exact ⟨au,al,cE,s _ _ aw,s _ _ az,fv bW s⟩
theorem vc (T:Txt w K ah t) {H:aq} {p au al cE:Addr} {m:Int} (e:H p=some (.ins t.dS au (jE m al cE))):io K H p (ag "many") (.int m):=⟨_,au,_,e,T.tB,T.TZ,lz z1 0 (EW ..) (by ac_nf) rfl⟩
theorem UE:b_ P base T 1 t.so t.vZ nS (aag P w):=by
 have key:bt P w K ah base b7 1 t.so t.vZ nS (fun vs H Q _=>∃ a i j o,vs=[.ref a,.int (i:Nat),.int (j:Nat)]/\jb P w H a o/\∀ I,aN H I->Q (.bp (dm o i j)) I):=by
  exists T.zj.ok ahD,9
  obtain ⟨a,i,j,o,rfl,D,q⟩:=h;have ba:=gF av;refine ⟨_,(a3 (bX (BZ (M8 (ud ba (eL (ae (U 1) (ae (U 2) aA))) (U 0))) (rR (M8 (ud ba (eL (ae (U 2) (ae (U 1) aA))) (U 0))))))),?_⟩;nofun;refine ⟨by decide,fun p ao=>⟨_,fv D (a0 ao),e_ i j,aS,?_⟩⟩;rw [DJ];by_cases h:(i,j) ∈ o
  .rw [if_pos (decide_eq_true h)];have:=q _ (a0 (o:=.tup [V.int (i:Int),V.int (j:Int)]) ao);rw [show dm o i j=true by unfold dm;rw [decide_eq_true h];rfl] at this;exact this
  .rw [if_neg (by rw [decide_eq_false h];exact fh)];refine ⟨by decide,fun dM c5=>⟨_,fv (fv D (a0 ao)) (a0 c5),e_ j i,aS,?_⟩⟩;rw [DJ];have:=q _ ((a0 (o:=.tup [V.int (i:Int),V.int (j:Int)]) ao).trans (a0 (o:=.tup [V.int (j:Int),V.int (i:Int)]) c5));rw [show dm o i j=decide ((j,i) ∈ o) by unfold dm;rw [decide_eq_false h];rfl] at this;exact this
 exact key.forget fun vs H Q E h=>by
  obtain ⟨a,i,j,o,e,D,bc,q⟩:=h;exact ⟨bc,a,i,j,o,e,D,fun I ck=>⟨ck,q⟩⟩
theorem OY:b_ P base T 1 t.tn t.wM AD (ahO P w t):=by
 have key:bt P w K ah base b7 1 t.tn t.wM AD (fun vs H Q _=>∃ wp z a i j o n ws,vs=[.ref wp,.int z,.ref a,.int (i:Nat),.int (j:Nat)]/\i0 P w t H wp n ws/\jb P w H a o/\(ac n ws).e i j=true/\∀ I,aN H I->Q (.int (iB (ac n ws) z o i j)) I):=by
  exists T.zH.ok RN,9
  obtain ⟨wp,z,a,i,j,o,n,ws,rfl,⟨au,al,cE,aw,az,D⟩,O,he,q⟩:=h;have ba:=gF av;refine ⟨_,(aM (bL (i:=5) RN.aC (L' ba (c1 (U 0) rfl) (eL (ae (U 3) (ae (U 4) aA))) (fun _ _=>rfl)))
   (a3 (bX (BU (qV (ud ba (eL (ae (U 4) (ae (U 3) aA))) (U 2))) (bS oH (U 5) (U 1)) (U 5))))),?_⟩
  nofun;refine ⟨_,og T aw,by decide,fun p ao=>⟨cE,rfl,_,fv D (a0 ao),e_ i j,aS,_,Uw he,by decide,fun dM c5=>⟨_,fv (fv O (a0 ao)) (a0 c5),e_ j i,aS,?_⟩⟩⟩;rw [DJ];have:=q _ ((a0 (o:=.tup [V.int (i:Int),V.int (j:Int)]) ao).trans (a0 (o:=.tup [V.int (j:Int),V.int (i:Int)]) c5));unfold iB at this;by_cases h:(j,i) ∈ o
  .rw [if_pos (decide_eq_true h)];rw [if_pos h] at this;exact ⟨_,rfl,this⟩
  .rw [if_neg (by rw [decide_eq_false h];exact fh)];rw [if_neg h] at this;exact this
 exact key.forget fun vs H Q E h=>by
  obtain ⟨wp,z,a,i,j,o,n,ws,e,W,O,he,bc,q⟩:=h;exact ⟨bc,wp,z,a,i,j,o,n,ws,e,W,O,he,fun I ck=>⟨ck,q⟩⟩
theorem abG (S:Sys):b_ P base T 1 t.ve t.li nS (KV P w S):=by
 exists T.zI.ok RP,9
 obtain ⟨a,i,j,o,rfl,O,ok,k,hm,aH,bc,q⟩:=h;have ba:=gF av;refine ⟨_,(aM (bL (i:=3) RP.aC (k2 Yi rfl T.aaj ZB (ae (U 0) aA)))
   (aM (Ai ba (U 3) (eL (ae (U 1) (ae (U 2) aA))) mz rfl)
   (a3 (bX (U 3))))),?_⟩
 nofun;refine ⟨_,O,ahB P w ok.aC (fun p ao=>by have:=k.lt (ok.e p ao);omega),fun p b2 ao PU=>⟨by decide,fun dM c5=>⟨_,fv PU (a0 c5),e_ i j,aS,?_,fun nh mI=>?_⟩⟩⟩
 .rw [O8];exact jV (ok.len k hm) (by decide)
 .rw [LX aH] at mI;exact q _ _ (fun b u e=>by rw [aX (Db e ao)];exact a0 c5 _ _ (a0 ao _ _ e)) ((bc.upd).upd).upd mI
theorem akC:b_ P base T 1 t.vz t.lf ["wanted"] (Zt P w t):=by
 exists T.Kb.ok En,9
 obtain ⟨wp,n,ws,rfl,W,ok,bc,q⟩:=h;obtain ⟨au,al,cE,aw,az,D⟩:=id W;have ba:=gF av;refine ⟨_,(aM (bL (i:=1) En.aC Dm)
   (aM (ho hl rfl (L_ rfl T.lL (ae aR (ae (c1 (U 0) rfl) aA))) (b6 (i:=2) En.aC) (a3 (c9 (qV (ud ba (eL (ae aR (ae (U 2) aA))) (c1 (U 0) rfl))) (a3 (Ai ba (U 1) (eL (ae aR (ae (U 2) aA))) mz rfl)) dd)))
   (a3 (bX (U 1))))),?_⟩
 nofun;intro p b2 ao VT;have ax:=ok.2.1;have pT:aN H (upd H p (.ext (hs p b2))):=a0 ao;refine ⟨_,vc T (pT _ _ aw),_,rfl,by decide,by decide,by omega,by omega,?_⟩;rw [show ((ws.length:Int) - 1).toNat=ws.length - 1 by omega];refine ap.range (fun i σ I=>aN H I/\aY I/\jb P w I p (km (ac n ws) i)/\∃ x,σ=[~~~wp,~~~p,x]) ⟨pT,bc.upd,VT,_,rfl⟩ ?_ ?_
 .rintro i σ H1 aj bU;ac_rfl
  obtain ⟨s1,bH,Cs,x,rfl⟩:=bU;subst bM;simp only [hX,ks,kv];rw [show (1:Int) + (i:Nat)=((i + 1:Nat):Int) by omega];refine lF (fun b ay=>b=(ac n ws).e 0 (i + 1)/\aN H1 ay/\aY ay) (fun Q a5=>?_) (fun ay cw=>?_) (fun ay cw=>?_)
  .nofun;refine ⟨by decide,fun dM c5=>⟨_,og T (a0 c5 _ _ (s1 _ _ aw)),cE,rfl,_,fv (fv D s1) (a0 c5),e_ 0 (i + 1),aS,?_⟩⟩;rw [Gx];exact a5 _ _ ⟨rfl,a0 c5,bH.upd⟩
  .obtain ⟨bR,cw,mB⟩:=cw;nofun;refine ⟨by decide,fun dM c5=>⟨_,fv (fv Cs cw) (a0 c5),e_ 0 (i + 1),aS,?_,fun nh mI=>⟨?_,(mB.upd).upd,?_⟩⟩⟩
   .rw [O8];have:=ZL (S:=ac n ws) i;exact jV (show _ <= 6 by omega) (by decide)
   .exact fun b u e=>by rw [aX (Db e ao)];exact a0 c5 _ _ (cw _ _ (s1 _ _ e))
   .rw [LX (fun hm=>by have:=(On hm).2.2.1;simp only at this;omega)] at mI;refine ⟨?_,_,rfl⟩;show jb P w _ p (km (ac n ws) i ++ _);rw [<- bR,if_pos rfl];exact mI
  .obtain ⟨bR,cw,mB⟩:=cw;simp only [ft];refine ⟨s1.trans cw,mB,?_,_,rfl⟩;show jb P w ay p (km (ac n ws) i ++ _);rw [<- bR];rw [if_neg fh,me];exact fv Cs cw
 .rintro σ H1 bU;ac_rfl
  obtain ⟨s1,bH,Cs,x,rfl⟩:=bU;subst bM;nofun;exact q _ _ s1 bH Cs
noncomputable def fy (r:List Nat):List V:=r.map fun k:Nat=>V.int (k:Int)
theorem lg (r:List Nat):(fy r).length=r.length:=bb ..
theorem aft (r:List Nat):fy r=nf V.int (r.map fun k:Nat=>(k:Int)):=by unfold fy;rw [jC];rfl
theorem dL (r:List Nat):(r.map fun k:Nat=>(k:Int)).Nodup↔r.Nodup:=by
 induction r with
 | nil=>simp
 | cons x r a_=>
  rw [dR,iM,iM,a_];refine and_congr_left fun _=>not_congr ⟨fun h=>?_,fun h=>da.mpr ⟨x,h,rfl⟩⟩
  obtain ⟨y,aT,e⟩:=da.mp h;rw [<- Ot e];exact aT
theorem KR {r:List Nat} {i:Nat} {v:V} (h:(fy r)[i]? = some v):∃ k,r[i]? = some k/\v=V.int (k:Int):=by
 unfold fy at h;rw [ec] at h;cases av:r[i]? with
 | none=>rw [av] at h;cases h
 | some k=>rw [av] at h;exact ⟨k,rfl,(dj h).symm⟩
noncomputable def mG (r:List Nat) (i:Nat):Nat:=(r[(i + 1) % r.length]?).getD 0
noncomputable def k6 (r:List Nat) (i:Nat):List Nat:=(r ++ r.take 1).take (i + 1)
theorem aiO {r:List Nat} (h:r ≠ []):k6 r 0=[r.headD 0]:=by
 cases r with
 | nil=>exact absurd rfl h
 | cons x r=>rfl
theorem L0 {r:List Nat} (h:r ≠ []):k6 r r.length=r ++ r.take 1:=by
 unfold k6;rw [xY];cases r with
 | nil=>exact absurd rfl h
 | cons x r=>simp
theorem wP {r:List Nat} {i:Nat} (aj:i < r.length):(r ++ r.take 1)[i + 1]? = some (mG r i):=by
 unfold mG;by_cases h:i + 1 < r.length
 .rw [kq h,Nat.mod_eq_of_lt h,cJ h];rfl
 .have e:i + 1=r.length:=by omega
  rw [kd (by omega),e,Nat.mod_self,yZ];cases r with
  | nil=>simp at aj
  | cons x r=>rfl
theorem ab2 {l:List Nat} {i a b:Nat} (af:l[i]? = some a) (ai:l[i + 1]? = some b):l.take (i + 2)=l.take i ++ a :: [b]/\l.take (i + 1)=l.take i ++ [a]:=by
 have aw:l.take (i + 1)=l.take i ++ [a]:=by rw [i9,af];rfl
 refine ⟨?_,aw⟩;rw [show i + 2=(i + 1) + 1 from rfl,i9,ai,aw];simp
theorem Ys {r:List Nat} {i k:Nat} (h:r[i]? = some k):∃ a,k6 r i=a ++ [k]/\k6 r (i + 1)=a ++ k :: [mG r i]:=by
 have aj:=(cV.mp h).1;have af:(r ++ r.take 1)[i]? = some k:=by rw [kq aj];exact h
 obtain ⟨aw,az⟩:=ab2 af (wP aj);exact ⟨_,az,aw⟩
theorem Mm (o:dn):∀ (a:List Nat) (x:Nat) (r:List Nat),hz o (a ++ x :: r)=(hz o (a ++ [x]) && hz o (x :: r)):=by
 intro a
 induction a with
 | nil=>intro x r;simp [hz]
 | cons u a a_=>
  intro x r;cases a with
  | nil=>simp [hz]
  | cons v a=>
   have:=a_ x r;simp only [kn,hz] at this ⊢;rw [this,Bool.and_assoc]
theorem abi (o:dn) {r:List Nat} {i:Nat} (aj:i <= r.length) (h:hz o (k6 r i)=false):hz o (r ++ r.take 1)=false:=by
 unfold k6 at h;cases ak:(r ++ r.take 1)[i]? with
 | none=>
  rw [xY (by have:=Pd.mp ak;omega)] at h;exact h
 | some x=>
  have ax:=(cV.mp ak).1;rw [i9,ak] at h;have e:r ++ r.take 1=(r ++ r.take 1).take i ++ x :: (r ++ r.take 1).drop (i + 1):=by
   conv=>lhs;rw [<- Zs i (r ++ r.take 1)]
   rw [List.drop_eq_getElem_cons ax];rw [(cV.mp ak).2]
  rw [e,Mm];have h':hz o ((r ++ r.take 1).take i ++ [x])=false:=h;rw [h',tR]
section
variable (P:Program) (w:World)
def Lq (t:bJ):bI:=fun vs H Q _=>∃ wp z a nR o r n ws,vs=[.ref wp,.int z,.ref a,.ref nR]/\i0 P w t H wp n ws/\jb P w H a o/\H nR=some (.tup (fy r))/\r.length <= 12/\KF (ac n ws) o/\jf n ws/\aY H/\Q (.bp (i7 (ac n ws) z o r)) H
end
theorem adm:b_ P base T 2 t.r7 t.uB x3 (Lq P w t):=by
 have key:bt P w K ah base b7 2 t.r7 t.uB x3 (fun vs H Q _=>∃ wp z a nR o r n ws,vs=[.ref wp,.int z,.ref a,.ref nR]/\i0 P w t H wp n ws/\jb P w H a o/\H nR=some (.tup (fy r))/\r.length <= 12/\KF (ac n ws) o/\jf n ws/\aY H/\∀ I,aN H I->Q (.bp (i7 (ac n ws) z o r)) I):=by
  refine cF (UE T) fun Ki=>cF (OY T) fun FA=>?_;exists T.Di.ok uK,9
  obtain ⟨wp,z,a,nR,o,r,n,ws,rfl,W,O,tq,hlen,ok,cj,bc,q⟩:=h;refine ⟨_,(aM (c9 (gr.pt (vN (cU sh (g7 jU rfl T.iI iF (ae (U 3) aA)) aR (lc _)) (xK (cU sh (g7 aar rfl T.iI iF (ae (k2 (aeE rfl) rfl T.aeW ZQ (ae (U 3) aA)) aA)) (g7 jU rfl T.iI iF (ae (U 3) aA)) (lc _))))) (a3 (bX mz)) dd)
   (aM (bL (i:=4) uK.aC aR)
   (aM (ho hl rfl (afy rfl T.o8 (ae (U 3) aA)) (fZ (K:=K) (n:=2) rfl rfl (c0 (b6 (i:=5) uK.aC) (c0 (b6 (i:=6) uK.aC) f'))) (aM (bL (i:=7) uK.aC (cD er (U 3) (bS lQ (bS dJ (U 5) aR) (g7 jU rfl T.iI iF (ae (U 3) aA)))))
   (aM (c9 (tT (mK (bK Ki av T.LM T.zj.bh T.UM (ae (U 2) (ae (U 6) (ae (U 7) aA)))))) (a3 (bX mz)) dd)
   (a3 (Ra (i:=4) uK.aC rfl (lY rfl) (bK FA av T.Lp T.zH.bh T.Ly (ae (U 0) (ae (U 1) (ae (U 2) (ae (U 6) (ae (U 7) aA)))))) Qp)))))
   (a3 (bX (iH qM (U 4) aR (lc _))))))),?_⟩
  have amU:(fy r).length <= 1000:=by rw [lg];omega
  simp only [di];refine lF (fun b I=>aN H I/\aY I/\b = !(decide (2 <= r.length) && decide r.Nodup)) (fun Q a5=>?_) (fun H1 Bn=>?_) (fun H1 Bn=>?_)
  .nofun;refine ⟨_,.inr (bY.of tq),?_⟩;rw [lg];by_cases ai:2 <= r.length
   .rw [if_neg (by rw [decide_eq_true_eq];omega)];refine ⟨_,(aft r) ▸ tq,by rw [bb];omega,fun p S k aJ V4 ao=>⟨S,k,aS,V4,_,.inr ((bY.of tq).same (a0 ao)),a5 _ _ ⟨a0 ao,bc.upd,?_⟩⟩⟩;rw [bb,dL] at aJ;rw [lg,decide_eq_true ai,z7];by_cases hd:r.Nodup
    .rw [decide_eq_true hd];exact decide_eq_false fun g=>aJ.mp (by omega) hd
    .rw [decide_eq_false hd];have:=aJ.mpr hd;exact decide_eq_true (by omega)
   .rw [if_pos (by rw [decide_eq_true_eq];omega)];refine a5 _ _ ⟨aN.refl _,bc,?_⟩;rw [decide_eq_false ai];rfl
  .obtain ⟨s1,bH,JM⟩:=Bn;nofun;have ar:(decide (2 <= r.length) && decide r.Nodup)=false:=by rw [<- ags (decide (2 <= r.length) && decide r.Nodup),<- JM];rfl
   have:=q H1 s1;rw [show i7 (ac n ws) z o r=false by unfold i7;rw [ar];rfl] at this;exact this
  obtain ⟨s1,bH,JM⟩:=Bn;have ar:(decide (2 <= r.length) && decide r.Nodup)=true:=by rw [<- ags (decide (2 <= r.length) && decide r.Nodup),<- JM];rfl
  rw [iQ,decide_eq_true_eq,decide_eq_true_eq] at ar;have cf:r ≠ []:=fun g=>by rw [g] at ar;exact absurd ar.1 (by decide)
  simp only [ft,di];(nofun; repeat (dsimp only [OS];nofun));have xa:=s1 _ _ tq;refine ⟨⟨_,bY.of xa⟩,?_⟩;refine ap.of (n:=r.length) (fun i σ I=>aN H1 I/\aY I/\hz o (k6 r i)=true/\∃ x y u,σ=[~~~wp,some (.int z),~~~a,~~~nR,some (.int (fP (ac n ws) z o (k6 r i))),x,y,u]) ?_ ?_ ?_ ?_ ?_
  .rw [aiO cf];exact ⟨aN.refl _,bH,rfl,_,_,_,rfl⟩
  .rintro i σ ay aj ⟨s2,_⟩;exact ⟨_,_,bY.of (s2 _ _ xa),cJ (by rw [lg];exact aj)⟩
  .rintro σ ay ⟨s2,_⟩;exact ⟨_,bY.of (s2 _ _ xa),lg r⟩
  .rintro i σ ay v bA aj ⟨s2,bQ,al,x,y,u,rfl⟩ ⟨p,Xk,ao,rfl,aT,rfl⟩;have Af:=aT _ (bY.of (s2 _ _ xa));obtain ⟨k,aJ,rfl⟩:=KR Af;obtain ⟨pr,RE,PY⟩:=Ys aJ;have s3:=s2.trans (a0 (o:=.tup [.int i,.int (k:Int)]) ao);have df:aY (upd ay p (.tup [.int i,.int (k:Int)])):=bQ.upd;refine si ?_;simp only [di,ks,kv];generalize upd ay p (.tup [.int i,.int (k:Int)])=dH at s3 df ⊢;have Rb:=s3 _ _ xa;have V':=W.same (s1.trans s3);have Qs:jb P w dH a o:=fv O (s1.trans s3);have hm:(i + 1) % r.length < r.length:=Nat.mod_lt _ (by omega);nofun;refine ⟨_,.inr (bY.of Rb),by rw [lg];omega,_,bY.of Rb,V.int (mG r i:Nat),?_,?_⟩
   .rw [lg,show ((i:Int) + 1) % (r.length:Int)=(((i + 1) % r.length:Nat):Int) by rw [Int.natCast_emod];rfl];refine dw ?_;unfold fy mG;rw [ec,cJ hm];rfl
   have QI:hz o (k6 r (i + 1))=dm o k (mG r i):=by rw [PY,Mm,<- RE,al];simp [hz]
   have Vr:fP (ac n ws) z o (k6 r (i + 1))=fP (ac n ws) z o (k6 r i) + iB (ac n ws) z o k (mG r i):=by rw [PY,lR,<- RE];simp [fP]
   refine dh (!dm o k (mG r i)) (fun Q a5=>?_) (fun ab=>?_) (fun ab=>?_)
   .nofun;exact ⟨a,k,mG r i,o,rfl,Qs,df,_,rfl,a5⟩
   .nofun;have:=q dH (s1.trans s3);rw [show i7 (ac n ws) z o r=false by unfold i7;rw [abi o (i:=i + 1) (by omega) (by rw [QI];simpa using ab),A3,tR]] at this;exact this
   .have ew:dm o k (mG r i)=true:=by simpa using ab
    simp only [ft];nofun;refine ⟨wp,z,a,k,mG r i,o,n,ws,rfl,V',Qs,ok.XZ cj.ok ew,df,?_⟩;exact ⟨_,_,rfl,rfl,s3,df,by rw [QI];exact ew,by rw [Vr],_,rfl⟩
  .rintro σ ay bU;ac_rfl
   obtain ⟨s2,bQ,al,x,y,u,rfl⟩:=bU;subst bM;rw [L0 cf] at al;nofun;have:=q ay (s1.trans s2);rw [show i7 (ac n ws) z o r=decide (0 < fP (ac n ws) z o (r ++ r.take 1)) by unfold i7;rw [decide_eq_true ar.1,decide_eq_true ar.2,al];rfl] at this;rw [L0 cf];exact this
 exact key.forget fun vs H Q E h=>by
  obtain ⟨wp,z,a,nR,o,r,n,ws,e,W,O,tq,hlen,ok,cj,bc,q⟩:=h;exact ⟨bc,wp,z,a,nR,o,r,n,ws,e,W,O,tq,hlen,ok,cj,bc,fun I ck=>⟨ck,q⟩⟩
def fp (H:aq) (qs:List Addr) (ps:List (List Nat)):Prop:=qs.length=ps.length/\∀ (i:Nat) (q:Addr) (p:List Nat),qs[i]? = some q->ps[i]? = some p->H q=some (.tup (fy p))
def jA (H:aq) (l:Addr) (ps:List (List Nat)):Prop:=∃ qs:List Addr,H l=some (.lst (qs.map V.ref))/\fp H qs ps
theorem fp.same {H I:aq} {qs:List Addr} {ps:List (List Nat)} (h:fp H qs ps) (s:aN H I):fp I qs ps:=⟨h.1,fun i q p af ai=>s _ _ (h.2 i q p af ai)⟩
theorem fp.nil (H:aq):fp H [] []:=⟨rfl,fun i q p h=>by simp at h⟩
theorem fp.app {H:aq} {qs rs:List Addr} {ps us:List (List Nat)} (h:fp H qs ps) (g:fp H rs us):fp H (qs ++ rs) (ps ++ us):=by
 refine ⟨by rw [dq,dq,h.1,g.1],fun i q p af ai=>?_⟩;by_cases aj:i < qs.length
 .rw [kq aj] at af;rw [kq (by rw [<- h.1];exact aj)] at ai;exact h.2 i q p af ai
 .rw [kd (by omega)] at af;rw [kd (by rw [<- h.1];omega),<- h.1] at ai;exact g.2 _ q p af ai
theorem fp.one {H:aq} {q:Addr} {p:List Nat} (h:H q=some (.tup (fy p))):fp H [q] [p]:=by
 refine ⟨rfl,fun i cS iu af ai=>?_⟩;cases i with
 | zero=>cases af;cases ai;exact h
 | succ i=>simp at af
theorem fp.put {H:aq} {qs:List Addr} {ps:List (List Nat)} {f:Addr} {xs:List V} {o:ey} (h:fp H qs ps) (hf:H f=some (.lst xs)):fp (upd H f o) qs ps:=
 ⟨h.1,fun i q p af ai=>by
  have e:=h.2 i q p af ai;rw [aX (fun z=>by rw [z,hf] at e;cases e)];exact e⟩
theorem jA.same {H I:aq} {l:Addr} {ps:List (List Nat)} (h:jA H l ps) (s:aN H I):jA I l ps:=by
 obtain ⟨qs,e,t⟩:=h;exact ⟨qs,s _ _ e,t.same s⟩
noncomputable def kF (S:Sys) (p:List Nat) (i:Nat):List Nat:=((dW i).map fun k=>p.headD 0 + 1 + k).filter fun v=>S.e (jm p) v
theorem M_ (S:Sys) (p:List Nat) (i:Nat):kF S p (i + 1)=kF S p i ++ (if S.e (jm p) (p.headD 0 + 1 + i) then [p.headD 0 + 1 + i] else []):=by
 unfold kF;rw [oy,eD,xH,dR,mb,uQ,xc]
theorem Oj (S:Sys) (p:List Nat) (i:Nat):(kF S p i).length <= i:=by
 unfold kF;refine b8 (o6 ..) ?_;rw [bb,kS];exact bu _
theorem S4 {p:List Nat} (h:p ≠ []):i' (fy p) (-1)=some (.int (jm p:Nat)):=by
 have h0:0 < p.length:=yG.mpr h;obtain ⟨a,u,rfl⟩:∃ a u,p=a ++ [u]:=by
  rcases uE p with q | ⟨a,u,q⟩
  .exact absurd q h
  .exact ⟨a,u,by rw [q,vy]⟩
 rw [P7];unfold i' mY;rw [lg,if_neg (by decide),if_pos (by omega)];rw [dq] at h0 ⊢;rw [show ((-1:Int) + ((a.length + [u].length:Nat):Int)).toNat=a.length by simp;omega];unfold fy;rw [Iu,ec,kd (bu _),yZ];rfl
theorem Yx (b:Nat) (l:List Nat):n2 (.int (b:Int)) (fy l)=decide (b ∈ l):=by
 unfold n2 fy;rw [afx,oE];simp only [EY,YX,lK,beq_iff_eq,decide_eq_true_eq];constructor
 .rintro ⟨y,aT,e⟩;rw [<- Ot e];exact aT
 .intro h;exact ⟨b,h,rfl⟩
theorem aeg {S:Sys} {ps:List (List Nat)} {i:Nat} {p:List Nat} (h:ps[i]? = some p):(ps.take (i + 1)).flatMap (kX S)=(ps.take i).flatMap (kX S) ++ kX S p:=by
 rw [i9,h,Mk];simp
section
variable (P:Program) (w:World)
def agi (t:bJ):bI:=fun vs H Q _=>∃ wp pl n ws ps,vs=[.ref wp,.ref pl]/\i0 P w t H wp n ws/\jA H pl ps/\(∀ p ∈ ps,p ≠ []/\p.length <= 6/\∀ x ∈ p,x < ws.length)/\ps.length <= 280000/\jf n ws/\aY H /\
 ∀ r I,aN H I->aY I->H r=none->jA I r (ps.flatMap (kX (ac n ws)))->Q (.ref r) I
end
theorem afZ:b_ P base T 1 t.wG t.z2 C6 (agi P w t):=by
 exists T.IV.ok A1,9
 obtain ⟨wp,pl,n,ws,ps,rfl,W,L,zG,eE,cj,bc,q⟩:=h;obtain ⟨au,al,cE,aw,az,D⟩:=id W;obtain ⟨qs,e',f6,nP⟩:=id L;have ba:=gF av;have iA:=cj.2.1;refine ⟨_,(aM (bL (i:=2) A1.aC (gO aA))
   (aM (ho hl rfl (iP (U 1)) (EM (i:=3) A1.aC rfl (qI rfl)) (aM (t8 (i:=4) A1.aC rfl (lY rfl) rfl (L_ rfl T.lL (ae (bS dJ (cD er (U 3) aR) aR) (ae (c1 (U 0) rfl) aA))) (gx (sc:=bG xg) rfl (by ac_nf)) (N:=["want","path","wanted"]) (sel:=[none,some 3,some 0]) (gs (M:=He) (by ac_nf)) (fD.of (fun _ _ _ _=>(b6 (i:=0) (eT (N:=["want","path","wanted"]) (by ac_nf) rfl))) (fun _ _ _ _=>⟨_,(sF (qV (ud ba (eL (ae (cD er (U 1) (Oa NJ aR)) (ae (U 0) aA))) (c1 (U 2) rfl)))),by walk_at "B"⟩) (fun _ _ _ _=>⟨_,(U 0),by walk_at "B"⟩)) rfl)
   (a3 (fO (iS m9 Oq akA K8 (U 2) (ae (iG rfl (iP (U 4)) (gx (sc:=bG xg) rfl (by ac_nf)) (N:=["want","path"]) (sel:=[none,some 3]) (gs (M:=He) (by ac_nf)) (fD.of (fun _ _ _ _=>(b6 (i:=0) (eT (N:=["want","path"]) (by ac_nf) rfl))) (fun _ _ _ _=>⟨_,(sF (cU AU (U 0) (U 1) (by with_unfolding_all rfl))),by walk_at "B"⟩) (fun _ _ _ _=>⟨_,(bS aa8 (U 1) (eL (ae (U 0) aA))),by walk_at "B"⟩))) aA))))))
   (a3 (bX (U 2))))),?_⟩
 nofun;refine ⟨by decide,fun f hf=>⟨⟨_,aW.of ((a0 hf) _ _ e')⟩,?_⟩⟩;refine ap.list (xs:=qs.map V.ref) (fun i σ I=>aN H I/\aY I/\jA I f ((ps.take i).flatMap (kX (ac n ws)))/\∃ x y,σ=[~~~wp,~~~pl,~~~f,x,y]) ?_ ?_ ?_ ?_
 .exact ⟨a0 hf,bc.upd,⟨[],aS,fp.nil _⟩,_,_,rfl⟩
 .rintro i σ I aj ⟨s1,_⟩;exact aW.of (s1 _ _ e')
 .rintro i v σ H1 aU bU;ac_rfl
  obtain ⟨s1,bH,⟨aQ,f1,f2⟩,x,y,rfl⟩:=bU;obtain ⟨gD,f9,rfl⟩:=eU aU;have aj:i < ps.length:=by rw [<- f6];exact (cV.mp f9).1
  have oo:ps[i]? = some ps[i]:=cJ aj;have aB:=nP i gD _ f9 oo;obtain ⟨cf,ajI,mj⟩:=zG _ (d4 oo);subst bM;generalize ps[i]=p at oo aB cf ajI mj;have PU:=fv D s1;simp only [di];nofun;have cQ:p.headD 0 < ws.length:=by
   cases p with
   | nil=>exact absurd rfl cf
   | cons x p=>exact mj x (hH ..)
  refine ⟨_,bY.of (s1 _ _ aB),V.int (p.headD 0:Nat),?_,_,rfl,_,vc T (s1 _ _ aw),_,rfl,by omega,by omega,by omega,by omega,?_⟩
  .cases p with
   | nil=>exact absurd rfl cf
   | cons x p=>exact dw (j:=0) rfl
  rw [show ((ws.length:Int) - ((p.headD 0:Nat) + 1)).toNat=ws.length - (p.headD 0 + 1) by omega];refine cY.range (fun i ys I=>aN H1 I/\aY I/\ys=fy (kF (ac n ws) p i)) (b8 (show ws.length - (p.headD 0 + 1) <= 6 by omega) (by decide)) ⟨aN.refl _,bH,rfl⟩ (fun i ys I aj ⟨_,_,e⟩=>by rw [e,lg];exact Oj ..) ?_ ?_
  .rintro k ys ay aJ ⟨s2,bQ,rfl⟩ N bx;nofun;rw [show (p.headD 0:Int) + 1 + (k:Int)=((p.headD 0 + 1 + k:Nat):Int) by omega];refine ⟨Sub.name,_,bY.of ((s1.trans s2) _ _ aB),_,S4 cf,by decide,fun eG eP=>⟨_,og T (a0 eP _ _ ((s1.trans s2) _ _ aw)),cE,rfl,_,fv (fv D (s1.trans s2)) (a0 eP),e_ (jm p) (p.headD 0 + 1 + k),aS,?_⟩⟩;rw [Gx];have s4:=s2.trans (a0 (o:=.tup [V.int ((jm p:Nat):Int),V.int ((p.headD 0 + 1 + k:Nat):Int)]) eP);cases he:(ac n ws).e (jm p) (p.headD 0 + 1 + k) with
   | true=>
    refine bx _ _ ⟨s4,bQ.upd,?_⟩;rw [M_,he];unfold fy;rw [if_pos rfl,eD];rfl
   | false=>
    refine bx _ _ ⟨s4,bQ.upd,?_⟩;rw [M_,he,if_neg fh,me]
  .rintro ys ay ⟨s2,bQ,rfl⟩ jr afa;have s3:=s2.trans (a0 (o:=.lst (fy (kF (ac n ws) p (ws.length - (p.headD 0 + 1))))) afa);have df:aY (upd ay jr (.lst (fy (kF (ac n ws) p (ws.length - (p.headD 0 + 1)))))):=bQ.upd;have bW:(upd ay jr (.lst (fy (kF (ac n ws) p (ws.length - (p.headD 0 + 1)))))) jr=some (.lst (fy (kF (ac n ws) p (ws.length - (p.headD 0 + 1))))):=aS;generalize upd ay jr (.lst (fy (kF (ac n ws) p (ws.length - (p.headD 0 + 1)))))=bA at s3 df bW ⊢;have acI:=Oj (ac n ws) p (ws.length - (p.headD 0 + 1));rw [aeg oo];refine ⟨.inl ⟨_,aW.of (s3 _ _ f1)⟩,jr,rfl,⟨_,aW.of bW⟩,?_⟩;rw [show kX (ac n ws) p=((kF (ac n ws) p (ws.length - (p.headD 0 + 1))).filter fun v=>decide (v ∉ p)).map fun v=>p ++ [v] from rfl];generalize kF (ac n ws) p (ws.length - (p.headD 0 + 1))=jr at bW acI ⊢;refine cY.list (xs:=fy jr) (fun i ys I=>aN bA I/\aY I/\∃ rs:List Addr,ys=rs.map V.ref/\fp I rs (((jr.take i).filter fun v=>decide (v ∉ p)).map fun v=>p ++ [v])) (by rw [lg];exact b8 (show jr.length <= 6 by omega) (by decide)) ⟨aN.refl _,df,[],rfl,fp.nil _⟩ ?_ ?_ ?_
   .rintro i ys I aj bU;ac_rfl
    obtain ⟨s4,d8,rs,rfl,pQ⟩:=bU;subst bM;refine ⟨aW.of (s4 _ _ bW),?_⟩;rw [bb,pQ.1,bb];refine b8 (o6 ..) ?_;rw [eX];omega
   .rintro k v ys dH aU ⟨s4,d8,rs,rfl,pQ⟩ N bx;obtain ⟨u,aiD,rfl⟩:=KR aU;nofun;have lX:=(s1.trans (s3.trans s4)) _ _ aB;refine ⟨Sub.name,_,.inr (bY.of lX),rfl,?_,?_⟩
    .refine qS.mpr fun x ak=>?_
     obtain ⟨y,_,rfl⟩:=da.mp ak;rfl
    have CI:jr.take (k + 1)=jr.take k ++ [u]:=by rw [i9,aiD];rfl
    rw [Yx];by_cases BN:u ∈ p
    .rw [decide_eq_true BN,if_neg (by decide)];refine bx _ _ ⟨s4,d8,rs,rfl,?_⟩;rw [CI,xH,uQ,decide_eq_false (fun z=>z BN),if_neg fh,xc,me];exact pQ
    .rw [decide_eq_false BN,if_pos (by decide)];refine ⟨by decide,fun eG eP=>⟨_,bY.of (a0 eP _ _ lX),_,bY.of aS,(fun z=>cf (by unfold fy at z;exact List.map_eq_nil_iff.mp z)),b8 (show (fy p).length + 1 <= 7 by rw [lg];omega) (by decide),(fun z=>by cases z),fun _ ad_ Py=>bx _ _ ⟨?_,?_,rs ++ [ad_],by rw [eD];rfl,?_⟩⟩⟩
     .exact (s4.trans (a0 eP)).trans (a0 Py)
     .exact (d8.upd).upd
     .rw [CI,xH,uQ,decide_eq_true BN,if_pos rfl,xc,eD];refine (pQ.same ((a0 eP).trans (a0 Py))).app (fp.one ?_);rw [aS];unfold fy;rw [eD];rfl
   .rintro ys dH ⟨s4,d8,rs,rfl,pQ⟩ c' lI;have s5:=(s3.trans s4).trans (a0 (o:=.lst (rs.map V.ref)) lI);have el:=s5 _ _ f1;rw [lg,jg] at pQ;have qj:aQ.length <= 280000 * 6:=by
     rw [f2.1];refine b8 (Lw (c:=6) (fun p=>b8 (MO p) iA) _) (Te _ ?_);rw [eX];omega
    have agW:rs.length <= 6:=by
     rw [pQ.1,bb];exact b8 (o6 ..) (by omega)
    refine ⟨_,rfl,_,el,_,aS,?_,?_,?_,⟨aQ ++ rs,by rw [aS,eD],?_⟩,_,rfl⟩
    .rw [bb,bb];exact b8 (show aQ.length + rs.length <= 1680006 by omega) (by decide)
    .exact (s1.trans s5).hM hf
    .exact (d8.upd).upd
    .exact ((f2.same s5).app (pQ.same (a0 lI))).put el
 .rintro σ H1 bU;ac_rfl
  obtain ⟨s1,bH,sA,x,y,rfl⟩:=bU;subst bM;nofun;rw [bb,f6,jg] at sA;exact q f H1 s1 bH hf sA
theorem ahh {S:Sys} (hm:S.m <= 6):∀ k,k <= 6->(jv S k).length <= k * 279936:=by
 intro k
 induction k with
 | zero=>intro _;exact bu _
 | succ k a_=>
  intro aJ;unfold jv;rw [dq];have af:=a_ (by omega);have ai:=b8 (o6 (oc S) (e0 S (k + 1))) (MZ (S:=S) (k + 1));have br:S.m ^ (k + 1 + 1) <= 6 ^ 7:=b8 (Va hm _) (NZ (by decide) (by omega));omega
theorem fp.at {H:aq} {qs:List Addr} {ps:List (List Nat)} (h:fp H qs ps) {i:Nat} {q:Addr} (aB:qs[i]? = some q):∃ p,ps[i]? = some p/\H q=some (.tup (fy p)):=by
 have aj:i < ps.length:=by rw [<- h.1];exact (cV.mp aB).1
 exact ⟨_,cJ aj,h.2 i q _ aB (cJ aj)⟩
section
variable (P:Program) (w:World)
def Kq (t:bJ):bI:=fun vs H Q _=>∃ wp n ws,vs=[.ref wp]/\i0 P w t H wp n ws/\jf n ws/\aY H /\
 ∀ r I k,aN H I->aY I->e0 (ac n ws) k=[]->k <= 6->jA I r (jv (ac n ws) k)->Q (.ref r) I
end
theorem Q5:b_ P base T 2 t.qD t.te ["wanted"] (Kq P w t):=by
 refine cF (afZ T) fun ahr=>?_;exists T.Cy.ok yW,9
 obtain ⟨wp,n,ws,rfl,W,cj,bc,q⟩:=h;obtain ⟨au,al,cE,aw,az,D⟩:=id W;have ba:=gF av;have iA:=cj.2.1;have hm:(ac n ws).m <= 6:=iA;refine ⟨_,(aM (bL (i:=1) yW.aC (gO aA))
   (aM (t8 (i:=2) yW.aC rfl (lY rfl) rfl (mV rfl T.lL (ae (c1 (U 0) rfl) aA)) (gx (sc:=bG xt) rfl (by ac_nf)) (N:=["want"]) (sel:=[none]) (gs (M:=F6) (by ac_nf)) (fD.of (fun _ _ _ _=>(b6 (i:=0) (eT (N:=["want"]) (by ac_nf) rfl))) (fun _ _ _ _=>⟨_,iz,by walk_at "B"⟩) (fun _ _ _ _=>⟨_,(eL (ae (U 0) aA)),by walk_at "B"⟩)) rfl)
   (aM (CE hl (TF (U 2) (fun _=>rfl)) (aM (bL (i:=2) yW.aC (bK ahr av T.aa4 T.IV.bh T.Ye (ae (U 0) (ae (U 2) aA))))
   (a3 (fO (iS m9 Oq akA K8 (U 1) (ae (iG rfl (iP (U 2)) (gx (sc:=bG xt) rfl (by ac_nf)) (N:=["path","wanted"]) (sel:=[none,some 0]) (gs (M:=F6) (by ac_nf)) (fD.of (fun _ _ _ _=>(b6 (i:=0) (eT (N:=["path","wanted"]) (by ac_nf) rfl))) (fun _ _ _ _=>⟨_,(sF (qV (ud ba (eL (ae (cD er (U 0) (Oa NJ aR)) (ae (cD er (U 0) aR) aA))) (c1 (U 1) rfl)))),by walk_at "B"⟩) (fun _ _ _ _=>⟨_,(U 0),by walk_at "B"⟩))) aA))))))
   (a3 (bX (U 1)))))),?_⟩
 nofun;refine ⟨by decide,fun f hf=>⟨_,vc T ((a0 hf) _ _ aw),_,rfl,by omega,by omega,?_⟩⟩;rw [show ((ws.length:Int)).toNat=ws.length by omega];have pT:aN H (upd H f (.lst [])):=a0 hf;have PI:aY (upd H f (.lst [])):=bc.upd;have Hn:(upd H f (.lst [])) f=some (.lst []):=aS;generalize upd H f (.lst [])=v5 at pT PI Hn ⊢;refine cY.range (fun i ys I=>aN v5 I/\aY I/\∃ rs:List Addr,ys=rs.map V.ref/\fp I rs ((dW i).map fun k=>[k])) (b8 iA (by decide)) ⟨aN.refl _,PI,[],rfl,fp.nil _⟩ (fun i ys I aj ⟨_,_,rs,e,t'⟩=>by rw [e,bb,t'.1,bb,kS];exact bu _) ?_ ?_
 .rintro i ys H1 aj ⟨s1,bH,rs,rfl,t1⟩ N bx;nofun;refine ⟨Sub.name,by decide,fun eG eP=>bx _ _ ⟨s1.trans (a0 eP),bH.upd,rs ++ [eG],by rw [eD];rfl,?_⟩⟩;rw [oy,eD];refine (t1.same (a0 eP)).app (fp.one ?_);rw [aS];rfl
 rintro ys H1 ⟨s1,bH,rs,rfl,t1⟩ pl eE;have s2:=s1.trans (a0 (o:=.lst (rs.map V.ref)) eE);have bQ:aY (upd H1 pl (.lst (rs.map V.ref))):=bH.upd;have UA:jA (upd H1 pl (.lst (rs.map V.ref))) pl (e0 (ac n ws) 0):=⟨rs,aS,t1.same (a0 eE)⟩;generalize upd H1 pl (.lst (rs.map V.ref))=ay at s2 bQ UA ⊢;refine ⟨fun j σ I=>∃ k qN,j=6 - k/\k <= 6/\aN H I/\aY I/\jA I f (jv (ac n ws) k)/\jA I qN (e0 (ac n ws) k)/\qN ≠ f/\σ=[~~~wp,~~~f,~~~qN],⟨6,0,pl,rfl,fL _,pT.trans s2,bQ,⟨[],s2 _ _ Hn,fp.nil _⟩,UA,c7 (Db (s1 _ _ Hn) eE),rfl⟩,?_⟩;rintro j σ bA bU;ac_rfl
 obtain ⟨k,qN,rfl,aJ,s3,df,Pn,FY,cf,rfl⟩:=bU;obtain ⟨qs,bF,cA⟩:=id FY;obtain ⟨aQ,f1,f2⟩:=id Pn;subst bM;nofun;refine ⟨!(qs.map V.ref).isEmpty,.inl ⟨_,aW.of bF,rfl⟩,?_⟩;by_cases he:e0 (ac n ws) k=[]
 .have w2:qs=[]:=uj.mp (by rw [cA.1,he];rfl);rw [w2,if_neg (by decide)];exact q f bA k s3 df he aJ Pn
 have w2:qs ≠ []:=fun z=>by
  have:=cA.1;rw [z] at this;exact he (uj.mp this.symm)
 have mR:k < 6:=by
  rcases yy k 6 with z | z
  .exact z
  .have:=MN (Xq (S:=ac n ws)) (k - (ac n ws).m);rw [show (ac n ws).m + (k - (ac n ws).m)=k by omega] at this;exact absurd this he
 rw [if_pos (by cases qs with | nil=>exact absurd rfl w2 | cons x l=>rfl)];have hlen:∀ k,k <= 6->(e0 (ac n ws) k).length <= 279936:=fun k aJ=>b8 (MZ k) (b8 (Va hm _) (NZ (n:=6) (by decide) (show k + 1 <= 7 by omega)))
 refine ⟨fun aL I=>∃ x,aN H I/\aY I/\jA I f (jv (ac n ws) (k + 1))/\jA I x (e0 (ac n ws) (k + 1))/\x ≠ f/\aL=[~~~wp,~~~f,~~~x],fun aL I z=>?_,?_⟩
 .obtain ⟨x,d_,d5,tI,LK,Mp,R5⟩:=z;exact ⟨6 - (k + 1),by omega,k + 1,rfl,by omega,d_,d5,tI,x,LK,Mp,R5⟩
 refine ⟨wp,qN,n,ws,e0 (ac n ws) k,rfl,W.same s3,FY,fun p ao=>?_,?_,cj,df,fun r dH s4 d8 Us uf=>?_⟩
 .obtain ⟨g1,g2,g3⟩:=B2 _ _ ao;refine ⟨?_,by omega,g3⟩;intro z;rw [z] at g1;cases g1
 .have:=hlen k aJ;omega
 obtain ⟨us,fm,h7⟩:=id uf;have f4:=s4 _ _ f1;have Mw:r ≠ f:=fun z=>by rw [z,f1] at Us;cases Us
 refine ⟨.inl ⟨_,aW.of f4⟩,r,rfl,⟨_,aW.of fm⟩,?_⟩;have Am:fp dH us (e0 (ac n ws) (k + 1)):=h7;have Bw:us.length <= 279936:=by rw [Am.1];exact hlen _ (by omega)
 refine cY.list (xs:=us.map V.ref) (fun i ys I=>aN dH I/\aY I/\∃ rs:List Addr,ys=rs.map V.ref/\fp I rs (((e0 (ac n ws) (k + 1)).take i).filter (oc (ac n ws)))) (by rw [bb];exact b8 Bw (by decide)) ⟨aN.refl _,d8,[],rfl,fp.nil _⟩ ?_ ?_ ?_
 .rintro i ys I aj bU;ac_rfl
  obtain ⟨s5,gc,p1,rfl,rP⟩:=bU;subst bM;refine ⟨aW.of (s5 _ _ fm),?_⟩;rw [bb,rP.1];refine b8 (o6 ..) ?_;rw [eX];omega
 .rintro i v ys fY aU ⟨s5,gc,p1,rfl,rP⟩ N bx;obtain ⟨gD,f9,rfl⟩:=eU aU;obtain ⟨p,ao,CH⟩:=Am.at f9;obtain ⟨g1,g2,g3⟩:=B2 _ _ (d4 ao);have R_:p ≠ []:=fun z=>by rw [z] at g1;cases g1
  have O2:=s5 _ _ CH;have Mn:=s3.trans (s4.trans s5);have jR:((e0 (ac n ws) (k + 1)).take (i + 1)).filter (oc (ac n ws))=((e0 (ac n ws) (k + 1)).take i).filter (oc (ac n ws)) ++ (if oc (ac n ws) p then [p] else []):=by
   rw [i9,ao,xH];show _ ++ Wj _ [p]=_;rw [uQ,xc]
  nofun;refine ⟨Sub.name,_,bY.of O2,_,S4 R_,_,bY.of O2,V.int (p.headD 0:Nat),?_,by decide,fun eG eP=>⟨_,og T (a0 eP _ _ (Mn _ _ aw)),cE,rfl,_,fv (fv D Mn) (a0 eP),e_ (jm p) (p.headD 0),aS,?_⟩⟩
  .cases p with
   | nil=>exact absurd rfl R_
   | cons x p=>exact dw (j:=0) rfl
  rw [Gx];have e5:=s5.trans (a0 (o:=.tup [V.int ((jm p:Nat):Int),V.int ((p.headD 0:Nat):Int)]) eP);have PK:=rP.same (a0 (o:=.tup [V.int ((jm p:Nat):Int),V.int ((p.headD 0:Nat):Int)]) eP);cases ar:(ac n ws).e (jm p) (p.headD 0) with
  | true=>
   refine bx _ _ ⟨e5,gc.upd,p1 ++ [gD],by rw [eD];rfl,?_⟩;rw [jR,show oc (ac n ws) p=true from ar,if_pos rfl];exact PK.app (fp.one (e5 _ _ CH))
  | false=>
   refine bx _ _ ⟨e5,gc.upd,p1,rfl,?_⟩;rw [jR,show oc (ac n ws) p=false from ar,if_neg fh,me];exact PK
 .rintro ys fY ⟨s5,gc,p1,rfl,rP⟩ c' lI;rw [bb,Am.1,jg] at rP;have u2:=a0 (o:=.lst (p1.map V.ref)) lI;have el:=u2 _ _ (s5 _ _ f4);have qj:aQ.length <= 6 * 279936:=by rw [f2.1];exact b8 (ahh hm k aJ) (Te _ aJ)
  have agW:p1.length <= 279936:=by
   rw [rP.1];exact b8 (o6 ..) (hlen _ (by omega))
  refine ⟨_,rfl,_,el,_,aS,?_,r,?_,(gc.upd).upd,⟨aQ ++ p1,by rw [aS,eD],?_⟩,⟨us,?_,?_⟩,Mw,rfl⟩
  .rw [bb,bb];exact b8 (show aQ.length + p1.length <= 1959552 by omega) (by decide)
  .exact (((s3.trans s4).trans s5).trans u2).hM hf
  .exact ((f2.same ((s4.trans s5).trans u2)).app (rP.same u2)).put el
  .rw [aX Mw];exact u2 _ _ (s5 _ _ fm)
  .exact ((Am.same s5).same u2).put el
noncomputable def e4 (S:Sys):dn:=(dW S.m).flatMap fun i=>((dW S.m).filter fun j=>S.e i j).map fun j=>(i,j)
theorem v9 {S:Sys} {i j:Nat} (h:(i,j) ∈ e4 S):S.e i j=true:=by
 obtain ⟨k,_,h⟩:=qn.mp h;obtain ⟨l,ax,e⟩:=da.mp h;cases e;exact (k1.mp ax).2
theorem F2 {S:Sys} (k:S.Ok) {i j:Nat} (h:S.e i j=true):(i,j) ∈ e4 S:=
 qn.mpr ⟨i,hZ.mpr (k.lt h).1,da.mpr ⟨j,k1.mpr ⟨hZ.mpr (k.lt h).2.1,h⟩,rfl⟩⟩
theorem aho {n:Int} {ws:List (a8 × Int)} {i:Nat} (aj:i < ws.length):∀ k,k <= ws.length->hR n ws i k=((dW k).filter fun j=>(ac n ws).e i j).map fun j=>(e_ i j,V.int ((ac n ws).st i j)):=by
 have ao:ws[i]? = some ws[i]:=cJ aj;intro k
 induction k with
 | zero=>intro _;rfl
 | succ k a_=>
  intro aJ;have aB:ws[k]? = some ws[k]:=cJ (by omega);have aG:=oC (n:=n) ao aB;rw [oy,xH,eD,<- a_ (by omega),uQ,xc];by_cases h:i ≠ k/\mt n ws[i].1 ws[k].1=true
  .rw [Qo ao aB h,aG.1,decide_eq_true h.1,h.2,if_pos (by rfl),dR,mb,aG.2]
  .rw [JO ao aB h,aG.1,if_neg (by simpa using h),mb,me]
theorem ad4 {α β:Type} {f g:α->List β}:∀ {l:List α},(∀ x ∈ l,f x=g x)->l.flatMap f=l.flatMap g:=by
 intro l
 induction l with
 | nil=>intro _;rfl
 | cons x l a_=>intro h;rw [BJ,BJ,h x (hH ..),a_ fun y aT=>h y (fk _ aT)]
theorem sV (n:Int) (ws:List (a8 × Int)):fz n ws ws.length=(e4 (ac n ws)).map fun p=>(e_ p.1 p.2,V.int ((ac n ws).st p.1 p.2)):=by
 unfold fz e4;rw [X9];refine ad4 fun i aj=>?_
 rw [aho (hZ.mp aj) _ (bu _),jC];rfl
theorem adb {n:Int} {ws:List (a8 × Int)} (h:ws.length <= 6):(e4 (ac n ws)).length <= 36:=by
 have:=Ph n ws ws.length;rw [sV,bb] at this;exact b8 this (aay h h)
theorem H7 {H:aq} {n:Int} {ws:List (a8 × Int)} {xs:List (List Key × Addr × Value)} (r:Paired (fun (p:List Key × V) (q:List Key × Addr × Value)=>p.1=q.1/\H q.2.1=some (.tup (p.1.map dO))/\bD p.2 q.2.2) (fz n ws ws.length) xs) {i:Nat} {k:List Key} {b:Addr} {u:Value} (ak:xs[i]? = some (k,b,u)):∃ x y,(e4 (ac n ws))[i]? = some (x,y)/\H b=some (.tup [.int (x:Nat),.int (y:Nat)]):=by
 rw [sV] at r;have aj:i < ((e4 (ac n ws)).map fun p=>(e_ p.1 p.2,V.int ((ac n ws).st p.1 p.2))).length:=by rw [Ps r];exact (cV.mp ak).1
 obtain ⟨q,aB,d_,d5,tI⟩:=NM r (cJ aj);rw [ak] at aB;cases aB;rw [bb] at aj;refine ⟨(e4 (ac n ws))[i].1,(e4 (ac n ws))[i].2,cJ aj,?_⟩;rw [sW] at d5;exact d5
section
variable (P:Program) (w:World)
def M5 (t:bJ):bI:=fun vs H Q _=>∃ wp a n ws o,vs=[.ref wp,.ref a]/\i0 P w t H wp n ws/\jb P w H a o/\jf n ws/\aY H /\
 (∀ r i j I,aN H I->aY I->I r=some (.tup [.int (i:Nat),.int (j:Nat)])->(ac n ws).e i j=true->dm o i j=false->Q (.ref r) I)/\((∀ i j,(ac n ws).e i j=true->dm o i j=true)->Q .bT H)
noncomputable def ik (S:Sys) (b:Nat->Int):List V:=(dW S.m).map fun v=>V.int (b v)
def P_ (t:bJ):bI:=fun vs H Q _=>∃ wp z a n ws o,vs=[.ref wp,.int z,.ref a]/\i0 P w t H wp n ws/\jb P w H a o/\jf n ws/\0 < z/\aY H /\
 ∀ r I,aN H I->aY I->H r=none->I r=some (.lst (ik (ac n ws) fun v=>md (ac n ws) z o (e4 (ac n ws)) ws.length v % z))->Q (.ref r) I
end
theorem UJ {S:Sys} {b:Nat->Int} {i:Nat} (h:i < S.m):(ik S b)[i]? = some (V.int (b i)):=by
 unfold ik;rw [ec,AP h];rfl
theorem afF {S:Sys} {b c:Nat->Int} {i:Nat} {x:Int} (af:c i=x) (ai:∀ j,j ≠ i->c j=b j):(ik S b).set i (V.int x)=ik S c:=by
 refine Np fun j=>?_
 unfold ik;rw [List.getElem?_set];by_cases bf:i=j
 .subst bf;rw [if_pos rfl,bb,kS];by_cases ax:i < S.m
  .rw [if_pos ax,ec,AP ax,<- af];rfl
  .rw [if_neg ax,ec,xV (by rw [kS];omega)];rfl
 .rw [if_neg bf,ec,ec];by_cases ax:j < S.m
  .rw [AP ax];show some (V.int (b j))=some (V.int (c j));rw [ai j (c7 bf)]
  .rw [xV (by rw [kS];omega)];rfl
theorem VH {n j:Nat} (h:j < n):mY n (j:Int)=some j:=by unfold mY;simp;omega
theorem agN {S:Sys} {z:Int} {o:dn} (b:Nat->Int) (i j:Nat):il S z o b (i,j) j=if b i + iB S z o i j > b j then b i + iB S z o i j else b j:=by
 have e:il S z o b (i,j) j=max (b j) (b i + iB S z o i j):=if_pos rfl;rw [e,Int.max_def];split <;> split <;> omega
theorem adv {S:Sys} {z:Int} {o:dn} (b:Nat->Int) (i j:Nat) {k:Nat} (h:k ≠ j):il S z o b (i,j) k=b k:=if_neg h
noncomputable def OC (z:Int):V->V
 | .int x=>.int (x % z)
 | v=>v
theorem aat (S:Sys) (b:Nat->Int) (z:Int):(ik S b).map (OC z)=ik S fun v=>b v % z:=by
 unfold ik;rw [jC];rfl
theorem ajo:b_ P base T 2 t.sy t.xE Bc (M5 P w t):=by
 refine cF (UE T) fun Ki=>?_;exists T.Ha.ok E5,9
 obtain ⟨wp,a,n,ws,o,rfl,W,O,cj,bc,bF,cA⟩:=h;obtain ⟨au,al,cE,aw,az,D⟩:=id W;have ba:=gF av;refine ⟨_,(aM (ho hl rfl (Jk (c1 (U 0) rfl)) (fZ (K:=K) (n:=2) rfl rfl (c0 (b6 (i:=2) E5.aC) (c0 (b6 (i:=3) E5.aC) f'))) (a3 (c9 (tT (mK (bK Ki av T.LM T.zj.bh T.UM (ae (U 1) (ae (U 2) (ae (U 3) aA)))))) (a3 (bX (eL (ae (U 2) (ae (U 3) aA))))) dd)))
   (a3 (bX jB))),?_⟩
 nofun;refine ⟨_,og T aw,_,rfl,_,D,fun b2 aF b5 xs r=>?_⟩;have s6:xs.length=(e4 (ac n ws)).length:=by rw [<- Ps r.bB,sV,bb]
 refine ap.of (n:=(fz n ws ws.length).length) (fun i σ I=>I=H/\(∀ l p,l < i->(e4 (ac n ws))[l]? = some p->dm o p.1 p.2=true)/\∃ x y,σ=[~~~wp,~~~a,x,y]) ?_ ?_ ?_ ?_ ?_
 .exact ⟨rfl,fun l p ax=>absurd ax (D4 _),_,_,rfl⟩
 .rintro i σ I aj ⟨rfl,_⟩;exact ⟨r.at_,aj⟩
 .rintro σ I ⟨rfl,_⟩;exact ⟨r.at_,bu _⟩
 .rintro i σ I v ay aj ⟨rfl,r5,x,y,rfl⟩ ⟨rfl,k,b,u,ku,rfl⟩;obtain ⟨es,i4,ao,ab⟩:=H7 r.bB ku;refine ox (bY.of ab) ?_;simp only [ks,kv];refine dh (!dm o es i4) (fun Q a5=>?_) (fun ab=>?_) (fun ab=>?_)
  .nofun;exact ⟨a,es,i4,o,rfl,O,bc,_,rfl,a5⟩
  .nofun;refine ⟨by decide,fun eG eP=>bF eG es i4 _ (a0 eP) bc.upd aS (v9 (d4 ao)) (by simpa using ab)⟩
  .simp only [ft];refine ⟨trivial,fun l p ax sQ=>?_,_,_,rfl⟩;rcases yy l i with z | z
   .exact r5 l p z sQ
   .have:l=i:=by omega
    subst this;rw [ao] at sQ;cases sQ;simpa using ab
 .rintro σ I bU;ac_rfl
  obtain ⟨rfl,r5,x,y,rfl⟩:=bU;subst bM;nofun;refine cA fun i j he=>?_
  obtain ⟨l,ax⟩:=q1 (F2 cj.ok he);refine r5 l _ ?_ ax;rw [sV,bb];exact (cV.mp ax).1
theorem ah2:b_ P base T 2 t.tA t.yr zk (P_ P w t):=by
 refine cF (OY T) fun FA=>?_;exists T.Ga.ok wW,9
 obtain ⟨wp,z,a,n,ws,o,rfl,W,O,cj,aD,bc,q⟩:=h;obtain ⟨au,al,cE,aw,az,D⟩:=id W;have ba:=gF av;have iA:=cj.2.1;refine ⟨_,(aM (t8 (i:=3) wW.aC rfl (lY rfl) rfl (mV rfl T.lL (ae (c1 (U 0) rfl) aA)) (gx (sc:=bG yI) rfl (by ac_nf)) (N:=["want"]) (sel:=[none]) (gs (M:=JG) (by ac_nf)) (fD.of (fun _ _ _ _=>(b6 (i:=0) (eT (N:=["want"]) (by ac_nf) rfl))) (fun _ _ _ _=>⟨_,iz,by walk_at "B"⟩) (fun _ _ _ _=>⟨_,aR,by walk_at "B"⟩)) rfl)
   (aM (ho hl rfl (mV rfl T.lL (ae (c1 (U 0) rfl) aA)) (b6 (i:=4) wW.aC) (a3 (ho hl rfl (Jk (c1 (U 0) rfl)) (fZ (K:=K) (n:=2) rfl rfl (c0 (b6 (i:=5) wW.aC) (c0 (b6 (i:=6) wW.aC) f'))) (a3 (ni (g7 (OH rfl) rfl T.Kj K1 (ae (cD gI (U 3) (U 6)) (ae (bS dJ (cD gI (U 3) (U 5)) (bK FA av T.Lp T.zH.bh T.Ly (ae (U 0) (ae (U 1) (ae (U 2) (ae (U 5) (ae (U 6) aA))))))) aA))) (X5 (U 3) (U 6) ae8))))))
   (a3 (bX (iG rfl (iP (U 3)) (gx (sc:=bG yI) rfl (by ac_nf)) (N:=["begin","size"]) (sel:=[none,some 1]) (gs (M:=JG) (by ac_nf)) (fD.of (fun _ _ _ _=>(b6 (i:=0) (eT (N:=["begin","size"]) (by ac_nf) rfl))) (fun _ _ _ _=>⟨_,iz,by walk_at "B"⟩) (fun _ _ _ _=>⟨_,(bS lQ (U 0) (U 1)),by walk_at "B"⟩))))))),?_⟩
 nofun;refine ⟨_,vc T aw,_,rfl,by omega,by omega,?_⟩;rw [show ((ws.length:Int)).toNat=ws.length by omega];refine cY.Rk (fun _=>V.int 0) (b8 iA (by decide)) (fun i N aj bx=>?_) (fun b ab=>?_)
 .nofun;exact ⟨Sub.name,bx⟩
 nofun;have gV:=a0 (o:=.lst ((dW ws.length).map fun _=>V.int 0)) ab;refine ⟨_,vc T (gV _ _ aw),_,rfl,by omega,by omega,?_⟩;rw [show ((ws.length:Int)).toNat=ws.length by omega];refine ap.range (fun i σ I=>aN H I/\aY I/\I b=some (.lst (ik (ac n ws) (md (ac n ws) z o (e4 (ac n ws)) i)))/\∃ x y u,σ=[~~~wp,some (.int z),~~~a,~~~b,x,y,u]) ⟨gV,bc.upd,aS,_,_,_,rfl⟩ ?_ ?_
 .rintro i σ H1 aj bU;ac_rfl
  obtain ⟨s1,bH,j0,x,y,u,rfl⟩:=bU;subst bM;nofun;refine ⟨_,og T (s1 _ _ aw),_,rfl,_,fv D s1,fun b2 aF b5 xs r=>?_⟩;have l9:cE ≠ b:=fun z=>by have g:=r.at_;rw [z,j0] at g;cases g
  refine ap.of (n:=(fz n ws ws.length).length) (fun j σ I=>c3 b H1 I/\aN H I/\aY I/\I b=some (.lst (ik (ac n ws) (((e4 (ac n ws)).take j).foldl (il (ac n ws) z o) (md (ac n ws) z o (e4 (ac n ws)) i))))/\∃ x y u,σ=[~~~wp,some (.int z),~~~a,~~~b,x,y,u]) ?_ ?_ ?_ ?_ ?_
  .exact ⟨c3.of (aN.refl _),s1,bH,j0,_,_,_,rfl⟩
  .rintro j σ I bf ⟨gi,_⟩;exact ⟨gi _ _ l9 r.at_,bf⟩
  .rintro σ I ⟨gi,_⟩;exact ⟨gi _ _ l9 r.at_,bu _⟩
  .rintro j σ I v ay bf ⟨gi,s2,bQ,kl,x,y,u,rfl⟩ ⟨rfl,k,aei,gJ,ku,rfl⟩;obtain ⟨es,i4,ao,pj⟩:=H7 r.bB ku;have he:=v9 (d4 ao);have cH:=cj.ok.lt he;refine ox (bY.of (gi _ _ (fun z=>by rw [z,j0] at pj;cases pj) pj)) ?_;simp only [ks,kv];nofun;have ai6:i4 < (ik (ac n ws) (((e4 (ac n ws)).take j).foldl (il (ac n ws) z o) (md (ac n ws) z o (e4 (ac n ws)) i))).length:=by unfold ik;rw [bb,kS];exact cH.2.1
   refine ⟨_,aW.of kl,_,dw (j:=i4) (UJ cH.2.1),_,aW.of kl,_,dw (j:=es) (UJ cH.1),wp,z,a,es,i4,o,n,ws,rfl,W.same s2,fv O s2,he,bQ,_,rfl,_,rfl,_,rfl,_,kl,i4,VH ai6,fun c u ar e=>by rw [aX ar];exact gi _ _ ar e,s2.hM ab,bQ.upd,?_,?_⟩
   .rw [aS];refine congrArg (fun l=>some (ey.lst l)) (afF ?_ fun k aJ=>?_)
    .rw [i9,ao,acA];exact agN _ es i4
    .rw [i9,ao,acA];exact adv _ es i4 aJ
   .exact ⟨_,rfl⟩
  .rintro σ I bU;ac_rfl
   obtain ⟨gi,s2,bQ,kl,x,y,u,rfl⟩:=bU;subst bM;rw [sV,bb,jg] at kl;exact ⟨s2,bQ,kl,_,_,_,rfl⟩
 .rintro σ H1 bU;ac_rfl
  obtain ⟨s1,bH,j0,x,y,u,rfl⟩:=bU;subst bM;nofun;refine ⟨⟨_,aW.of j0⟩,?_⟩;refine cY.VY (OC z) (aW.of j0) (by unfold ik;rw [bb,kS];exact b8 iA (by decide)) (fun i x N ak bx=>?_) (fun p ao=>?_)
  .unfold ik at ak;obtain ⟨y,_,rfl⟩:=da.mp (d4 ak);nofun;exact ⟨Sub.name,aD,bx⟩
  .rw [aat];exact q p _ (s1.trans (a0 ao)) bH.upd (s1.free ao) aS
section
open PySem.Spec PyProof.Rows
theorem ahS {X:aP} (ar:X.calm=true):jK X (.builtin "sum") (fun xs H Q=>∃ l bB,xs=[.ref l]/\aW X.K H l (nf V.int bB)/\(∀ k ∈ bB,0 <= k/\k <= 1000000000)/\bB.length <= 1000/\Q (.int bB.sum) H):=by
 intro aa s σ H xs us Q J r h;obtain ⟨l,bB,rfl,aB,aJ,ax,q⟩:=h;obtain ⟨u,rfl,dD⟩:=Op r;cases dD;obtain ⟨aI,bV,pl,aD⟩:=J.list aB;obtain ⟨xs,aw,az⟩:=XB bV;have xf:aI.toArray=intItems xs.toArray:=by rw [aw];unfold intItems;simp
 have agJ:s.heap.IsList l (intItems xs.toArray):=by rw [<- xf];exact pl.isList
 have s6:xs.length=bB.length:=by rw [<- az,bb]
 have aH:∀ i,i < bB.length->bB[i]? = some (numAt xs.toArray i):=fun i aj=>by
  rw [numAt_eq,jx];show bB[i]? = some (((xs.map (·.1))[i]?).getD 0);rw [az,cJ aj];rfl
 have zG:∀ n,n <= bB.length->preSum (numAt xs.toArray) n=(bB.take n).sum/\0 <= (bB.take n).sum/\(bB.take n).sum <= 1000000000 * (n:Int):=fun n=>by
  induction n with
  | zero=>intro _;exact ⟨by simp [preSum],by simp,by simp⟩
  | succ n a_=>
   intro UB;obtain ⟨es,je,LG⟩:=a_ (by omega);have e:=aH n (by omega);have aU:=aJ _ (d4 e);have aF:(bB.take (n + 1)).sum=(bB.take n).sum + numAt xs.toArray n:=by
    rw [i9,e,acr];simp
   refine ⟨?_,by omega,by omega⟩;show preSum (numAt xs.toArray) n + numAt xs.toArray n=_;rw [es,aF]
 have hsz:xs.toArray.size=bB.length:=by rw [eg,s6]
 refine sum_intList (J.ok.hd ar) agJ (fun j bf=>?_) fun h' cG t' k=>⟨.int bB.sum,H,J.kept k,⟨t',?_⟩,q⟩
 .rw [hsz] at bf;have e:=aH j bf;have aU:=aJ _ (d4 e);obtain ⟨hc,dM,p_⟩:=zG (j + 1) (by omega);unfold InLong;rw [hc];omega
 .rw [hsz,(zG _ (bu _)).1,jg]
end
noncomputable def pv (H:aq):oI->Addr->Prop
 | .alone k,a=>H a=some (.tup [.str (ag "alone"),.int (k:Nat)])
 | .ring r,a=>∃ b,H a=some (.tup [.str (ag "ring"),.ref b])/\H b=some (.tup (fy r))
 | .case i j p q,a=>∃ b c,H a=some (.tup [.str (ag "case"),.int (i:Nat),.int (j:Nat),.ref b,.ref c])/\pv H p b/\pv H q c
theorem pv.same {H I:aq} (s:aN H I):∀ {p:oI} {a:Addr},pv H p a->pv I p a:=by
 intro p
 induction p with
 | alone k=>intro a h;exact s _ _ h
 | ring r=>intro a ⟨b,af,ai⟩;exact ⟨b,s _ _ af,s _ _ ai⟩
 | case i j p q Gs Dq=>intro a ⟨b,c,af,ai,br⟩;exact ⟨b,c,s _ _ af,Gs ai,Dq br⟩
theorem dQ.mod {S:Sys} {z:Int} {b:Nat->Int} (D:dQ S z b):dQ S z fun v=>b v % z:=⟨D.1,fun i j e=>by
 have:=D.2 i j e;show _ <= (b j % z - b i % z) % z;rw [<- PA];exact this⟩
def zh (S:Sys) (z:Int) (o:dn) (d:Nat) (H I:aq) (bv U:V):Prop:=(∃ b fX,bv=.ref fX/\U=.bT/\H fX=none/\I fX=some (.lst (ik S b))/\(∀ v,0 <= b v/\b v < z)/\dQ S z b)\/(∃ p cO,bv=.bT/\U=.ref cO/\pv I p cO/\bn S z o p=true/\tj S.m d p)
section
variable (P:Program) (w:World)
def Zi (t:bJ) (d:Nat) (vs:List V) (H:aq) (z:Int) (n:Int) (ws:List (a8 × Int)) (o:dn):Prop:=∃ wp c' a k,vs=[.ref wp,.int z,.ref c',.ref a]/\i0 P w t H wp n ws/\jA H c' (jv (ac n ws) k)/\e0 (ac n ws) k=[]/\k <= 6/\jb P w H a o/\KF (ac n ws) o/\jf n ws/\lG (ac n ws) o <= d/\(∀ i,i < ws.length->(ac n ws).al i <= z)/\aY H
def za (t:bJ) (d:Nat):bI:=fun vs H Q _=>∃ z n ws o,Zi P w t d vs H z n ws o/\∀ r bv U I,aN H I->aY I->I r=some (.tup [bv,U])->zh (ac n ws) z o d H I bv U->Q (.ref r) I
noncomputable def ahM (t:bJ):Nat->bI
 | 0=>fun _ _ _ _=>False
 | d + 1=>za P w t d
end
theorem K4 (T:Txt w K ah t) (d:Nat) (BL:bt P w K ah base b7 (d + 2) t.o7 t.qL uU (ahM P w t d)):bt P w K ah base b7 (d + 3) t.o7 t.qL uU (za P w t d):=by
 refine T.vf.ok m' (fun vs H Q E h=>?_) (fun _ _ _ s H vs Q E av h=>?_)
 .obtain ⟨z,n,ws,o,⟨wp,c',a,k,rfl,_⟩,_⟩:=h;rfl
 obtain ⟨z,n,ws,o,⟨wp,c',a,k,rfl,W,R,mu,mR,O,a',cj,hd,aO,bc⟩,q⟩:=h;have ba:=gF av;have iA:=cj.2.1;have hm:(ac n ws).m <= 6:=iA;have aD:0 < z:=by
  have h0:0 < ws.length:=yG.mpr cj.2.2;have:=aO 0 h0;have:=cj.ok.a1 (i:=0) h0;omega
 obtain ⟨qs,bR,cw⟩:=id R;have agT:bt P w K ah base b7 (d + 2) t.r7 t.uB x3 (Lq P w t):=(adm T).mono (by omega);have ajL:bt P w K ah base b7 (d + 2) t.sy t.xE Bc (M5 P w t):=(ajo T).mono (by omega);have Xp:bt P w K ah base b7 (d + 2) t.tA t.yr zk (P_ P w t):=(ah2 T).mono (by omega);have Qn:bt P w K ah base b7 (d + 2) t.ve t.li nS (KV P w (ac n ws)):=(abG T _).mono (by omega);refine ⟨_,(aM (ho hl rfl (iP (U 2)) (b6 (i:=4) m'.aC) (a3 (c9 (mK (bK agT av T.VV T.Di.bh T.Zx (ae (U 0) (ae (U 1) (ae (U 3) (ae (U 4) aA)))))) (a3 (bX (eL (ae jB (ae (eL (ae cx (ae (U 4) aA))) aA))))) dd)))
   (aM (bL (i:=5) m'.aC (bK ajL av T.abM T.Ha.bh T.mo (ae (U 0) (ae (U 3) aA))))
   (aM (c9 (cU Jb (U 5) jB (lc _)) (a3 (bX (eL (ae (bK Xp av T.aj6 T.Ga.bh T.agV (ae (U 0) (ae (U 1) (ae (U 3) aA)))) (ae jB aA))))) dd)
   (aM (ni (U 5) (fZ (K:=K) (n:=2) rfl rfl (c0 (b6 (i:=6) m'.aC) (c0 (b6 (i:=7) m'.aC) f'))))
   (aM (ni (bK BL av T.GD T.vf.bh T.Ht (ae (U 0) (ae (U 1) (ae (U 2) (ae (bK Qn av T.LY T.zI.bh T.NI (ae (U 3) (ae (U 6) (ae (U 7) aA)))) aA))))) (fZ (K:=K) (n:=2) rfl rfl (c0 (b6 (i:=8) m'.aC) (c0 (b6 (i:=9) m'.aC) f'))))
   (aM (c9 (cU Gd (U 8) jB (lc _)) (a3 (bX (eL (ae (U 8) (ae jB aA))))) dd)
   (aM (ni (bK BL av T.GD T.vf.bh T.Ht (ae (U 0) (ae (U 1) (ae (U 2) (ae (bK Qn av T.LY T.zI.bh T.NI (ae (U 3) (ae (U 7) (ae (U 6) aA)))) aA))))) (fZ (K:=K) (n:=2) rfl rfl (c0 (b6 (i:=8) m'.aC) (c0 (b6 (i:=10) m'.aC) f'))))
   (aM (c9 (cU Gd (U 8) jB (lc _)) (a3 (bX (eL (ae (U 8) (ae jB aA))))) dd)
   (a3 (bX (eL (ae jB (ae (eL (ae cx (ae (U 6) (ae (U 7) (ae (U 9) (ae (U 10) aA)))))) aA))))))))))))),?_⟩
 simp only [di];refine vd (fun aL I=>I=H/\(∀ r ∈ jv (ac n ws) k,i7 (ac n ws) z o r=false)/\∃ x,aL=[~~~wp,some (.int z),~~~c',~~~a,x,none,none,none,none,none,none]) (fun gH cn AY _ _=>?_) ?_
 .nofun;refine ⟨⟨_,aW.of bR⟩,?_⟩;refine ap.list (xs:=qs.map V.ref) (fun i σ I=>I=H/\(∀ (l:Nat) r,l < i->(jv (ac n ws) k)[l]? = some r->i7 (ac n ws) z o r=false)/\∃ x,σ=[~~~wp,some (.int z),~~~c',~~~a,x,none,none,none,none,none,none]) ⟨rfl,fun l r ax=>absurd ax (D4 _),_,rfl⟩ (fun i σ I _ z=>by rw [z.1];exact aW.of bR) ?_ ?_
  .rintro i v σ H1 aU bU;ac_rfl
   obtain ⟨rfl,rD,x,rfl⟩:=bU;obtain ⟨gD,f9,rfl⟩:=eU aU;obtain ⟨r,qi,CS⟩:=cw.at f9;obtain ⟨l,ax,VU⟩:=U3 (d4 qi);obtain ⟨g1,g2,g3⟩:=B2 _ _ VU;subst bM;simp only [hX,ks,kv];refine dh (i7 (ac n ws) z o r) (fun Q a5=>?_) (fun ab=>?_) (fun ab=>?_)
   .nofun;exact ⟨wp,z,a,gD,o,r,n,ws,rfl,W,O,CS,by omega,a',cj,bc,_,rfl,a5⟩
   .nofun;rw [AY];refine ⟨by decide,fun hc i8=>⟨by decide,fun dM c5=>?_⟩⟩;have s2:=(a0 (o:=.tup [.str (ag "ring"),.ref gD]) i8).trans (a0 (o:=.tup [V.bT,.ref hc]) c5);exact q dM .bT (.ref hc) _ s2 ((bc.upd).upd) aS (.inr ⟨.ring r,hc,rfl,rfl,⟨gD,a0 c5 _ _ aS,s2 _ _ CS⟩,ab,by cases d <;> exact g3⟩)
   .simp only [ft];refine ⟨trivial,fun ia d1 Df Kh=>?_,_,rfl⟩;rcases yy ia i with y | y
    .exact rD ia d1 y Kh
    .have:ia=i:=by omega
     subst this;rw [qi] at Kh;cases Kh;exact ab
  .rintro σ H1 bU;ac_rfl
   obtain ⟨rfl,rD,x,rfl⟩:=bU;subst bM;refine cn _ _ ⟨rfl,fun r av=>?_,x,rfl⟩;obtain ⟨l,ax⟩:=q1 av;refine rD l r ?_ ax;rw [bb,cw.1];exact (cV.mp ax).1
 rintro jt H1 bU;ac_rfl
 obtain ⟨rfl,rD,x,rfl⟩:=bU;subst bM;simp only [di];refine vd (fun aL I=>aN H1 I/\aY I/\((I=H1/\(∀ i j,(ac n ws).e i j=true->dm o i j=true)/\aL=[~~~wp,some (.int z),~~~c',~~~a,x,some .bT,none,none,none,none,none])\/∃ pr i j,I pr=some (.tup [.int (i:Nat),.int (j:Nat)])/\(ac n ws).e i j=true/\dm o i j=false/\aL=[~~~wp,some (.int z),~~~c',~~~a,x,~~~pr,none,none,none,none,none])) (fun gH cn AY _ _=>?_) ?_
 .nofun;exact ⟨wp,a,n,ws,o,rfl,W,O,cj,bc,fun r i j I s2 bQ e he aj=>cn _ _ ⟨s2,bQ,.inr ⟨r,i,j,e,he,aj,rfl⟩⟩,fun aj=>cn _ _ ⟨aN.refl _,bc,.inl ⟨rfl,aj,rfl⟩⟩⟩
 rintro c4 ay ⟨s2,bQ,(⟨rfl,By,rfl⟩ | ⟨pr,i,j,aiz,he,uV,rfl⟩)⟩
 .simp only [di];refine dh true (fun Q a5=>?_) (fun _=>?_) (fun z=>nomatch z)
  .nofun;exact a5
  .nofun;refine ⟨wp,z,a,n,ws,o,rfl,W,O,cj,aD,bc,fun r bA s3 df xi bW=>⟨by decide,fun p ao=>q p (.ref r) .bT _ (s3.trans (a0 ao)) df.upd aS (.inl ⟨_,r,rfl,rfl,xi,a0 ao _ _ bW,fun v=>⟨pd _ (by omega),sP _ aD⟩,?_⟩)⟩⟩;exact (abA cj.ok aD aO By a'.as fun i j e=>ahV cj.ok (fun p ao=>v9 ao) (fun i j h=>F2 cj.ok h) (aaG cj.ok mu By rD) e).mod
 simp only [di];refine dh false (fun Q a5=>?_) (fun z=>nomatch z) (fun _=>?_)
 .nofun;exact a5
 simp only [ft,di];obtain ⟨d',rfl⟩:∃ d',d=d' + 1:=⟨d - 1,by have:=abo cj.ok he uV;omega⟩;have z3:=uV;unfold dm at z3;rw [zu,decide_eq_false_iff_not,decide_eq_false_iff_not] at z3;have RL:dm o j i=false:=by rw [IU];exact uV
 refine aau (.ref pr) (fun Q a5=>by nofun;exact a5) (ox (bY.of aiz) ?_);simp only [di,ks,kv];refine vd (fun aL I=>∃ BF bv U,aN ay BF/\aN BF I/\aY I/\zh (ac n ws) z (o ++ [(i,j)]) d' BF I bv U/\aL=[~~~wp,some (.int z),~~~c',~~~a,x,~~~pr,some (.int (i:Nat)),some (.int (j:Nat)),some bv,some U,none]) (fun gH cn AY _ _=>?_) ?_
 .nofun;refine ⟨a,i,j,o,rfl,fv O s2,a',cj.ok,hm,z3.1,bQ,fun mB bA s3 df aaq=>?_⟩;have sN:=s2.trans s3;refine ⟨z,n,ws,o ++ [(i,j)],⟨wp,c',mB,k,rfl,W.same sN,R.same sN,mu,mR,aaq,a'.put cj.ok he uV,cj,by have:=JP (o:=o) cj.ok he uV;omega,aO,df⟩,fun yD bv U dH s4 d8 fu fi=>?_⟩;exact ⟨yD,rfl,_,bY.of fu,rfl,_,_,rfl,_,_,rfl,rfl,cn _ _ ⟨bA,bv,U,s3,s4,d8,fi,rfl⟩⟩
 rintro jF dH bU;ac_rfl
 obtain ⟨BF,bv,U,qe,s4,d8,fi,rfl⟩:=bU;subst bM;simp only [di];have xu:=s2.trans (qe.trans s4);rcases fi with ⟨b,fX,rfl,rfl,yj,jj,ma,qG⟩ | ⟨hc,cO,rfl,rfl,i8,c5,ml⟩
 .refine dh true (fun Q a5=>?_) (fun _=>?_) (fun z=>nomatch z)
  .nofun;exact a5
  .nofun;exact ⟨by decide,fun p ao=>q p _ _ _ (xu.trans (a0 ao)) d8.upd aS (.inl ⟨b,fX,rfl,rfl,(s2.trans qe).free yj,a0 ao _ _ jj,ma,qG⟩)⟩
 refine dh false (fun Q a5=>?_) (fun z=>nomatch z) (fun _=>?_)
 .nofun;exact a5
 simp only [ft,di];refine vd (fun aL I=>∃ zo bv U,aN dH zo/\aN zo I/\aY I/\zh (ac n ws) z (o ++ [(j,i)]) d' zo I bv U/\aL=[~~~wp,some (.int z),~~~c',~~~a,x,~~~pr,some (.int (i:Nat)),some (.int (j:Nat)),some bv,~~~cO,some U]) (fun gH cn AY _ _=>?_) ?_
 .nofun;refine ⟨a,j,i,o,rfl,fv O xu,a',cj.ok,hm,z3.2,d8,fun oQ fY s5 gc ZI=>?_⟩;have MQ:=xu.trans s5;have M6:=cj.ok.ph he;refine ⟨z,n,ws,o ++ [(j,i)],⟨wp,c',oQ,k,rfl,W.same MQ,R.same MQ,mu,mR,ZI,a'.put cj.ok M6 RL,cj,by have:=JP (o:=o) cj.ok M6 RL;omega,aO,gc⟩,fun ZT bv U la e5 j_ iY fi=>?_⟩;exact ⟨ZT,rfl,_,bY.of iY,rfl,_,_,rfl,_,_,rfl,rfl,cn _ _ ⟨fY,bv,U,s5,e5,j_,fi,rfl⟩⟩
 rintro Qq la bU;ac_rfl
 obtain ⟨zo,bv,U,gV,e5,j_,fi,rfl⟩:=bU;subst bM;simp only [di];have N_:=gV.trans e5;have Ro:=xu.trans N_;rcases fi with ⟨b,fX,rfl,rfl,yj,jj,ma,qG⟩ | ⟨dM,SK,rfl,rfl,qp,y',aeM⟩
 .refine dh true (fun Q a5=>?_) (fun _=>?_) (fun z=>nomatch z)
  .nofun;exact a5
  .nofun;exact ⟨by decide,fun p ao=>q p _ _ _ (Ro.trans (a0 ao)) j_.upd aS (.inl ⟨b,fX,rfl,rfl,(xu.trans gV).free yj,a0 ao _ _ jj,ma,qG⟩)⟩
 refine dh false (fun Q a5=>?_) (fun z=>nomatch z) (fun _=>?_)
 .nofun;exact a5
 simp only [ft];nofun;refine ⟨by decide,fun p_ agX=>⟨by decide,fun XH ai7=>?_⟩⟩;have t1:=a0 (o:=.tup [.str (ag "case"),.int (i:Nat),.int (j:Nat),.ref cO,.ref SK]) agX;have ju:=a0 (o:=.tup [V.bT,.ref p_]) ai7;have ax:=cj.ok.lt he;refine q XH .bT (.ref p_) _ (Ro.trans (t1.trans ju)) ((j_.upd).upd) aS (.inr ⟨.case i j hc dM,p_,rfl,rfl,⟨cO,SK,ju _ _ aS,(i8.same N_).same (t1.trans ju),qp.same (t1.trans ju)⟩,?_,ax.1,ax.2.1,ml,aeM⟩);show ((ac n ws).e i j && !dm o i j && bn (ac n ws) z (o ++ [(i,j)]) hc && bn (ac n ws) z (o ++ [(j,i)]) dM)=true;rw [he,uV,c5,y'];rfl
theorem TP (T:Txt w K ah t):∀ d,bt P w K ah base b7 (d + 3) t.o7 t.qL uU (za P w t d)
 | 0=>K4 T 0 (T.vf.ok m' (fun vs H Q E h=>h.elim) (fun e7 A outer s H vs Q E av h=>h.elim))
 | d + 1=>K4 T (d + 1) (TP T d)
section
variable (P:Program) (w:World)
def Ic (t:bJ):bI:=fun vs H Q _=>∃ wp z c' k n ws,vs=[.ref wp,.int z,.ref c']/\i0 P w t H wp n ws/\jA H c' (jv (ac n ws) k)/\e0 (ac n ws) k=[]/\k <= 6/\jf n ws/\aY H /\
 ∀ r bv U I,aN H I->aY I->I r=some (.tup [bv,U])->zh (ac n ws) z (i5 (ac n ws)) (lG (ac n ws) (i5 (ac n ws))) H I bv U->Q (.ref r) I
def F3 (t:bJ):bI:=fun vs H Q _=>∃ wp n ws,vs=[.ref wp]/\i0 P w t H wp n ws/\jf n ws/\aY H/\∀ z b I,aN H I->aY I->dQ (ac n ws) z b->z <= 20000->Q (.int z) I
end
theorem Wm {k:Nat} {f:Addr} {fd:FuncData} {ps:List Str} {sp:Nat->bI} {m:Nat} (F:∀ n,n <= m->bt P w K ah base b7 k f fd ps (sp n)):bt P w K ah base b7 k f fd ps (fun vs H Q E=>∃ n,n <= m/\sp n vs H Q E):=
 ⟨fun vs H Q E ⟨n,aH,h⟩=>(F n aH).len vs H Q E h,fun A outer s H args us vs Q E av he ab aU ⟨n,aH,h⟩=>(F n aH).run A outer s H args us vs Q E av he ab aU h⟩
theorem wD {n:Int} {ws:List (a8 × Int)} {i:Nat} {p:a8 × Int} (h:ws[i]? = some p):(ac n ws).al i=fx p:=by
 show (match ws[i]? with | some p=>fx p | none=>0)=_;rw [h]
theorem Px:b_ P base T 14 t.rv t.vg xw (Ic P w t):=by
 have BL:bt P w K ah base b7 13 t.o7 t.qL uU (fun vs H Q E=>∃ n,n <= 10/\za P w t n vs H Q E):=Wm fun n aH=>(TP T n).mono (by omega)
 refine cF (akC T) fun Xf=>?_;exists T.pA.ok FV,9
 obtain ⟨wp,z,c',k,n,ws,rfl,W,R,mu,mR,cj,bc,q⟩:=h;obtain ⟨au,al,cE,aw,az,D⟩:=id W;have ba:=gF av;have iA:=cj.2.1;refine ⟨_,(aM (ho hl rfl (rn rfl T.o8 (ae (c1 (U 0) rfl) aA)) (fZ (K:=K) (n:=2) rfl rfl (c0 (b6 (i:=3) FV.aC) (c0 (b6 (i:=4) FV.aC) f'))) (a3 (c9 (cU qM (U 4) (U 1) (lc _)) (a3 (bX (eL (ae jB (ae (eL (ae cx (ae (U 3) aA))) aA))))) dd)))
   (a3 (bX (bK BL av T.GD T.vf.bh T.Ht (ae (U 0) (ae (U 1) (ae (U 2) (ae (bK Xf av T.aeq T.Kb.bh T.ach (ae (U 0) aA)) aA)))))))),?_⟩
 nofun;refine ⟨_,PL T aw,_,rfl,⟨_,aW.of az⟩,?_⟩;refine ap.enum (xs:=ws.map fun p=>V.int (fx p)) (fun i σ I=>aN H I/\aY I/\(∀ l,l < i->(ac n ws).al l <= z)/\∃ x y,σ=[~~~wp,some (.int z),~~~c',x,y]) ⟨aN.refl _,bc,fun l ax=>absurd ax (D4 _),_,_,rfl⟩ (fun i σ I _ ⟨s1,_⟩=>aW.of (s1 _ _ az)) ?_ ?_
 .rintro i v σ H1 eG aU ⟨s1,bH,ky,x,y,rfl⟩ eP;obtain ⟨p,ao,rfl⟩:=eU aU;have qE:=wD (n:=n) ao;have xf:=(cV.mp ao).1;refine si ?_;simp only [ks,kv];have s2:=s1.trans (a0 (o:=.tup [.int i,.int (fx p)]) eP);have bQ:aY (upd H1 eG (.tup [.int i,.int (fx p)])):=bH.upd;generalize upd H1 eG (.tup [.int i,.int (fx p)])=ay at s2 bQ ⊢;refine dh (decide (z < fx p)) (fun Q a5=>?_) (fun ab=>?_) (fun ab=>?_)
  .nofun;exact a5
  .nofun;refine ⟨by decide,fun hc i8=>⟨by decide,fun dM c5=>?_⟩⟩;have t1:=a0 (o:=.tup [.str (ag "alone"),.int (i:Nat)]) i8;have ju:=a0 (o:=.tup [V.bT,.ref hc]) c5;refine q dM .bT (.ref hc) _ (s2.trans (t1.trans ju)) ((bQ.upd).upd) aS (.inr ⟨.alone i,hc,rfl,rfl,ju _ _ aS,?_,?_⟩)
   .show decide (z < (ac n ws).al i)=true;rw [qE];exact ab
   .unfold tj;exact xf
  .simp only [ft];refine ⟨s2,bQ,fun l ax=>?_,_,_,rfl⟩;rcases yy l i with y | y
   .exact ky l y
   .have:l=i:=by omega
    subst this;rw [qE];have:=of_decide_eq_false ab;omega
 .rintro σ H1 bU;ac_rfl
  obtain ⟨s1,bH,ky,x,y,rfl⟩:=bU;subst bM;rw [bb] at ky;nofun;refine ⟨wp,n,ws,rfl,W.same s1,cj,bH,fun r ay s2 bQ agm=>?_⟩;have CV:=s1.trans s2;refine ⟨lG (ac n ws) (i5 (ac n ws)),(U2 cj.ok iA).1,z,n,ws,i5 (ac n ws),⟨wp,c',r,k,rfl,W.same CV,R.same CV,mu,mR,agm,XK,cj,bu _,ky,bQ⟩,fun mB bv U bA s3 df bW fi=>q mB bv U bA (CV.trans s3) df bW ?_⟩;rcases fi with ⟨b,fX,af,ai,br,cm⟩ | h
  .exact .inl ⟨b,fX,af,ai,CV.free br,cm⟩
  .exact .inr h
noncomputable def kJ:List Int->Int
 | []=>0
 | x :: l=>max x (kJ l)
theorem SY:∀ l,0 <= kJ l
 | []=>oZ _
 | x :: l=>oe (SY l) (Sn ..)
theorem QA:∀ {l:List Int} {x:Int},x ∈ l->x <= kJ l
 | y :: l,x,h=>by
  rcases cX.mp h with rfl | h
  .exact T_ ..
  .exact oe (QA h) (Sn ..)
theorem Nt:∀ {l:List Int} {m:Int},0 <= m->(∀ x ∈ l,x <= m)->kJ l <= m
 | [],m,h,_=>h
 | x :: l,m,h,g=>Int.max_le.mpr ⟨g x (hH ..),Nt h fun y aT=>g y (fk _ aT)⟩
theorem Tu:∀ (l:List Int) (x:Int),0 <= x->l.foldl max x=max x (kJ l)
 | [],x,h=>(abT h).symm
 | y :: l,x,h=>by
  rw [aal,Tu l _ (oe h (T_ ..))];exact Int.max_assoc ..
theorem Yk (l:List Int) (h:∀ x ∈ l,0 <= x):(l.max? = none/\kJ l=0)\/l.max? = some (kJ l):=by
 cases l with
 | nil=>exact .inl ⟨rfl,rfl⟩
 | cons x l=>
  rw [List.max?_cons',Tu l x (h x (hH ..))];exact .inr rfl
noncomputable def j5 (S:Sys) (i:Nat) (l:dn):List Int:=(l.filter fun p=>decide (p.1=i)).map fun p=>S.st p.1 p.2
theorem ajK {S:Sys} (k:S.Ok) {i j:Nat} (h:S.e i j=true):S.st i j ∈ j5 S i (e4 S):=da.mpr ⟨(i,j),k1.mpr ⟨F2 k h,decide_eq_true rfl⟩,rfl⟩
theorem Pk {S:Sys} {i:Nat} {x:Int} (h:x ∈ j5 S i (e4 S)):∃ j,S.e i j=true/\x=S.st i j:=by
 obtain ⟨⟨a,b⟩,ao,rfl⟩:=da.mp h;obtain ⟨af,ai⟩:=k1.mp ao;have:a=i:=of_decide_eq_true ai;subst this;exact ⟨b,v9 af,rfl⟩
theorem ag1 {f:Nat->Int} {c:Int} (ar:0 <= c):∀ {m:Nat},(∀ i,i < m->f i <= c)->gk f m <= m * c:=by
 intro m
 induction m with
 | zero=>intro _;simp [gk]
 | succ m a_=>
  intro h;have af:=a_ fun i aj=>h i (by omega)
  have ai:=h m (by omega);show gk f m + f m <= _;rw [show ((m + 1:Nat):Int) * c=m * c + c by rw [ajW,Int.add_mul];simp];omega
theorem TJ (f g:Nat->Int):∀ m,gk (fun i=>f i + g i) m=gk f m + gk g m:=by
 intro m
 induction m with
 | zero=>rfl
 | succ m a_=>
  show gk _ m + (f m + g m)=(gk f m + f m) + (gk g m + g m);rw [a_];omega
theorem aaf {n:Int} {ws:List (a8 × Int)}:∀ k,k <= ws.length->((ws.take k).map fx).sum=gk (ac n ws).al k:=by
 intro k
 induction k with
 | zero=>intro _;rfl
 | succ k a_=>
  intro aJ;have ao:ws[k]? = some ws[k]:=cJ (by omega);show _=gk (ac n ws).al k + (ac n ws).al k;rw [i9,ao,eD,acr,a_ (by omega),wD ao];simp
theorem Uv {n:Int} {d:a8} (o:lE n d):lq d + lT d <= 100:=by
 have h:=o.of;unfold lq lT;rcases d with ⟨k,_⟩
 match k with
 | 0=>simp
 | 1=>simp at h ⊢;omega
 | k + 2=>simp
theorem abD {n:Int} {d e:a8} (o:lE n d) (p:lE n e):k9 d e <= 100:=by
 have af:=o.of;have ai:=p.jr;unfold k9;split <;> omega
theorem O5:b_ P base T 2 t.qU t.sr ["wanted"] (F3 P w t):=by
 exists T.Cd.ok bi,9
 obtain ⟨wp,n,ws,rfl,W,cj,bc,q⟩:=h;obtain ⟨au,al,cE,aw,az,D⟩:=id W;have ba:=gF av;have iA:=cj.2.1;refine ⟨_,(aM (bL (i:=1) bi.aC (g7 (ahS rfl) rfl T.Y9 ahj (ae (c1 (U 0) rfl) aA)))
   (aM (ho hl rfl (mV rfl T.lL (ae (c1 (U 0) rfl) aA)) (EM (i:=2) bi.aC rfl (qI rfl)) (a3 (Ra (i:=1) bi.aC rfl (lY rfl) (agH rfl rfl T.Kj (ae (iG rfl (Jk (c1 (U 0) rfl)) (gx (sc:=bG A6) rfl (by ac_nf)) (N:=["pair","wanted","want"]) (sel:=[none,some 0,some 2]) (gs (M:=["wanted","total","want"]) (by ac_nf)) (fD.of (fun _ _ _ _=>(b6 (i:=0) (eT (N:=["pair","wanted","want"]) (by ac_nf) rfl))) (fun _ _ _ _=>⟨_,(sF (cU fw (cD er (U 0) aR) (U 2) (lc _))),by walk_at "B"⟩) (fun _ _ _ _=>⟨_,(L' ba (c1 (U 1) rfl) (U 0) (fun _ _=>rfl)),by walk_at "B"⟩))) aA) aR) Qp)))
   (a3 (bX (U 1))))),?_⟩
 nofun;have ts:H al=some (.lst ((ws.map fx).map V.int)):=by rw [jC];exact az
 refine ⟨_,PL T aw,_,rfl,_,aW.of ts,?_,by rw [bb];omega,_,vc T aw,_,rfl,by omega,by omega,?_⟩
 .intro k aJ;obtain ⟨p,ao,rfl⟩:=da.mp aJ;obtain ⟨af,ai,br⟩:=cj.1 p ao;have cm:=SV af;have gK:=Uv af;unfold fx;omega
 rw [show ((ws.length:Int)).toNat=ws.length by omega];refine ap.range (fun i σ I=>aN H I/\aY I/\∃ x,σ=[~~~wp,some (.int ((ws.map fx).sum + gk (fun i=>kJ (j5 (ac n ws) i (e4 (ac n ws)))) i)),x]) ⟨aN.refl _,bc,_,by rw [show gk _ 0=0 from rfl,Int.add_zero]⟩ ?_ ?_
 .rintro i σ H1 aj bU;ac_rfl
  obtain ⟨s1,bH,x,rfl⟩:=bU;subst bM;(nofun; repeat (dsimp only [SF];nofun));refine ⟨_,og T (s1 _ _ aw),cE,rfl,_,fv D s1,fun b2 aF b5 xs r=>?_⟩;have ajS:(e4 (ac n ws)).length <= 36:=adb iA;have ky:(fz n ws ws.length).length=(e4 (ac n ws)).length:=by rw [sV,bb]
  refine cY.of (n:=(fz n ws ws.length).length) (fun j ys I=>I=H1/\ys=(j5 (ac n ws) i ((e4 (ac n ws)).take j)).map V.int) (by rw [ky];exact b8 ajS (by decide)) ⟨rfl,rfl⟩ ?_ ?_ ?_ ?_ ?_
  .rintro j ys I bf ⟨rfl,_⟩;exact ⟨r.at_,bf⟩
  .rintro ys I ⟨rfl,_⟩;exact ⟨r.at_,bu _⟩
  .rintro j ys I bf ⟨_,rfl⟩;unfold j5;rw [bb,bb];refine b8 (o6 ..) ?_;rw [eX];omega
  .rintro j ys I v ay bf ⟨rfl,rfl⟩ ⟨rfl,k,aei,gJ,ku,rfl⟩ N bx;obtain ⟨es,i4,ao,pj⟩:=H7 r.bB ku;have he:=v9 (d4 ao);have jR:j5 (ac n ws) i ((e4 (ac n ws)).take (j + 1))=j5 (ac n ws) i ((e4 (ac n ws)).take j) ++ (if es=i then [(ac n ws).st es i4] else []):=by
    unfold j5;rw [i9,ao,xH,eD];show _ ++ nf _ (Wj _ [(es,i4)])=_;rw [uQ,xc];by_cases h:es=i
    .rw [if_pos h,if_pos (decide_eq_true h)];rfl
    .rw [if_neg h,if_neg (by simpa using h)];rfl
   nofun;refine ⟨Sub.name,_,bY.of pj,_,dw (j:=0) rfl,rfl,?_⟩;by_cases h:es=i
   .rw [if_pos (by rw [h];exact decide_eq_true rfl)];refine ⟨_,og T (s1 _ _ aw),cE,rfl,_,fv D s1,e_ es i4,pj,_,Uw he,bx _ _ ⟨rfl,?_⟩⟩;rw [jR,if_pos h,eD];rfl
   .rw [if_neg (by rw [decide_eq_true_eq];exact fun g=>h (Ot (V.int.inj g)))];refine bx _ _ ⟨rfl,?_⟩;rw [jR,if_neg h,me]
  .rintro ys I ⟨rfl,rfl⟩ l ax;rw [ky,jg];refine ⟨l,rfl,_,aW.of aS,?_⟩;have gW:gk (fun i=>kJ (j5 (ac n ws) i (e4 (ac n ws)))) (i + 1)=gk (fun i=>kJ (j5 (ac n ws) i (e4 (ac n ws)))) i + kJ (j5 (ac n ws) i (e4 (ac n ws))):=rfl;rcases Yk (j5 (ac n ws) i (e4 (ac n ws))) (fun x ak=>by
    obtain ⟨j,he,rfl⟩:=Pk ak;have:=cj.ok.s1 he
    omega) with ⟨g1,g2⟩ | g1
   .rw [g1];exact ⟨_,_,rfl,rfl,s1.trans (a0 ax),bH.upd,by rw [gW,g2,<- aaV],_,rfl⟩
   .rw [g1];exact ⟨_,_,rfl,rfl,s1.trans (a0 ax),bH.upd,by rw [gW,<- aaV],_,rfl⟩
 .rintro σ H1 bU;ac_rfl
  obtain ⟨s1,bH,x,rfl⟩:=bU;subst bM;nofun;have dc:=acV cj.ok (mx:=fun i=>kJ (j5 (ac n ws) i (e4 (ac n ws)))) (fun i=>SY _) fun i j e=>QA (ajK cj.ok e)
  rw [TJ] at dc;have aG:=aaf (n:=n) (ws:=ws) ws.length (bu _);rw [jg] at aG;rw [aG];refine q _ _ H1 s1 bH dc ?_;rw [<- TJ];refine oe (ag1 (c:=3000) (by decide) fun i aj=>?_) (show (ws.length:Int) * 3000 <= 20000 by omega);have ao:ws[i]? = some ws[i]:=cJ aj;obtain ⟨af,ai,br⟩:=cj.1 _ (d4 ao);have gK:=Uv af;have FR:(ac n ws).al i <= 1100:=by
   rw [wD ao];unfold fx;omega
  have akN:kJ (j5 (ac n ws) i (e4 (ac n ws))) <= 1100:=by
   refine Nt (by decide) fun x ak=>?_
   obtain ⟨j,he,rfl⟩:=Pk ak;obtain ⟨p,iu,g1,g2,_⟩:=sw he;rw [(oC g1 g2).2];have g3:=cj.1 p (d4 g1);have ke:=cj.1 iu (d4 g2);have:=abD g3.1 ke.1;omega
  omega
theorem MV {n:Int} {ws:List (a8 × Int)} {z:Int} (aD:0 <= z):∀ i,(ac n ws).m <= i->(ac n ws).al i <= z:=fun i aj=>by
 have e:(ac n ws).al i=0:=by
  show (match ws[i]? with | some p=>fx p | none=>0)=0;rw [xV aj]
 rw [e];exact aD
structure IM (S:Sys) (H I:aq) (z:Int) (fX cO:Addr) (b:Nat->Int) (p:oI):Prop where
 d_:1 <= z
 vl:z <= 20000
 nb:H fX=none
 ef:I fX=some (.lst (ik S b))
 Uo:∀ v,0 <= b v/\b v < z
 T7:dQ S z b
 pap:pv I p cO
 ZF:bn S (z - 1) (i5 S) p=true
 IJ:tj S.m (lG S (i5 S)) p
theorem IM.least {n:Int} {ws:List (a8 × Int)} (k:(ac n ws).Ok) {H I:aq} {z:Int} {fX cO:Addr} {b:Nat->Int} {p:oI} (h:IM (ac n ws) H I z fX cO b p) {y:Int} (aT:0 < y) (ax:y < z) (c:Nat->Int):¬ dQ (ac n ws) y c:=
 MH k (MV (by have:=h.d_;omega)) h.ZF aT (by omega)
def OW (n:Int) (ws:List (a8 × Int)) (H bA:aq) (c wl x c':Addr) (j:Nat) (σ:St) (I:aq):Prop:=∃ lo aj cO fX p b s_ yt Ux,j=(aj - lo).toNat/\0 <= lo/\lo < aj/\aj <= 20000/\aN bA I/\aY I/\H fX=none/\I fX=some (.lst (ik (ac n ws) b))/\(∀ v,0 <= b v/\b v < aj)/\dQ (ac n ws) aj b/\pv I p cO/\bn (ac n ws) lo (i5 (ac n ws)) p=true/\tj (ac n ws).m (lG (ac n ws) (i5 (ac n ws))) p/\σ=[~~~c,~~~wl,~~~x,~~~c',some (.int lo),some (.int aj),~~~cO,~~~fX,s_,yt,Ux]
section
variable (P:Program) (w:World)
def SQ (t:bJ) (vs:List V) (H:aq) (n:Int) (ws:List (a8 × Int)):Prop:=∃ c wl ds,vs=[.ref c,.ref wl]/\ff t H c n ds/\0 < n/\yu H wl ws/\(∀ q ∈ ws,∃ i:Nat,ds[i]? = some q.1)/\jf n ws/\aY H
def S5 (t:bJ):bI:=fun vs H Q _=>∃ n ws,SQ t vs H n ws/\∀ r z fX cO b p I,aN H I->aY I->I r=some (.tup [.int z,.ref fX,.ref cO])->IM (ac n ws) H I z fX cO b p->Q (.ref r) I
end
theorem QC:b_ P base T 15 t.p8 t.rj lW (S5 t):=by
 have af6:bt P w K ah base b7 13 t.oR t.q9 t9 (Qf P w t):=(ZS T).mono (by decide);have Dy:bt P w K ah base b7 14 t.qD t.te ["wanted"] (Kq P w t):=(Q5 T).mono (by decide);have KN:bt P w K ah base b7 14 t.qU t.sr ["wanted"] (F3 P w t):=(O5 T).mono (by decide);have qY:bt P w K ah base b7 14 t.rv t.vg xw (Ic P w t):=Px T;refine T.t6.ok fA (fun vs H Q E h=>?_) (fun _ _ _ s H vs Q E av h=>?_)
 .obtain ⟨n,ws,⟨c,wl,ds,rfl,_⟩,_⟩:=h;rfl
 obtain ⟨n,ws,⟨c,wl,ds,rfl,C,aH,W,kr,cj,bc⟩,q⟩:=h;have ba:=gF av;have hlen:ws.length <= 20:=by have:=cj.2.1;omega
 have ab:∀ q ∈ ws,0 <= q.2/\q.2 <= 100000:=fun q aB=>by have:=cj.1 q aB;omega
 have h0:0 < ws.length:=yG.mpr cj.2.2;refine ⟨_,(aM (bL (i:=2) fA.aC (p' T.Od af6 av rfl T.SC T.QK .nil cT (ae (U 0) (ae (U 1) aA))))
   (aM (bL (i:=3) fA.aC (bK Dy av T.ww T.Cy.bh T.OZ (ae (U 2) aA)))
   (aM (bL (i:=4) fA.aC aR)
   (aM (bL (i:=5) fA.aC (bK KN av T.Rj T.Cd.bh T.Q0 (ae (U 2) aA)))
   (aM (bL (i:=6) fA.aC (cD er (bK qY av T.uS T.pA.bh T.sL (ae (U 2) (ae (U 4) (ae (U 3) aA)))) aR))
   (aM (bL (i:=7) fA.aC (cD er (bK qY av T.uS T.pA.bh T.sL (ae (U 2) (ae (U 5) (ae (U 3) aA)))) aR))
   (aM (CE hl (cU qM (bS oH (U 5) (U 4)) aR (lc _)) (aM (bL (i:=8) fA.aC (bS O' (bS dJ (U 4) (U 5)) aR))
   (aM (ni (bK qY av T.uS T.pA.bh T.sL (ae (U 2) (ae (U 8) (ae (U 3) aA)))) (fZ (K:=K) (n:=2) rfl rfl (c0 (b6 (i:=9) fA.aC) (c0 (b6 (i:=10) fA.aC) f'))))
   (a3 (c9 (cU Jb (U 9) jB (lc _)) (aM (bL (i:=4) fA.aC (U 8))
   (a3 (bL (i:=6) fA.aC (U 10)))) (aM (bL (i:=5) fA.aC (U 8))
   (a3 (bL (i:=7) fA.aC (U 9)))))))))
   (a3 (bX (eL (ae (U 5) (ae (U 7) (ae (U 6) aA))))))))))))),?_⟩
 exists (fun aL I=>∃ x,aN H I/\aY I/\i0 P w t I x n ws/\aL=[~~~c,~~~wl,~~~x,none,none,none,none,none,none,none,none]),3
 .nofun;intro x au ak n8 cf;have s1:aN H (upd (upd H au (.own x)) x (.ins t.dS au [])):=(a0 n8).trans (a0 (by rw [aX (c7 cf)];exact ak));refine ⟨x,au,c,wl,n,ds,ws,rfl,aS,C.same s1,aH,ai' W s1,kr,hlen,ab,(bc.upd).upd,fun ay pO tF aab=>⟨rfl,?_⟩⟩;exact cn _ _ ⟨x,fun b u e=>pO b u (Db e ak) (s1 _ _ e),tF,aab,rfl⟩
 rintro jt H1 ⟨x,s1,bH,W1,rfl⟩;subst bM;exists (fun aL I=>∃ c' k,aN H1 I/\aY I/\e0 (ac n ws) k=[]/\k <= 6/\jA I c' (jv (ac n ws) k)/\aL=[~~~c,~~~wl,~~~x,~~~c',none,none,none,none,none,none,none]),3
 .nofun;exact ⟨x,n,ws,rfl,W1,cj,bH,fun r I k s2 bQ mu mR L=>cn _ _ ⟨r,k,s2,bQ,mu,mR,L,rfl⟩⟩
 rintro c4 ay ⟨c',k,s2,bQ,mu,mR,R,rfl⟩;have Ov:=W1.same s2;subst bM;simp only [di];nofun;refine ⟨x,n,ws,rfl,Ov,cj,bQ,fun aj amJ bA s3 df Po aka=>?_⟩;have Gg:=Ov.same s3;have l':=R.same s3;have af:1 <= aj:=by
  have:=Po.1 0 h0;have:=cj.ok.a1 (i:=0) h0;omega
 refine ⟨x,0,c',k,n,ws,rfl,Gg,l',mu,mR,cj,df,fun yD bv U dH s4 d8 fu fi=>?_⟩;rcases fi with ⟨b,fX,_,_,_,_,_,qG⟩ | ⟨kM,Wc,rfl,rfl,i8,c5,ml⟩
 .have g1:=qG.1 0 h0;have g2:=cj.ok.a1 (i:=0) h0;omega
 refine ⟨yD,rfl,_,bY.of fu,_,dw (j:=1) rfl,?_⟩;refine ⟨x,aj,c',k,n,ws,rfl,Gg.same s4,l'.same s4,mu,mR,cj,d8,fun oQ bv U fY s5 gc lC fi=>?_⟩;rcases fi with ⟨ua,adu,rfl,rfl,yj,jj,ma,qG⟩ | ⟨hc,ame,_,_,_,g2,_⟩
 case inr=>exact absurd Po (MH cj.ok (MV (by omega)) g2 (by omega) (oZ _))
 refine ⟨oQ,rfl,_,bY.of lC,_,dw (j:=0) rfl,?_⟩;have WK:=s4.trans s5;have O9:=s1.trans (s2.trans s3);refine ⟨OW n ws H bA c wl x c',⟨_,0,aj,Wc,adu,kM,ua,_,_,_,rfl,oZ _,by omega,aka,WK,gc,(O9.trans s4).free yj,jj,ma,qG,i8.same s5,c5,ml,rfl⟩,?_⟩;rintro j σ la bU;ac_rfl
 obtain ⟨lo,jk,cO,fX,p,b,s_,yt,Ux,rfl,NY,cH,cQ,e5,j_,g6,kZ,K5,QJ,Q1,Tc,O4,rfl⟩:=bU;have K6:=O9.trans e5;subst bM;nofun;by_cases hw:1 < jk - lo
 .rw [if_pos (decide_eq_true hw)];have dv:=Int.ediv_mul_le (lo + jk) (show (2:Int) ≠ 0 by decide);have dE:=Int.lt_ediv_add_one_mul_self (lo + jk) (show (0:Int) < 2 by decide);generalize hsz:(lo + jk) / 2=gj at dv dE ⊢;have Za:lo < gj:=by omega
  have fN:gj < jk:=by omega
  refine ⟨fun aL I=>∃ c2,c2 < (jk - lo).toNat/\OW n ws H bA c wl x c' c2 aL I,fun aL I g=>g,?_⟩;nofun;refine ⟨by unfold OO;omega,x,gj,c',k,n,ws,rfl,Gg.same e5,l'.same e5,mu,mR,cj,j_,fun Dp bv U hb hD m1 p0 fi=>⟨Dp,rfl,_,bY.of p0,rfl,_,_,rfl,_,_,rfl,rfl,?_⟩⟩;have SR:=e5.trans hD;rcases fi with ⟨W6,acv,rfl,rfl,f0,f1,f2,d3⟩ | ⟨aim,ahf,rfl,rfl,f1,f2,d3⟩
  .refine dh false (fun Q a5=>?_) (fun z=>nomatch z) (fun _=>?_)
   .nofun;exact a5
   .nofun;exact ⟨(gj - lo).toNat,by omega,lo,gj,cO,acv,p,W6,_,_,_,rfl,NY,Za,by omega,SR,m1,K6.free f0,f1,f2,d3,Q1.same hD,Tc,O4,rfl⟩
  .refine dh true (fun Q a5=>?_) (fun _=>?_) (fun z=>nomatch z)
   .nofun;exact a5
   .nofun;exact ⟨(jk - gj).toNat,by omega,gj,jk,ahf,fX,aim,b,_,_,_,rfl,by omega,fN,cQ,SR,m1,g6,hD _ _ kZ,K5,QJ,f1,f2,d3,rfl⟩
 .rw [if_neg (by simpa using hw)];nofun;refine ⟨by decide,fun r av=>q r jk fX cO b p _ (K6.trans (a0 av)) j_.upd aS ⟨by omega,cQ,g6,a0 av _ _ kZ,K5,QJ,Q1.same (a0 av),?_,O4⟩⟩;rw [show jk - 1=lo by omega];exact Tc
theorem UQ (x:Str) {a b:Nat} (FN:a <= b) (ab:b <= x.cps.toList.length):(ro x (some (a:Int)) (some (b:Int))).cps.toList=(x.cps.toList.drop a).take (b - a):=by
 have ak:x.length=x.cps.toList.length:=by simp [nJ]
 have e:=StrLaws.sliceText_nat x FN (by rw [ak];exact ab);rw [show ro x (some (a:Int)) (some (b:Int))=HJ x (some (a:Int)) (some (b:Int)) from rfl,e]
theorem PM (x:Str) {b:Nat} (ab:b <= x.cps.toList.length):(ro x none (some (b:Int))).cps.toList=x.cps.toList.take b:=by
 have:ro x none (some (b:Int))=ro x (some ((0:Nat):Int)) (some (b:Int)):=by
  show HJ x none (some (b:Int))=HJ x (some ((0:Nat):Int)) (some (b:Int));unfold HJ;rw [StrLaws.sliceIdx_none_lo];rfl
 rw [this,UQ x (fL _) ab,abn,ahI]
noncomputable def xJ (l:List Nat) (k:Nat):List Nat:=l.take (k + 1)
noncomputable def m4 (l:List Nat) (at_ size f k:Nat):List Nat:=l.take at_ ++ [97 + (f + 7 * k) % 26] ++ (l.drop (at_ + 1)).take (size - (at_ + 1))
theorem EL {l:List Nat} (ax:l.length=8) (al:∀ c ∈ l,97 <= c/\c <= 122) {k:Nat} (aJ:k < 8):(xJ l k).length=k + 1/\∀ c ∈ xJ l k,97 <= c/\c <= 122:=by
 unfold xJ;exact ⟨by rw [eX];omega,fun c ar=>al c (wt ar)⟩
theorem abU {l:List Nat} (ax:l.length=8) (al:∀ c ∈ l,97 <= c/\c <= 122) {a z f k:Nat} (aO:a < z) (aD:z <= 8):(m4 l a z f k).length=z/\∀ c ∈ m4 l a z f k,97 <= c/\c <= 122:=by
 unfold m4;refine ⟨by rw [dq,dq,eX,eX,tV,v_];omega,fun c ar=>?_⟩;rcases hB.mp ar with ar | ar
 .rcases hB.mp ar with ar | ar
  .exact al c (wt ar)
  .rw [fQ.mp ar];omega
 .exact al c (aci (wt ar))
theorem Xx {l:List Nat} (ax:l.length=8) {a z f i j:Nat} (aO:a < z) (aD:z <= 8) (aj:i < 8) (bf:j < 8) (e:m4 l a z f i=m4 l a z f j):i=j:=by
 have af:∀ k,(m4 l a z f k)[a]? = some (97 + (f + 7 * k) % 26):=fun k=>by
  unfold m4;rw [tZ,kd (by rw [eX];omega),eX,show a - min a l.length=0 by omega];rfl
 have ai:=af i;rw [e,af j] at ai;have:=dj ai;omega
theorem ajG {x:Str} {l:List Nat} (e:x.cps.toList=l) (h0:1 <= l.length) (af:l.length <= 8) (al:∀ c ∈ l,97 <= c/\c <= 122):made x gn 8=true:=by
 have ak:x.length=x.cps.toList.length:=by simp [nJ]
 exact aaS (by rw [ak,e];exact h0) (by rw [ak,e];exact af) (by rw [e];exact al)
def CB (m:Nat) (xs:List Str):Prop:=xs.length=m/\xs.Nodup/\∀ x ∈ xs,made x gn 8=true
theorem LB {i:Int} (h0:0 <= i) (af:i < 26):∃ c:Nat,i' (ag "abcdefghijklmnopqrstuvwxyz").cps.toList i=some c/\c=97 + i.toNat:=by
 have:∀ k,k < 26->i' (ag "abcdefghijklmnopqrstuvwxyz").cps.toList ((k:Nat):Int)=some (97 + k):=by ac_nf
 refine ⟨97 + i.toNat,?_,rfl⟩;have e:=this i.toNat (by omega);rwa [zS h0] at e
theorem Qz:∀ ys:List Str,(dy ⟨#[]⟩ ys).cps.toList=(ys.map (·.cps.toList)).flatten
 | []=>rfl
 | [a]=>by
  show a.cps.toList=_;simp
 | a :: b :: r=>by
  show (a ++ ⟨#[]⟩ ++ dy ⟨#[]⟩ (b :: r)).cps.toList=_;rw [iR,j7,iR,j7,Qz (b :: r)];simp
theorem Uj (f:Nat->Nat) (n:Nat):(uM (ag "") ((dW n).map fun i=>iV (f i))).cps.toList=(dW n).map f:=by
 rw [show uM (ag "") ((dW n).map fun i=>iV (f i))=dy ⟨#[]⟩ ((dW n).map fun i=>iV (f i)) from CN _ _,Qz,jC];have:((fun x:Str=>x.cps.toList) ∘ fun i=>iV (f i))=fun i=>[f i]:=rfl
 rw [this]
 induction (dW n) with
 | nil=>rfl
 | cons a l a_=>rw [dR,List.flatten_cons,a_];rfl
def ah5 (K:a4) (a:Addr) (ns:List Int):bI:=fun vs H Q _=>∃ m:Nat,vs=[.ref a,.int m]/\Sc K a ns H/\(1 <= m/\m <= 8)/\∀ p xs I,aN H I->Sc K a ns I->H p=none->I p=some (.lst (cv xs))->CB m xs->Q (.ref p) I
theorem abI (a:Addr) (ns:List Int) (k0:ns.length <= 64):b_ P base T 2 t.vx t.zT DE (ah5 K a ns):=by
 refine cF (sq T a ns k0) fun eJ=>?_;exists T.JE.ok l0,9
 obtain ⟨m,rfl,S,hm,q⟩:=h;have iq:(ag "abcdefghijklmnopqrstuvwxyz").length=26:=by ac_nf
 refine ⟨_,(aM (BG (i:=2) l0.aC rfl (qI rfl) cx)
   (aM (bL (i:=3) l0.aC (iS sJ Fg DY AS cx (ae (iG rfl (mV rfl T.lL (ae aR aA)) (gx (sc:=bG zy) rfl (by ac_nf)) (N:=["_law_k","_law_letters","_law_script"]) (sel:=[none,some 2,some 0]) (gs (M:=["_law_script","_law_many","_law_letters","_law_word","_law_size","_law_at","_law_first","_law_some","_law_k","_law_name","_law_sign"]) (by ac_nf)) (fD.of (fun _ _ _ _=>(b6 (i:=0) (eT (N:=["_law_k","_law_letters","_law_script"]) (by ac_nf) rfl))) (fun _ _ _ _=>⟨_,iz,by walk_at "B"⟩) (fun _ _ _ _=>⟨_,(cD F_ (U 1) (bK eJ av T.fl T.e8.bh T.fq (ae (U 2) (ae (bS dJ aR (U 0)) (ae aR aA))))),by walk_at "B"⟩))) aA)))
   (aM (bL (i:=4) l0.aC (bS dJ aR (bK eJ av T.fl T.e8.bh T.fq (ae (U 0) (ae aR (ae aR aA))))))
   (aM (bL (i:=5) l0.aC (bK eJ av T.fl T.e8.bh T.fq (ae (U 0) (ae aR (ae (U 4) aA)))))
   (aM (bL (i:=6) l0.aC (bK eJ av T.fl T.e8.bh T.fq (ae (U 0) (ae aR (ae aR aA)))))
   (aM (bL (i:=7) l0.aC (gO aA))
   (aM (ho hl rfl (mV rfl T.lL (ae (U 1) aA)) (b6 (i:=8) l0.aC) (aM (bL (i:=9) l0.aC (od Km (U 3) pq (mX (bS dJ (U 8) aR))))
   (aM (c9 (cU fw (bK eJ av T.fl T.e8.bh T.fq (ae (U 0) (ae aR (ae aR aA)))) aR (lc _)) (aM (bL (i:=10) l0.aC (cD F_ (U 2) (bS lQ (bS dJ (U 6) (bS kf aR (U 8))) aR)))
   (a3 (bL (i:=9) l0.aC (bS mr (bS mr (od Km (U 3) pq (mX (U 5))) (U 10)) (od Km (U 3) (mX (bS dJ (U 5) aR)) (mX (U 4))))))) dd)
   (a3 (fO (iS m9 rX uH q2 (U 7) (ae (U 9) aA)))))))
   (aM (c9 (cU fw (bK eJ av T.fl T.e8.bh T.fq (ae (U 0) (ae aR (ae aR aA)))) aR (lc _)) (a3 (fO (ac8 m9 Wk PySem.F.type_list_reverse Wd (U 7)))) dd)
   (a3 (bX (U 7))))))))))),?_⟩
 exists (fun aL I=>I=H/\aL=[~~~a,some (.int m),some (.str (ag "abcdefghijklmnopqrstuvwxyz")),none,none,none,none,none,none,none,none]),3
 .nofun;exact cn _ _ ⟨rfl,rfl⟩
 rintro jt H1 ⟨rfl,rfl⟩;subst bM;exists (fun aL I=>aN H1 I/\Sc K a ns I/\∃ f7:Str,f7.cps.toList.length=8/\(∀ c ∈ f7.cps.toList,97 <= c/\c <= 122)/\aL=[~~~a,some (.int m),some (.str (ag "abcdefghijklmnopqrstuvwxyz")),some (.str f7),none,none,none,none,none,none,none]),3
 .nofun;refine ⟨by decide,by decide,?_⟩;refine cY.Rk (n:=8) (fun i=>V.str (iV (97 + (ee ns (100 + (i:Int)) 26).toNat))) (by decide) (fun i N aj bx=>?_) (fun p ao=>?_)
  .have dv:=hv ns (100 + (i:Int)) (m:=26) (by decide);have dE:=hx ns (100 + (i:Int)) (m:=26) (by decide);obtain ⟨c,ar,rfl⟩:=LB dv dE;(nofun; repeat (dsimp only [hq];nofun));exact ⟨Sub.name,S,by omega,by omega,by decide,by rw [iq];decide,_,ar,bx⟩
  .have e:(dW 8).map (fun i:Nat=>V.str (iV (97 + (ee ns (100 + (i:Int)) 26).toNat)))=cv ((dW 8).map fun i:Nat=>iV (97 + (ee ns (100 + (i:Int)) 26).toNat)):=by unfold cv;rw [jC];rfl
   refine ⟨p,rfl,(dW 8).map fun i:Nat=>iV (97 + (ee ns (100 + (i:Int)) 26).toNat),by rw [<- e];exact aW.of aS,?_,?_⟩
   .have af:(nf (fun x:Str=>x.length) ((dW 8).map fun i:Nat=>iV (97 + (ee ns (100 + (i:Int)) 26).toNat))).sum=8:=by
     rw [jC];rfl
    rw [af,bb,kS];ac_nf
   .refine cn _ _ ⟨a0 ao,S.new ao,_,?_,fun c ar=>?_,rfl⟩
    .rw [Uj (fun i:Nat=>97 + (ee ns (100 + (i:Int)) 26).toNat) 8,bb,kS]
    .rw [Uj (fun i:Nat=>97 + (ee ns (100 + (i:Int)) 26).toNat) 8] at ar;obtain ⟨i,_,rfl⟩:=da.mp ar;have dv:=hv ns (100 + (i:Int)) (m:=26) (by decide);have dE:=hx ns (100 + (i:Int)) (m:=26) (by decide);omega
 rintro c4 ay ⟨s2,l7,f7,eR,tJ,rfl⟩;have DT:f7.length=8:=by
  have:f7.length=f7.cps.toList.length:=by simp [nJ]
  omega
 obtain ⟨z,gf,mg⟩:∃ z:Nat,1 + ee ns 112 8=(z:Nat)/\(1 <= z/\z <= 8):=by
  have dv:=hv ns 112 (m:=8) (by decide);have dE:=hx ns 112 (m:=8) (by decide);exact ⟨(1 + ee ns 112 8).toNat,by omega,by omega⟩
 subst bM;exists (fun aL I=>I=ay/\aL=[~~~a,some (.int m),some (.str (ag "abcdefghijklmnopqrstuvwxyz")),some (.str f7),some (.int (z:Nat)),none,none,none,none,none,none]),3
 ·(nofun; repeat (dsimp only [hq];nofun));rw [gf];exact ⟨l7,by omega,by omega,by decide,cn _ _ ⟨rfl,rfl⟩⟩
 rintro jF bA ⟨rfl,rfl⟩;obtain ⟨at_,jo,RM⟩:∃ at_:Nat,ee ns 113 (z:Int)=(at_:Nat)/\at_ < z:=by
  have dv:=hv ns 113 (m:=(z:Int)) (by omega);have dE:=hx ns 113 (m:=(z:Int)) (by omega);exact ⟨(ee ns 113 (z:Int)).toNat,by omega,by omega⟩
 subst bM;exists (fun aL I=>I=bA/\aL=[~~~a,some (.int m),some (.str (ag "abcdefghijklmnopqrstuvwxyz")),some (.str f7),some (.int (z:Nat)),some (.int (at_:Nat)),none,none,none,none,none]),3
 ·(nofun; repeat (dsimp only [hq];nofun));rw [jo];exact ⟨l7,by omega,by omega,by omega,cn _ _ ⟨rfl,rfl⟩⟩
 rintro ac1 dH ⟨rfl,rfl⟩;obtain ⟨f,hf,amB⟩:∃ f:Nat,ee ns 114 26=(f:Nat)/\f < 26:=by
  have dv:=hv ns 114 (m:=26) (by decide);have dE:=hx ns 114 (m:=26) (by decide);exact ⟨(ee ns 114 26).toNat,by omega,by omega⟩
 subst bM;exists (fun aL I=>I=dH/\aL=[~~~a,some (.int m),some (.str (ag "abcdefghijklmnopqrstuvwxyz")),some (.str f7),some (.int (z:Nat)),some (.int (at_:Nat)),some (.int (f:Nat)),none,none,none,none]),3
 ·(nofun; repeat (dsimp only [hq];nofun));rw [hf];exact ⟨l7,by omega,by omega,by decide,cn _ _ ⟨rfl,rfl⟩⟩
 rintro Qq fY ⟨rfl,rfl⟩;subst bM;exists (fun aL I=>Sc K a ns I/\aN fY I/\∃ c',fY c'=none/\I c'=some (.lst [])/\aL=[~~~a,some (.int m),some (.str (ag "abcdefghijklmnopqrstuvwxyz")),some (.str f7),some (.int (z:Nat)),some (.int (at_:Nat)),some (.int (f:Nat)),~~~c',none,none,none]),3
 .nofun;exact ⟨fL _,fun c' lI=>cn _ _ ⟨l7.new lI,a0 lI,c',lI,aS,rfl⟩⟩
 rintro mw la ⟨akw,e5,c',lI,ahJ,rfl⟩;obtain ⟨b,ab⟩:∃ b:Bool,decide (ee ns 110 2=1)=b:=⟨_,rfl⟩;subst bM;obtain ⟨g,bj⟩:∃ g:Nat->List Nat,g=fun k=>if b=true then m4 f7.cps.toList at_ z f k else xJ f7.cps.toList k:=⟨_,rfl⟩
 exists (fun aL I=>Sc K a ns I/\aN fY I/\(∃ xs:List Str,I c'=some (.lst (cv xs))/\xs.map (·.cps.toList)=(dW m).map g)/\∃ gG fW eM,aL=[~~~a,some (.int m),some (.str (ag "abcdefghijklmnopqrstuvwxyz")),some (.str f7),some (.int (z:Nat)),some (.int (at_:Nat)),some (.int (f:Nat)),~~~c',gG,fW,eM]),3
 .nofun;refine ⟨by omega,by omega,?_⟩;refine ap.range (fun i σ I=>Sc K a ns I/\aN fY I/\(∃ xs:List Str,I c'=some (.lst (cv xs))/\xs.map (·.cps.toList)=(dW i).map g)/\∃ gG fW eM,σ=[~~~a,some (.int m),some (.str (ag "abcdefghijklmnopqrstuvwxyz")),some (.str f7),some (.int (z:Nat)),some (.int (at_:Nat)),some (.int (f:Nat)),~~~c',gG,fW,eM]) ⟨akw,e5,⟨[],ahJ,rfl⟩,_,_,_,rfl⟩ ?_ ?_
  .rintro i σ I aj bU;ac_rfl
   obtain ⟨pF,hD,⟨xs,lV,ku⟩,gG,fW,eM,rfl⟩:=bU;have alP:i < 8:=by have:i < (m:Int).toNat:=aj;omega
   have s6:xs.length=i:=by have:=congrArg mP ku;rwa [bb,bb,kS] at this
   subst bM;simp only [hX,di,ks,kv,xM];exists (fun aL d7=>d7=I/\aL=[~~~a,some (.int m),some (.str (ag "abcdefghijklmnopqrstuvwxyz")),some (.str f7),some (.int (z:Nat)),some (.int (at_:Nat)),some (.int (f:Nat)),~~~c',some (.int (i:Nat)),some (.str (ro f7 none (some ((i + 1:Nat):Int)))),eM]),0
   .nofun;exact ⟨by rw [DT];decide,cn _ _ ⟨rfl,by rw [ajW];rfl⟩⟩
   rintro ahk v5 ⟨rfl,rfl⟩;subst bM;simp only [di];exists (fun aL d7=>d7=v5/\∃ nm:Str,nm.cps.toList=g i/\∃ eM,aL=[~~~a,some (.int m),some (.str (ag "abcdefghijklmnopqrstuvwxyz")),some (.str f7),some (.int (z:Nat)),some (.int (at_:Nat)),some (.int (f:Nat)),~~~c',some (.int (i:Nat)),some (.str nm),eM]),0
   .refine dh b (fun Q a5=>?_) (fun aju=>?_) (fun HX=>?_)
    ·(nofun; repeat (dsimp only [hq];nofun));rw [ab];exact ⟨pF,by omega,by omega,by decide,a5⟩
    .have Jr:g i=m4 f7.cps.toList at_ z f i:=by rw [bj];exact if_pos aju
     obtain ⟨c,ar,rfl⟩:=LB (i:=((f:Int) + 7 * (i:Int)) % 26) (pd _ (by decide)) (sP _ (by decide));have i6:∀ k:Nat,k <= 1000->k <= sizeLine:=fun k h=>b8 h (by decide)
     have e':=yp f7 none (some (at_:Int));have f6:=yp f7 (some ((at_:Int) + 1)) (some (z:Int));have nP:(iV (97 + (((f:Int) + 7 * (i:Int)) % 26).toNat)).length=1:=rfl;nofun;refine ⟨.inl ⟨by decide,by decide⟩,by decide,by rw [iq];decide,_,ar,by rw [DT];decide,i6 _ (by show _ + (iV (97 + (((f:Int) + 7 * (i:Int)) % 26).toNat)).length <= 1000;omega),by rw [DT];decide,i6 _ (by show (_ ++ iV (97 + (((f:Int) + 7 * (i:Int)) % 26).toNat)).length + _ <= 1000;rw [HV];omega),?_⟩;refine cn _ _ ⟨rfl,_,?_,_,rfl⟩;rw [Jr];unfold m4;rw [iR,j7,iR,j7,PM f7 (by omega),show ((at_:Int) + 1)=((at_ + 1:Nat):Int) by omega,UQ f7 (by omega) (by omega),show (((f:Int) + 7 * (i:Int)) % 26).toNat=(f + 7 * i) % 26 by omega]
    .have Jr:g i=xJ f7.cps.toList i:=by rw [bj];exact if_neg (by rw [HX];decide)
     nofun;exact cn _ _ ⟨rfl,_,by rw [Jr,PM f7 (by omega)];rfl,_,rfl⟩
   rintro agq RV ⟨rfl,nm,qJ,eM,rfl⟩;subst bM;nofun;refine ⟨.inl ⟨_,aW.of lV⟩,_,lV,jV (show (cv xs).length <= 8 by unfold cv;rw [bb];omega) (by decide),pF.set lV (fun _ _ z=>by cases z),hD.hM lI,⟨xs ++ [nm],?_,?_⟩,?_⟩
   .rw [aS];unfold cv;rw [eD];rfl
   .rw [eD,ku,oy,eD,dR,mb,qJ];rfl
   .repeat (first | exact ⟨_,rfl⟩ | refine ⟨⟨_,rfl⟩,?_⟩)
  .rintro σ I bU;ac_rfl
   obtain ⟨pF,hD,⟨xs,lV,ku⟩,gG,fW,eM,rfl⟩:=bU;subst bM;exact cn _ _ ⟨pF,hD,⟨xs,lV,by rw [ku,show (m:Int).toNat=m by omega]⟩,gG,fW,eM,rfl⟩
 rintro kC hb ⟨pF,hD,⟨xs,lV,ku⟩,gG,fW,eM,rfl⟩;have s6:xs.length=m:=by have:=congrArg mP ku;rwa [bb,bb,kS] at this
 have aai:∀ k,k < m->(1 <= (g k).length/\(g k).length <= 8)/\∀ c ∈ g k,97 <= c/\c <= 122:=fun k aJ=>by
  rw [bj];dsimp only;split
  .have:=abU eR tJ (f:=f) (k:=k) RM mg.2;exact ⟨by omega,this.2⟩
  .have:=EL eR tJ (k:=k) (by omega);exact ⟨by omega,this.2⟩
 have aaE:∀ i j,i < m->j < m->g i=g j->i=j:=fun i j aj bf e=>by
  rw [bj] at e
  try dsimp only at e
  split at e
  .exact Xx eR RM mg.2 (by omega) (by omega) e
  .have af:=EL eR tJ (k:=i) (by omega);have ai:=EL eR tJ (k:=j) (by omega);rw [e] at af;omega
 have Je:∀ (i:Nat) (x:Str),xs[i]? = some x->i < m/\x.cps.toList=g i:=fun i x ak=>by
  have aj:i < m:=by rw [<- s6];exact (cV.mp ak).1
  have e:=congrArg (fun l=>l[i]?) ku
  try dsimp only at e
  rw [ec,ak,ec,AP aj] at e;exact ⟨aj,dj e⟩
 have N:CB m xs:=by
  refine ⟨s6,afK.mpr fun i j aj bf pz e=>?_,fun x ak=>?_⟩
  .obtain ⟨a1,a2⟩:=Je i _ (cJ aj);obtain ⟨j0,kl⟩:=Je j _ (cJ bf);rw [e,kl] at a2;have:=aaE i j a1 j0 a2.symm;omega
  .obtain ⟨i,aj⟩:=q1 ak;obtain ⟨a1,a2⟩:=Je i _ aj;have:=aai i a1;exact ajG a2 this.1.1 this.1.2 this.2
 subst bM;exists (fun aL I=>Sc K a ns I/\aN fY I/\(∃ xs:List Str,I c'=some (.lst (cv xs))/\CB m xs)/\∃ gG fW eM,aL=[~~~a,some (.int m),some (.str (ag "abcdefghijklmnopqrstuvwxyz")),some (.str f7),some (.int (z:Nat)),some (.int (at_:Nat)),some (.int (f:Nat)),~~~c',gG,fW,eM]),3
 .refine dh (decide (ee ns 111 2=1)) (fun Q a5=>?_) (fun _=>?_) (fun _=>?_)
  ·(nofun; repeat (dsimp only [hq];nofun));exact ⟨pF,by omega,by omega,by decide,a5⟩
  .nofun;refine ⟨.inl ⟨_,aW.of lV⟩,_,lV,cn _ _ ⟨pF.set lV (fun _ _ z=>by cases z),hD.hM lI,⟨xs.reverse,by rw [aS];unfold cv;rw [List.map_reverse],by rw [ZA];exact N.1,List.pairwise_reverse.mpr (N.2.1.imp fun h=>c7 h),fun x ak=>N.2.2 x (List.mem_reverse.mp ak)⟩,_,_,_,rfl⟩⟩
  .nofun;exact cn _ _ ⟨pF,hD,⟨xs,lV,N⟩,_,_,_,rfl⟩
 rintro rG dI ⟨Wu,fK,⟨ys,DN,akz⟩,alH,al8,alF,rfl⟩;subst bM;nofun;exact q c' ys dI (s2.trans fK) Wu (s2.free lI) DN akz
noncomputable abbrev o_ (d:a8):List V:=[.str (d9 d.k),.str d.name,.int d.start,.int d.fin,.int d.off,.int d.near,.int d.least]
def g5 (H:aq) (wl:Addr) (ds:List a8):Prop:=∃ qs:List Addr,H wl=some (.lst (qs.map V.ref))/\qs.length=ds.length/\∀ (i:Nat) (q:Addr) (d:a8),qs[i]? = some q->ds[i]? = some d->H q=some (.tup (o_ d))
theorem g5.same {H I:aq} {wl:Addr} {ds:List a8} (h:g5 H wl ds) (s:aN H I):g5 I wl ds:=by
 obtain ⟨qs,aw,az,al⟩:=h;exact ⟨qs,s _ _ aw,az,fun i q d af ai=>s _ _ (al i q d af ai)⟩
theorem g5.snoc {H:aq} {wl p:Addr} {ds:List a8} {d:a8} {qs:List Addr} (e':H wl=some (.lst (qs.map V.ref))) (f6:qs.length=ds.length)
  (al:∀ (i:Nat) (q:Addr) (d:a8),qs[i]? = some q->ds[i]? = some d->H q=some (.tup (o_ d))) (ao:H p=none) :
  g5 (upd (upd H p (.tup (o_ d))) wl (.lst (qs.map V.ref ++ [.ref p]))) wl (ds ++ [d]):=by
 have mj:p ≠ wl:=(Db e' ao).symm;refine ⟨qs ++ [p],by rw [aS,eD];rfl,by rw [dq,dq,f6];rfl,fun i q e af ai=>?_⟩;rcases jY af with ⟨d_,d5⟩ | ⟨d_,rfl⟩
 .rcases jY ai with ⟨s_,yt⟩ | ⟨s_,_⟩
  .have:=al i q e d5 yt;rw [aX (fb this e' (by intro z;cases z)),aX (Db this ao)];exact this
  .omega
 .rcases jY ai with ⟨s_,yt⟩ | ⟨s_,rfl⟩
  .omega
  .rw [aX mj,aS]
theorem aix {n s j:Int} (h0:0 <= s) (af:s < n) (ai:0 <= j) (br:j < n - 1):s ≠ (s + 1 + j) % n:=by
 by_cases c:s + 1 + j < n
 .rw [pL (by omega) c];omega
 .rw [show s + 1 + j=(s + 1 + j - n) + n * 1 by omega,Int.add_mul_emod_self_left,pL (by omega) (by omega)];omega
theorem Vm {i:Int} (h0:0 <= i) (af:i < 3):i' [V.str (ag "car"),V.str (ag "foot"),V.str (ag "tram")] i=some (.str (d9 i.toNat)):=by
 have:i=0\/i=1\/i=2:=by omega
 rcases this with rfl | rfl | rfl
 .exact dw (j:=0) rfl
 .exact dw (j:=1) rfl
 .exact dw (j:=2) rfl
structure p6 (n:Int) (ds:List a8):Prop where
 al:∀ d ∈ ds,lE n d/\True
 aC:(ds.map (·.name)).Nodup
theorem p6.UL {n:Int} {ds:List a8} (h:p6 n ds) (aH:2 <= n/\n <= 99) (ax:1 <= ds.length/\ds.length <= 12):mv n ds:=⟨aH,ax,fun d hd=>(h.al d hd).1,h.aC⟩
def Tp (K:a4) (a:Addr) (ns:List Int):bI:=fun vs H Q _=>∃ (m:Nat) (n:Int),vs=[.ref a,.int m,.int n]/\Sc K a ns H/\(1 <= m/\m <= 8)/\(4 <= n/\n <= 99)/\∀ p ds I,aN H I->Sc K a ns I->H p=none->g5 I p ds->ds.length=m->p6 n ds->Q (.ref p) I
theorem Vn (a:Addr) (ns:List Int) (k0:ns.length <= 64):b_ P base T 3 t.sb t.sC v8 (Tp K a ns):=by
 refine cF (sq T a ns k0) fun eJ=>cF (abI T a ns k0) fun adG=>?_;exists T.JL.ok j',9
 obtain ⟨m,n,rfl,S,hm,aH,q⟩:=h;refine ⟨_,(aM (bL (i:=3) j'.aC (bK adG av T.ah9 T.JE.bh T.ajV (ae (U 0) (ae (U 1) aA))))
   (aM (bL (i:=4) j'.aC (bK eJ av T.fl T.e8.bh T.fq (ae (U 0) (ae aR (ae (U 2) aA)))))
   (aM (bL (i:=5) j'.aC (gO aA))
   (aM (ho hl rfl (mV rfl T.lL (ae (U 1) aA)) (b6 (i:=6) j'.aC) (aM (bL (i:=7) j'.aC (bK eJ av T.fl T.e8.bh T.fq (ae (U 0) (ae (bS dJ aR (bS kf aR (U 6))) (ae (U 2) aA)))))
   (aM (bL (i:=8) j'.aC (bS lQ (bS dJ (bS dJ (U 7) aR) (bK eJ av T.fl T.e8.bh T.fq (ae (U 0) (ae (bS dJ aR (bS kf aR (U 6))) (ae (bS oH (U 2) aR) aA))))) (U 2)))
   (aM (c9 (gr.pt (zi (cU fw (bK eJ av T.fl T.e8.bh T.fq (ae (U 0) (ae aR (ae aR aA)))) aR (lc _)) (Ck (cU l5 (U 7) (U 4) (lc _))))) (a3 (bL (i:=8) j'.aC (U 4))) dd)
   (aM (bL (i:=9) j'.aC (bK eJ av T.fl T.e8.bh T.fq (ae (U 0) (ae (bS dJ aR (bS kf aR (U 6))) (ae aR aA)))))
   (aM (bL (i:=10) j'.aC (bK eJ av T.fl T.e8.bh T.fq (ae (U 0) (ae (bS dJ aR (bS kf aR (U 6))) (ae aR aA)))))
   (aM (c9 (cU fw (bK eJ av T.fl T.e8.bh T.fq (ae (U 0) (ae (bS dJ aR (U 6)) (ae aR aA)))) aR (lc _)) (a3 (bL (i:=9) j'.aC (bK eJ av T.fl T.e8.bh T.fq (ae (U 0) (ae (bS dJ aR (bS kf aR (U 6))) (ae aR aA)))))) dd)
   (aM (c9 (cU fw (bK eJ av T.fl T.e8.bh T.fq (ae (U 0) (ae (bS dJ aR (bS kf aR (U 6))) (ae aR aA)))) aR (lc _)) (a3 (bL (i:=10) j'.aC (bK eJ av T.fl T.e8.bh T.fq (ae (U 0) (ae (bS dJ aR (bS kf aR (U 6))) (ae aR aA)))))) dd)
   (aM (bL (i:=11) j'.aC (cD gI (gO (ae cx (ae cx (ae cx aA)))) (bK eJ av T.fl T.e8.bh T.fq (ae (U 0) (ae (bS dJ aR (bS kf aR (U 6))) (ae aR aA))))))
   (aM (bL (i:=12) j'.aC (bS dJ aR (bK eJ av T.fl T.e8.bh T.fq (ae (U 0) (ae (bS dJ aR (bS kf aR (U 6))) (ae aR aA))))))
   (a3 (fO (iS m9 rX uH q2 (U 5) (ae (eL (ae (U 11) (ae (cD gI (U 3) (U 6)) (ae (U 7) (ae (U 8) (ae (U 9) (ae (U 10) (ae (U 12) aA)))))))) aA))))))))))))))
   (a3 (bX (U 5))))))),?_⟩
 exists (fun aL I=>aN H I/\Sc K a ns I/\∃ nl xs,I nl=some (.lst (cv xs))/\CB m xs/\aL=[~~~a,some (.int m),some (.int n),~~~nl,none,none,none,none,none,none,none,none,none]),3
 .nofun;exact ⟨m,rfl,S,hm,fun p xs I s1 n4 _ e N=>cn _ _ ⟨s1,n4,p,xs,e,N,rfl⟩⟩
 rintro jt H1 ⟨s1,n4,nl,xs,yJ,N,rfl⟩;subst bM;exists (fun aL I=>I=H1/\∃ h9:Int,(0 <= h9/\h9 < n)/\aL=[~~~a,some (.int m),some (.int n),~~~nl,some (.int h9),none,none,none,none,none,none,none,none]),3
 .have dv:=hv ns 115 (m:=n) (by omega);have dE:=hx ns 115 (m:=n) (by omega);(nofun; repeat (dsimp only [hq];nofun));exact ⟨n4,by omega,by omega,by omega,cn _ _ ⟨rfl,_,⟨dv,dE⟩,rfl⟩⟩
 rintro c4 ay ⟨rfl,h9,agx,rfl⟩;subst bM;exists (fun aL I=>Sc K a ns I/\aN ay I/\∃ wl,ay wl=none/\I wl=some (.lst [])/\aL=[~~~a,some (.int m),some (.int n),~~~nl,some (.int h9),~~~wl,none,none,none,none,none,none,none]),3
 .nofun;exact ⟨fL _,fun wl eR=>cn _ _ ⟨n4.new eR,a0 eR,wl,eR,aS,rfl⟩⟩
 rintro jF bA ⟨Bl,s3,wl,eR,gR,rfl⟩;subst bM;nofun;refine ⟨by omega,by omega,?_⟩;refine ap.range (fun i σ I=>Sc K a ns I/\aN ay I/\(∃ ds,g5 I wl ds/\ds.length=i/\(∀ d ∈ ds,lE n d)/\∀ (j:Nat) (d:a8),ds[j]? = some d->xs[j]? = some d.name)/\∃ kP iX gG fW eM gy fM,σ=[~~~a,some (.int m),some (.int n),~~~nl,some (.int h9),~~~wl,kP,iX,gG,fW,eM,gy,fM]) ⟨Bl,s3,⟨[],⟨[],gR,rfl,fun i q d h=>by simp at h⟩,rfl,fun d h=>by simp at h,fun j d h=>by simp at h⟩,_,_,_,_,_,_,_,rfl⟩ ?_ ?_
 .rintro i σ I aj bU;ac_rfl
  obtain ⟨kz,s4,⟨ds,uf,ij,a6,qJ⟩,kP,iX,gG,fW,eM,gy,fM,rfl⟩:=bU;have Sa:i < m:=by have:i < (m:Int).toNat:=aj;omega
  have AR:xs[i]? = some (xs[i]'(by rw [N.1];exact Sa)):=cJ _;subst bM;generalize xs[i]'(by rw [N.1];exact Sa)=nm at AR;have ajY:=s4 _ _ yJ;have Vf:i' (cv xs) ((i:Nat):Int)=some (.str nm):=dw (by unfold cv;rw [ec,AR];rfl);simp only [hX,di,ks,kv,xM];exists (fun aL d7=>d7=I/\∃ st:Int,(0 <= st/\st < n)/\aL=[~~~a,some (.int m),some (.int n),~~~nl,some (.int h9),~~~wl,some (.int (i:Nat)),some (.int st),gG,fW,eM,gy,fM]),0
  .have dv:=hv ns (120 + 7 * (i:Int)) (m:=n) (by omega);have dE:=hx ns (120 + 7 * (i:Int)) (m:=n) (by omega);(nofun; repeat (dsimp only [hq];nofun));exact ⟨.inl ⟨by decide,by decide⟩,kz,by omega,by omega,by omega,cn _ _ ⟨rfl,_,⟨dv,dE⟩,rfl⟩⟩
  rintro ahk v5 ⟨rfl,st,fE,rfl⟩;subst bM;simp only [di];exists (fun aL d7=>d7=v5/\∃ eZ:Int,(0 <= eZ/\eZ < n)/\st ≠ eZ/\aL=[~~~a,some (.int m),some (.int n),~~~nl,some (.int h9),~~~wl,some (.int (i:Nat)),some (.int st),some (.int eZ),fW,eM,gy,fM]),0
  .have dv:=hv ns (121 + 7 * (i:Int)) (m:=n - 1) (by omega);have dE:=hx ns (121 + 7 * (i:Int)) (m:=n - 1) (by omega);have m0:=pd (st + 1 + ee ns (121 + 7 * (i:Int)) (n - 1)) (show n ≠ 0 by omega);have qA:=sP (st + 1 + ee ns (121 + 7 * (i:Int)) (n - 1)) (show 0 < n by omega);(nofun; repeat (dsimp only [hq];nofun));exact ⟨.inl ⟨by decide,by decide⟩,kz,by omega,by omega,by omega,by omega,cn _ _ ⟨rfl,_,⟨m0,qA⟩,aix fE.1 fE.2 dv (by omega),rfl⟩⟩
  rintro agq RV ⟨rfl,eZ,Qd,cf,rfl⟩;subst bM;simp only [di];exists (fun aL d7=>d7=RV/\∃ eZ:Int,(0 <= eZ/\eZ < n)/\st ≠ eZ/\aL=[~~~a,some (.int m),some (.int n),~~~nl,some (.int h9),~~~wl,some (.int (i:Nat)),some (.int st),some (.int eZ),fW,eM,gy,fM]),0
  .refine dh (decide (ee ns 116 3=0) && decide (st ≠ h9)) (fun Q a5=>?_) (fun ab=>?_) (fun ab=>?_)
   ·(nofun; repeat (dsimp only [hq];nofun));refine ⟨kz,by omega,by omega,by decide,?_⟩;by_cases ot:ee ns 116 3=0
    .rw [if_pos (decide_eq_true ot)];rw [decide_eq_true ot,z7,show decide (st ≠ h9) = !decide (st=h9) from decide_not] at a5;exact a5
    .rw [if_neg (by simpa using ot)];rw [decide_eq_false ot,tR] at a5;exact a5
   .rw [iQ] at ab;nofun;exact cn _ _ ⟨rfl,h9,agx,of_decide_eq_true ab.2,rfl⟩
   .nofun;exact cn _ _ ⟨rfl,eZ,Qd,cf,rfl⟩
  rintro alp acw ⟨rfl,pE,UP,rM,rfl⟩;subst bM;simp only [di];exists (fun aL d7=>d7=acw/\∃ ja:Int,(0 <= ja/\ja <= 30)/\aL=[~~~a,some (.int m),some (.int n),~~~nl,some (.int h9),~~~wl,some (.int (i:Nat)),some (.int st),some (.int pE),some (.int ja),eM,gy,fM]),0
  .have dv:=hv ns (123 + 7 * (i:Int)) (m:=9) (by decide);have dE:=hx ns (123 + 7 * (i:Int)) (m:=9) (by decide);(nofun; repeat (dsimp only [hq];nofun));exact ⟨.inl ⟨by decide,by decide⟩,kz,by omega,by omega,by decide,cn _ _ ⟨rfl,_,by omega,rfl⟩⟩
  rintro alG agp ⟨rfl,KY,Xh,rfl⟩;subst bM;simp only [di];exists (fun aL d7=>d7=agp/\∃ sg:Int,(0 <= sg/\sg <= 30)/\aL=[~~~a,some (.int m),some (.int n),~~~nl,some (.int h9),~~~wl,some (.int (i:Nat)),some (.int st),some (.int pE),some (.int KY),some (.int sg),gy,fM]),0
  .have dv:=hv ns (125 + 7 * (i:Int)) (m:=6) (by decide);have dE:=hx ns (125 + 7 * (i:Int)) (m:=6) (by decide);(nofun; repeat (dsimp only [hq];nofun));exact ⟨.inl ⟨by decide,by decide⟩,kz,by omega,by omega,by decide,cn _ _ ⟨rfl,_,by omega,rfl⟩⟩
  rintro amQ adi ⟨rfl,ne1,Zn,rfl⟩;subst bM;simp only [di];exists (fun aL d7=>d7=adi/\∃ ja:Int,(0 <= ja/\ja <= 30)/\aL=[~~~a,some (.int m),some (.int n),~~~nl,some (.int h9),~~~wl,some (.int (i:Nat)),some (.int st),some (.int pE),some (.int ja),some (.int ne1),gy,fM]),0
  .refine dh (decide (ee ns (117 + (i:Int)) 6=0)) (fun Q a5=>?_) (fun _=>?_) (fun _=>?_)
   ·(nofun; repeat (dsimp only [hq];nofun));exact ⟨kz,by omega,by omega,by decide,a5⟩
   .have dv:=hv ns (123 + 7 * (i:Int)) (m:=31) (by decide);have dE:=hx ns (123 + 7 * (i:Int)) (m:=31) (by decide);(nofun; repeat (dsimp only [hq];nofun));exact ⟨.inl ⟨by decide,by decide⟩,kz,by omega,by omega,by decide,cn _ _ ⟨rfl,_,by omega,rfl⟩⟩
   .nofun;exact cn _ _ ⟨rfl,KY,Xh,rfl⟩
  rintro amc afd ⟨rfl,of2,ait,rfl⟩;subst bM;simp only [di];exists (fun aL d7=>d7=afd/\∃ sg:Int,(0 <= sg/\sg <= 30)/\aL=[~~~a,some (.int m),some (.int n),~~~nl,some (.int h9),~~~wl,some (.int (i:Nat)),some (.int st),some (.int pE),some (.int of2),some (.int sg),gy,fM]),0
  .refine dh (decide (ee ns (124 + 7 * (i:Int)) 8=0)) (fun Q a5=>?_) (fun _=>?_) (fun _=>?_)
   ·(nofun; repeat (dsimp only [hq];nofun));exact ⟨.inl ⟨by decide,by decide⟩,kz,by omega,by omega,by decide,a5⟩
   .have dv:=hv ns (125 + 7 * (i:Int)) (m:=31) (by decide);have dE:=hx ns (125 + 7 * (i:Int)) (m:=31) (by decide);(nofun; repeat (dsimp only [hq];nofun));exact ⟨.inl ⟨by decide,by decide⟩,kz,by omega,by omega,by decide,cn _ _ ⟨rfl,_,by omega,rfl⟩⟩
   .nofun;exact cn _ _ ⟨rfl,ne1,Zn,rfl⟩
  rintro al4 akp ⟨rfl,ne2,agO,rfl⟩;subst bM;simp only [di];exists (fun aL d7=>aN akp d7/\Sc K a ns d7/\∃ k:Nat,k < 3/\aL=[~~~a,some (.int m),some (.int n),~~~nl,some (.int h9),~~~wl,some (.int (i:Nat)),some (.int st),some (.int pE),some (.int of2),some (.int ne2),some (.str (d9 k)),fM]),0
  .have dv:=hv ns (122 + 7 * (i:Int)) (m:=3) (by decide);have dE:=hx ns (122 + 7 * (i:Int)) (m:=3) (by decide);(nofun; repeat (dsimp only [hq];nofun));exact ⟨by decide,fun p ao=>⟨.inl ⟨by decide,by decide⟩,kz.new ao,by omega,by omega,by decide,_,aW.of aS,_,Vm dv dE,cn _ _ ⟨a0 ao,kz.new ao,_,by omega,rfl⟩⟩⟩
  rintro aml abf ⟨Ke,QD,k,aJ,rfl⟩;have acS:=Ke _ _ ajY;have aeF:=uf.same Ke;subst bM;simp only [di];exists (fun aL d7=>d7=abf/\∃ u4:Int,(1 <= u4/\u4 <= 4)/\aL=[~~~a,some (.int m),some (.int n),~~~nl,some (.int h9),~~~wl,some (.int (i:Nat)),some (.int st),some (.int pE),some (.int of2),some (.int ne2),some (.str (d9 k)),some (.int u4)]),0
  .have dv:=hv ns (126 + 7 * (i:Int)) (m:=4) (by decide);have dE:=hx ns (126 + 7 * (i:Int)) (m:=4) (by decide);(nofun; repeat (dsimp only [hq];nofun));exact ⟨.inl ⟨by decide,by decide⟩,QD,by omega,by omega,by decide,cn _ _ ⟨rfl,_,by omega,rfl⟩⟩
  rintro akO amT ⟨rfl,u4,hle,rfl⟩;obtain ⟨qs,e',f6,al⟩:=aeF;subst bM;nofun;refine ⟨.inl ⟨_,aW.of e'⟩,_,aW.of acS,_,Vf,by decide,fun p ao=>?_⟩;have qz:wl ≠ p:=Db e' ao;have af1:=g5.snoc (d:=⟨k,nm,st,pE,of2,ne2,u4⟩) e' f6 al ao;refine ⟨_,by rw [aX qz];exact e',jV (show (qs.map V.ref).length <= 8 by rw [bb];omega) (by decide),(QD.new ao).set (by rw [aX qz];exact e') (fun _ _ z=>by cases z),((s4.trans Ke).trans (a0 ao)).hM eR,⟨ds ++ [⟨k,nm,st,pE,of2,ne2,u4⟩],af1,by rw [dq,ij];rfl,fun d hd=>?_,fun j d hd=>?_⟩,?_⟩
  .rcases hB.mp hd with hd | hd
   .exact a6 d hd
   .rw [fQ.mp hd];exact ⟨aJ,N.2.2 nm (d4 AR),⟨fE.1,fE.2⟩,⟨UP.1,UP.2⟩,rM,ait,agO,⟨hle.1,by dsimp only;omega⟩⟩
  .rcases jY hd with ⟨_,z⟩ | ⟨z,rfl⟩
   .exact qJ j d z
   .rw [z,ij];exact AR
  .repeat (first | exact ⟨_,rfl⟩ | refine ⟨⟨_,rfl⟩,?_⟩)
 .rintro σ I bU;ac_rfl
  obtain ⟨kz,s4,⟨ds,uf,ij,a6,qJ⟩,kP,iX,gG,fW,eM,gy,fM,rfl⟩:=bU;subst bM;rw [show (m:Int).toNat=m by omega] at ij;nofun;refine q wl ds I (s1.trans s4) kz (s1.free eR) uf ij ⟨fun d hd=>⟨a6 d hd,trivial⟩,?_⟩;have e:ds.map (·.name)=xs:=by
   refine Np fun j=>?_
   rw [ec];cases h:ds[j]? with
   | some d=>exact (qJ j d h).symm
   | none=>
    have:ds.length <= j:=Pd.mp h;exact (Pd.mpr (by rw [N.1];omega)).symm
  rw [e];exact N.2.1
def C4 (H:aq) (wl:Addr) (ws:List (a8 × Int)):Prop:=∃ qs:List Addr,H wl=some (.lst (qs.map V.ref))/\qs.length=ws.length/\∀ (i:Nat) (q:Addr) (p:a8 × Int),qs[i]? = some q->ws[i]? = some p->∃ qK,H q=some (.tup [.ref qK,.int p.2])/\H qK=some (.tup (o_ p.1))
def UG (K:a4) (a:Addr) (ns:List Int):bI:=fun vs H Q _=>vs=[.ref a]/\Sc K a ns H/\∀ n:Int,(4 <= n/\n <= 99)->Q (.int n) H
def zx (ds:List a8) (ws:List (a8 × Int)):Prop:=ws.length <= ds.length/\∃ gM:Int,∀ (j:Nat) (x:a8 × Int),ws[j]? = some x->ds[((gM + (j:Int)) % (ds.length:Int)).toNat]? = some x.1
def P2 (K:a4) (a:Addr) (ns:List Int):bI:=fun vs H Q _=>∃ wl ds,vs=[.ref a,.ref wl]/\Sc K a ns H/\g5 H wl ds/\(0 < ds.length/\ds.length <= 12) /\
 ∀ p I ws,aN H I->Sc K a ns I->C4 I p ws->(0 < ws.length/\ws.length <= 5)->(∀ x ∈ ws,x.1 ∈ ds/\1 <= x.2/\x.2 <= 60)->zx ds ws->Q (.ref p) I
theorem aje (a:Addr) (ns:List Int) (k0:ns.length <= 64):b_ P base T 2 t.qR t.su pg (UG K a ns):=by
 refine cF (sq T a ns k0) fun eJ=>?_;refine T.GF.ok Vy (fun vs H Q E h=>?_) (fun _ _ _ s H vs Q E av h=>?_)
 .obtain ⟨rfl,_⟩:=h;rfl
 obtain ⟨rfl,S,q⟩:=h;have dv:=hv ns 0 (m:=13) (by decide);have dE:=hx ns 0 (m:=13) (by decide);refine ⟨_,(a3 (bX (BU (cU fw (bK eJ av T.fl T.e8.bh T.fq (ae (U 0) (ae aR (ae aR aA)))) aR (lc _)) aR (bS dJ aR (bK eJ av T.fl T.e8.bh T.fq (ae (U 0) (ae aR (ae aR aA)))))))),?_⟩;nofun;refine ⟨_,_,rfl,S,by decide,by decide,?_⟩;refine ⟨rfl,?_⟩;by_cases z:ee ns 1 6=0
 .rw [if_pos (by rw [z];rfl)];exact q 99 (by decide)
 .rw [if_neg (by simpa using z)];exact ⟨_,_,rfl,S,by decide,by decide,_,rfl,q _ (by omega)⟩
theorem ahs (a:Addr) (ns:List Int) (k0:ns.length <= 64):b_ P base T 2 t.rA t.uq xk (P2 K a ns):=by
 refine cF (sq T a ns k0) fun eJ=>?_;exists T.am.ok o9,9
 obtain ⟨wl,ds,rfl,S,⟨qs,cL,c_,gR⟩,⟨EC,al3⟩,q⟩:=h;refine ⟨_,(aM (bL (i:=2) o9.aC (bS dJ aR (bK eJ av T.fl T.e8.bh T.fq (ae (U 0) (ae aR (ae aR aA))))))
   (aM (c9 (cU fw (bK eJ av T.fl T.e8.bh T.fq (ae (U 0) (ae aR (ae aR aA)))) aR (lc _)) (a3 (bL (i:=2) o9.aC aR)) dd)
   (aM (bL (i:=3) o9.aC (bK eJ av T.fl T.e8.bh T.fq (ae (U 0) (ae aR (ae (g7 jU rfl T.iI iF (ae (U 1) aA)) aA)))))
   (aM (bL (i:=4) o9.aC (gO aA))
   (aM (ho hl rfl (mV rfl T.lL (ae (g7 (ado rfl) rfl T.ab7 abX (ae (U 2) (ae (g7 jU rfl T.iI iF (ae (U 1) aA)) aA))) aA)) (b6 (i:=5) o9.aC) (aM (bL (i:=6) o9.aC (bS dJ aR (bK eJ av T.fl T.e8.bh T.fq (ae (U 0) (ae (bS dJ aR (U 5)) (ae aR aA))))))
   (aM (c9 (cU fw (bK eJ av T.fl T.e8.bh T.fq (ae (U 0) (ae aR (ae aR aA)))) aR (lc _)) (a3 (bL (i:=6) o9.aC (bS dJ aR (bK eJ av T.fl T.e8.bh T.fq (ae (U 0) (ae (bS dJ aR (U 5)) (ae aR aA))))))) dd)
   (a3 (fO (iS m9 rX uH q2 (U 4) (ae (eL (ae (cD gI (U 1) (bS lQ (bS dJ (U 3) (U 5)) (g7 jU rfl T.iI iF (ae (U 1) aA)))) (ae (U 6) aA))) aA)))))))
   (a3 (bX (U 4)))))))),?_⟩
 have dv:=hv ns 3 (m:=4) (by decide);have dE:=hx ns 3 (m:=4) (by decide);exists (fun aL I=>I=H/\∃ m:Int,(1 <= m/\m <= 4)/\aL=[~~~a,~~~wl,some (.int m),none,none,none,none]),5
 .nofun;exact ⟨_,_,rfl,S,by decide,by decide,_,rfl,oY _ _ ⟨rfl,_,by omega,rfl⟩⟩
 rintro aax ob ⟨rfl,m0,alT,rfl⟩;subst bM;exists (fun aL I=>I=ob/\∃ m:Int,(1 <= m/\m <= 5)/\aL=[~~~a,~~~wl,some (.int m),none,none,none,none]),5
 .refine dh (decide (ee ns 4 4=0)) (fun Q a5=>?_) (fun h=>?_) (fun h=>?_)
  .nofun;refine ⟨_,_,rfl,S,by decide,by decide,rfl,?_⟩;nofun;exact a5
  .nofun;exact oY _ _ ⟨rfl,5,by decide,rfl⟩
  .simp only [ft];exact oY _ _ ⟨rfl,_,by omega,rfl⟩
 rintro aL I ⟨rfl,m,hm,rfl⟩;subst bM;simp only [di];have Z1:=hv ns 5 (m:=(ds.length:Int)) (by omega);have Ka:=hx ns 5 (m:=(ds.length:Int)) (by omega);have n':(qs.map V.ref).length=ds.length:=by rw [bb,c_]
 exists (fun aL ay=>ay=I/\aL=[~~~a,~~~wl,some (.int m),some (.int (ee ns 5 (ds.length:Int))),none,none,none]),2
 .nofun;refine ⟨_,.inl (aW.of cL),?_⟩;rw [n'];exact ⟨_,_,rfl,S,by decide,by omega,oY _ _ ⟨rfl,rfl⟩⟩
 rintro jt H1 ⟨rfl,rfl⟩;subst bM;simp only [di];generalize al0:ee ns 5 (ds.length:Int)=gM at Z1 Ka ⊢;nofun;refine ⟨by decide,fun p ao=>?_⟩;have s1:aN H1 (upd H1 p (.lst [])):=a0 ao;refine ⟨_,.inl (aW.of (s1 _ _ cL)),?_⟩;rw [n'];refine ⟨by split <;> omega,by split <;> omega,?_⟩;have ac0:0 < (if (ds.length:Int) < m then (ds.length:Int) else m).toNat/\(if (ds.length:Int) < m then (ds.length:Int) else m).toNat <= 5/\(if (ds.length:Int) < m then (ds.length:Int) else m).toNat <= ds.length:=by split <;> omega
 generalize (if (ds.length:Int) < m then (ds.length:Int) else m).toNat=N at ac0 ⊢;refine ap.range (fun i σ ay=>(∃ x y,σ=[some (V.ref a),some (V.ref wl),some (V.int m),some (V.int (gM)),some (V.ref p),x,y])/\aN H1 ay/\Sc K a ns ay/\∃ ws,C4 ay p ws/\ws.length=i/\(∀ x ∈ ws,x.1 ∈ ds/\1 <= x.2/\x.2 <= 60)/\∀ (j:Nat) (x:a8 × Int),ws[j]? = some x->ds[((gM + (j:Int)) % (ds.length:Int)).toNat]? = some x.1) ?_ ?_ ?_
 .exact ⟨⟨_,_,rfl⟩,s1,S.new ao,[],⟨[],aS,rfl,fun i q p h=>by simp at h⟩,rfl,(fun x h=>by simp at h),fun j x h=>by simp at h⟩
 .rintro i σ ay aj bU;ac_rfl
  obtain ⟨⟨x,y,rfl⟩,s2,l7,ws,⟨kQ,e',f6,nP⟩,ax,ak,se⟩:=bU;have aw:=hv ns (60 + i) (m:=12) (by decide);have az:=hx ns (60 + i) (m:=12) (by decide);have bW:=hv ns (60 + i) (m:=60) (by decide);have fu:=hx ns (60 + i) (m:=60) (by decide);subst bM;simp only [hX,di,ks,kv];rw [xM];exists (fun aL bA=>bA=ay/\∃ du:Int,(1 <= du/\du <= 60)/\aL=[some (V.ref a),some (V.ref wl),some (V.int m),some (V.int gM),some (V.ref p),some (V.int (i:Int)),some (V.int du)]),2
  .nofun;exact ⟨_,_,rfl,l7,by omega,by decide,_,rfl,oY _ _ ⟨rfl,_,by omega,rfl⟩⟩
  rintro aax ob ⟨rfl,alb,al7,rfl⟩;subst bM;simp only [di];exists (fun aL bA=>bA=ob/\∃ du:Int,(1 <= du/\du <= 60)/\aL=[some (V.ref a),some (V.ref wl),some (V.int m),some (V.int (gM)),some (V.ref p),some (V.int (i:Int)),some (V.int du)]),2
  .refine dh (decide (ee ns 70 6=0)) (fun Q a5=>?_) (fun h=>?_) (fun h=>?_)
   .nofun;refine ⟨_,_,rfl,l7,by decide,by decide,rfl,?_⟩;nofun;exact a5
   .nofun;refine ⟨_,_,rfl,l7,by omega,by decide,_,rfl,?_⟩;exact oY _ _ ⟨rfl,_,by omega,rfl⟩
   .simp only [ft];exact oY _ _ ⟨rfl,_,by omega,rfl⟩
  rintro aL bA ⟨rfl,du,N3,rfl⟩;have LD:=pd (gM + i) (show (ds.length:Int) ≠ 0 by omega);have d_:=sP (gM + i) (show (0:Int) < ds.length by omega);obtain ⟨k,aJ⟩:∃ k:Nat,(gM + i) % (ds.length:Int)=(k:Int):=⟨_,(zS LD).symm⟩;have kO:k < ds.length:=by omega
  have H_:ds[k]? = some ds[k]:=cJ kO;have PT:qs[k]? = some (qs[k]'(by omega)):=cJ (by omega);have abC:=gR k _ _ PT H_;subst bM;nofun;refine ⟨.inl ⟨_,aW.of e'⟩,_,.inl (aW.of (s2 _ _ cL)),by rw [n'];omega,_,aW.of (s2 _ _ cL),V.ref (qs[k]'(by omega)),by rw [n',aJ];exact dw (by rw [ec,PT];rfl),by decide,fun eG eP=>?_⟩;have s3:aN bA (upd bA eG (.tup [V.ref (qs[k]'(by omega)),V.int du])):=a0 eP;have NQ:(upd bA eG (.tup [V.ref (qs[k]'(by omega)),V.int du])) eG=some (.tup [V.ref (qs[k]'(by omega)),V.int du]):=aS;have Bl:=l7.new (o:=.tup [V.ref (qs[k]'(by omega)),V.int du]) eP;have ub:=s2.trans s3;generalize upd bA eG (.tup [V.ref (qs[k]'(by omega)),V.int du])=dH at s3 NQ Bl ub ⊢;have GA:=s3 _ _ e';refine ⟨_,GA,jV (show (kQ.map V.ref).length <= 5 by rw [bb,f6,ax];omega) (by decide),⟨_,rfl⟩,ub.hM ao,Bl.set GA (by intro b2 z h;cases h),ws ++ [(ds[k],du)],⟨kQ ++ [eG],by rw [aS,eD];rfl,by rw [dq,dq,f6];rfl,fun j q x af ai=>?_⟩,by rw [dq,ax];rfl,fun x hm=>?_,fun j x bf=>?_⟩
  .have keep:∀ {b:Addr} {xs:List V},dH b=some (.tup xs)->upd dH p (.lst (kQ.map V.ref ++ [V.ref eG])) b=some (.tup xs):=fun e=>by rw [aX (fb e GA (by intro z;cases z))];exact e
   rcases jY af with ⟨g1,g2⟩ | ⟨g1,g2⟩
   .rcases jY ai with ⟨g3,ke⟩ | ⟨g3,ke⟩
    .obtain ⟨qK,v1,v2⟩:=nP j q x g2 ke;exact ⟨qK,keep (s3 _ _ v1),keep (s3 _ _ v2)⟩
    .omega
   .rcases jY ai with ⟨g3,ke⟩ | ⟨g3,ke⟩
    .omega
    .subst g2 ke;exact ⟨_,keep NQ,keep (ub _ _ abC)⟩
  .rcases hB.mp hm with g | g
   .exact ak x g
   .rw [fQ.mp g];exact ⟨d4 H_,N3.1,N3.2⟩
  .rcases jY bf with ⟨g1,g2⟩ | ⟨g1,g2⟩
   .exact se j x g2
   .rw [g1,ax,g2,aJ];exact H_
 .rintro σ ay bU;ac_rfl
  obtain ⟨⟨x,y,rfl⟩,s2,l7,ws,L,ax,ak,se⟩:=bU;subst bM;nofun;exact q _ _ _ s2 l7 L (by omega) ak ⟨by omega,gM,se⟩
theorem Xu (n:Int):ag "ring " ++ num n=dy cq [ag "ring",num n]:=by
 apply uc;have aw:(ag "ring ").cps.toList=[114,105,110,103,32]:=by ac_nf
 have az:(ag "ring").cps.toList=[114,105,110,103]:=by ac_nf
 rw [pX,oX];simp only [iR,j7,dR,mb,gL,aw,az,kn,JV]
theorem Ho {B:Nat}:∀ {ys:List Str},(∀ y ∈ ys,y.length <= B)->(ys.map (·.length)).sum <= ys.length * B
 | [],_=>by simp
 | a :: r,h=>by
  have af:=h a (by simp);have ai:=Ho (B:=B) (ys:=r) fun y aT=>h y (fk _ aT)
  rw [dR,PB,dr,Dd];omega
theorem LJ {n:Int} {ds:List a8} (h:mv n ds):∀ y ∈ (gu n ds).map (dy cq),y.length <= 63:=fun y aT=>by
 obtain ⟨r,av,rfl⟩:=da.mp aT;have:=rl cq 8 r fun x ak=>(h.plain r av x ak).1
 rw [p7] at this;have ax:r.length <= 7:=by
  rcases cX.mp av with rfl | av
  .simp
  .obtain ⟨d,hd,rfl⟩:=da.mp av;simp [ol]
 omega
def Q9 (K:a4):bI:=fun vs H Q _=>∃ n wl ds,vs=[.int n,.ref wl]/\g5 H wl ds/\p6 n ds/\(2 <= n/\n <= 99)/\(1 <= ds.length/\ds.length <= 12)/\aY H/\Q (.str (f5 n ds)) H
def WX (K:a4):bI:=fun vs H Q _=>∃ n wl ds,vs=[.int n,.ref wl]/\g5 H wl ds/\p6 n ds/\(2 <= n/\n <= 99)/\(1 <= ds.length/\ds.length <= 12)/\∀ I,aN H I->Q (.str (f5 n ds)) I
theorem abB:b_ P base T 1 t.sz t.xP zO (Q9 K):=by
 refine bt.forget (sp:=WX K) ?_ fun vs H Q E h=>?_
 .exists T.GC.ok Es,9
  obtain ⟨n,wl,ds,rfl,L,D,aH,ax,q⟩:=h;refine ⟨_,(aM (bL (i:=2) Es.aC (gO (ae (bS mr cx (k2 Uf rfl T.ru rh (ae (U 0) aA))) aA)))
   (aM (ho hl rfl (iP (U 1)) (b6 (i:=3) Es.aC) (a3 (fO (iS m9 rX uH q2 (U 2) (ae (iS sJ Fg DY AS cx (ae (bS FU (gO (ae (cD er (U 3) aR) (ae (cD er (U 3) aR) aA))) (iG rfl (TO (od akD (U 3) (mX aR) pq)) (gx (sc:=bG Ax) rfl (by ac_nf)) (N:=["_law_number"]) (sel:=[none]) (gs (M:=["_law_places_here","_law_ways_here","_law_rows","_law_way"]) (by ac_nf)) (fD.of (fun _ _ _ _=>(b6 (i:=0) (eT (N:=["_law_number"]) (by ac_nf) rfl))) (fun _ _ _ _=>⟨_,iz,by walk_at "B"⟩) (fun _ _ _ _=>⟨_,(k2 Uf rfl T.ru rh (ae (U 0) aA)),by walk_at "B"⟩)))) aA)) aA)))))
   (a3 (bX (iS sJ Fg DY AS cx (ae (U 2) aA)))))),?_⟩
  have cB:=D.UL aH ax;obtain ⟨qs,e',f6,al⟩:=L;have hlen:∀ x:Str,mq x->x.length <= 8:=fun x h=>h.1
  have i6:∀ k:Nat,k <= 1000->k <= sizeLine:=fun k h=>b8 h (by decide)
  have aaz:(ag "ring ").length=5:=by ac_nf
  have jj:(ag " ").length=1:=by ac_nf
  nofun;have ak4:(ag (toString n)).length <= 8:=(jX (v:=n) (by omega) (by omega)).1;refine ⟨lv (by omega),i6 _ (by rw [aaz];omega),by decide,fun c' Ui=>?_⟩;rw [Xu];have s0:aN H (upd H c' (.lst [V.str (dy cq [ag "ring",num n])])):=a0 Ui;refine ⟨⟨_,aW.of (s0 _ _ e')⟩,?_⟩;refine ap.list (xs:=qs.map V.ref) (fun i σ I=>aN H I/\I c'=some (.lst (cv ((gu n (ds.take i)).map (dy cq))))/\∃ x,σ=[some (.int n),~~~wl,~~~c',x]) ?_ ?_ ?_ ?_
  .exact ⟨s0,aS,none,rfl⟩
  .rintro i σ I aj ⟨ck,_,_⟩;exact aW.of (ck _ _ e')
  .rintro i v σ I aU bU;ac_rfl
   obtain ⟨ck,av,x,rfl⟩:=bU;obtain ⟨cS,aB,rfl⟩:=eU aU;have lJ:i < ds.length:=by rw [<- f6];exact (cV.mp aB).1
   have hd:ds[i]? = some ds[i]:=cJ lJ;have dc:bY K I cS (o_ ds[i]):=bY.of (ck _ _ (al i cS _ aB hd));have hw:=(D.al _ (d4 hd)).1;have j0:=hw.st;have kl:=hw.eZ;have vv:=hw.of;have OB:=hw.jr;have ag0:=hw.le;have d_:=hlen _ (O3 ds[i].k);have d5:=hlen _ (r3 hw.nm);have tI:(num ds[i].start).length <= 8:=hlen _ (jX (v:=ds[i].start) (by omega) (by omega));have LK:(num ds[i].fin).length <= 8:=hlen _ (jX (v:=ds[i].fin) (by omega) (by omega));have Mp:(num ds[i].off).length <= 8:=hlen _ (jX (v:=ds[i].off) (by omega) (by omega));have amN:(num ds[i].least).length <= 8:=hlen _ (jX (v:=ds[i].least) (by omega) (by omega));have R5:(num ds[i].near).length <= 8:=hlen _ (jX (v:=ds[i].near) (by omega) (by omega));subst bM;nofun;refine ⟨.inl ⟨_,aW.of av⟩,?_⟩;have A2:i' (o_ ds[i]) 0=some (.str (d9 ds[i].k)):=dw (j:=0) rfl;have tm:i' (o_ ds[i]) 1=some (.str ds[i].name):=dw (j:=1) rfl;have Iz:hk (o_ ds[i]) (some 2) none=[.int ds[i].start,.int ds[i].fin,.int ds[i].off,.int ds[i].near,.int ds[i].least]:=rfl;refine ⟨_,dc,_,A2,_,dc,_,tm,by decide,fun kM z9=>?_⟩;have s1:aN I (upd I kM (.lst [.str (d9 ds[i].k),.str ds[i].name])):=a0 z9;have qi:=s1 _ _ av;have Le:(upd I kM (.lst [.str (d9 ds[i].k),.str ds[i].name])) kM=some (.lst [.str (d9 ds[i].k),.str ds[i].name]):=aS;have n1:=ck.trans s1;have Li:=dc.same s1;generalize upd I kM (.lst [.str (d9 ds[i].k),.str ds[i].name])=H1 at qi Le n1 Li ⊢;refine ⟨_,Li,(show ¬ (ea.cC 7 0 (some 2)=0/\ea.cC 7 7 none=7) by decide),fun p ao=>⟨⟨_,bY.of aS⟩,?_⟩⟩;rw [Iz];refine cY.Z5 (xs:=[.int ds[i].start,.int ds[i].fin,.int ds[i].off,.int ds[i].near,.int ds[i].least]) (zs:=cv [num ds[i].start,num ds[i].fin,num ds[i].off,num ds[i].near,num ds[i].least]) (bY.of aS) (i6 _ (show 5 <= 1000 by decide)) rfl (fun j v z N aU aD bx=>?_) (fun dM c5=>?_)
   .have key:∃ a:Int,v=.int a/\z=.str (num a)/\0 <= a/\a < 100:=by
     match j,aU,aD with
     | 0,aU,aD=>cases aU;cases aD;exact ⟨_,rfl,rfl,j0.1,by omega⟩
     | 1,aU,aD=>cases aU;cases aD;exact ⟨_,rfl,rfl,kl.1,by omega⟩
     | 2,aU,aD=>cases aU;cases aD;exact ⟨_,rfl,rfl,vv.1,by omega⟩
     | 3,aU,aD=>cases aU;cases aD;exact ⟨_,rfl,rfl,OB.1,by omega⟩
     | 4,aU,aD=>cases aU;cases aD;exact ⟨_,rfl,rfl,by omega,by omega⟩
     | k + 5,aU,aD=>simp at aU
    obtain ⟨a,rfl,rfl,akQ,am2⟩:=key;nofun;exact ⟨Sub.name,lv (by omega),bx⟩
   .have s2:aN H1 (upd (upd H1 p (.tup [.int ds[i].start,.int ds[i].fin,.int ds[i].off,.int ds[i].near,.int ds[i].least])) dM (.lst (cv [num ds[i].start,num ds[i].fin,num ds[i].off,num ds[i].near,num ds[i].least]))):=(a0 ao).trans (a0 c5);have az:(upd (upd H1 p (.tup [.int ds[i].start,.int ds[i].fin,.int ds[i].off,.int ds[i].near,.int ds[i].least])) dM (.lst (cv [num ds[i].start,num ds[i].fin,num ds[i].off,num ds[i].near,num ds[i].least]))) dM=some (.lst (cv [num ds[i].start,num ds[i].fin,num ds[i].off,num ds[i].near,num ds[i].least])):=aS;generalize upd (upd H1 p (.tup [.int ds[i].start,.int ds[i].fin,.int ds[i].off,.int ds[i].near,.int ds[i].least])) dM (.lst (cv [num ds[i].start,num ds[i].fin,num ds[i].off,num ds[i].near,num ds[i].least]))=ay at s2 az ⊢;refine ⟨_,rfl,_,s2 _ _ Le,_,az,i6 _ (show 2 + 5 <= 1000 by decide),fun p_ ml=>?_⟩;have xi:(upd ay p_ (.lst ([V.str (d9 ds[i].k),V.str ds[i].name] ++ cv [num ds[i].start,num ds[i].fin,num ds[i].off,num ds[i].near,num ds[i].least]))) c'=some (.lst (cv ((gu n (ds.take i)).map (dy cq)))):=by
     rw [aX (Db (s2 _ _ qi) ml)];exact s2 _ _ qi
    refine ⟨ol ds[i],aW.of aS,?_,_,xi,?_,?_,?_,_,rfl⟩
    .rw [jj];simp only [ol,dR,mb,PB,List.sum_nil,dr,u5];omega
    .rw [qb,bb];exact jV (show (gu n (ds.take i)).length <= 13 by unfold gu;rw [dr,bb,eX];omega) (by decide)
    .exact fun b u e=>by rw [aX (Db e Ui)];exact (a0 ml) _ _ (s2 _ _ (n1 _ _ e))
    .rw [aS,show uM (ag " ") (ol ds[i])=dy cq (ol ds[i]) from CN _ _];congr 2;unfold gu cv;simp;rw [i9,ec,hd];rfl
  .rintro σ I bU;ac_rfl
   obtain ⟨ck,av,x,rfl⟩:=bU;subst bM;nofun;rw [bb,f6,jg] at av;refine ⟨_,aW.of av,?_,?_⟩
   .have k0:∀ y ∈ (gu n ds).map (dy cq),y.length <= 63:=LJ cB;have akJ:((gu n ds).map (dy cq)).length <= 13:=by
     unfold gu;rw [bb,dr,bb];omega
    have:=Ho k0;rw [show (ag "\n").length=1 by ac_nf];omega
   .have:=q I ck;unfold f5 at this;rw [show uM (ag "\n") ((gu n ds).map (dy cq))=dy nl ((gu n ds).map (dy cq)) from CN _ _];exact this
 .obtain ⟨n,wl,ds,af,ai,br,cm,gK,bc,q⟩:=h;exact ⟨bc,n,wl,ds,af,ai,br,cm,gK,fun I ck=>⟨ck,q⟩⟩
unseal L2.ei L2.bk L2.e2 L2.f_ L2.hi L2.gr
section
open PySem.Spec PyProof.Rows
theorem TS {prog:Program} {w:World}:∀ {aF:List DictEntry} {bB:List Str},bN (bB.map V.str) (aF.map (·.key))->Pairs (strKind prog w) aF (bB.zip (aF.map (·.val)))
 | [],[],_=>.nil
 | e :: aF,k :: bB,.cons r t=>by
  obtain ⟨cG,aw⟩:=(show ∃ t,e.key=q4 k t from r);exact .cons (by show (strKind prog w).is k e.key=true;rw [aw];exact strKind_is prog w k cG) rfl (TS t)
theorem agk {bB:List Str} {aF:List DictEntry} (h:bN (bB.map V.str) (aF.map (·.key))):bB.length=aF.length:=by
 have:=h.length;rwa [bb,bb] at this
section
variable {X:aP}
theorem agl {a:Addr} {bB:List Str} (ar:X.calm=true) (D:Av X.w X.K a bB) (aC:bB.Nodup) (aD:bB.length <= 100):jK X (.type "list") (fun xs H Q=>xs=[.ref a]/\∀ l,H l=none->Q (.ref l) (upd H l (.lst (cv bB)))):=by
 intro aa s σ H xs us Q J r h;obtain ⟨rfl,q⟩:=h;obtain ⟨u,rfl,dD⟩:=Op r;cases dD;obtain ⟨aF,n,aG,ax,aJ,aU⟩:=D;have hlen:=agk aU;have yH:(bB.zip (aF.toList.map (·.val))).length=bB.length:=by rw [List.length_zip,bb];omega
 have SM:(bB.zip (aF.toList.map (·.val))).map (·.1)=bB:=by rw [List.map_fst_zip (by rw [bb];omega)]
 have bC:s.heap.DictAt (strKind X.prog X.w) a (bB.zip (aF.toList.map (·.val))) n:=by
  refine ⟨_,aF,J.ep _ _ ax,⟨rfl,rfl,rfl⟩,rfl,fun e he=>?_,TS aU,by rw [SM];exact aC⟩;obtain ⟨x,t,aw,az⟩:=aJ.all e (Kz.mpr he);exact ⟨x,by rw [aw];exact strKind_is X.prog X.w x t,az⟩
 refine PySem.W.kdl_call (PySem.W.kdl_dict (knd:=strKind X.prog X.w) aG) (J.ok.hd ar) bC (by rw [yH];exact b8 aD (by decide)) fun h' cG acc c lh gW xe=>?_
 refine ⟨.ref _,_,J.laid (o:=.lst (cv bB)) (t':=cG) lh (bu _) ⟨by unfold cv;rw [bb];exact b8 aD (by decide),acc.toList,c,?_,gW⟩,rfl,q _ (J.a6.fresh (bu _))⟩;have T5:=akh (f:=fun i=>V.str (bB.getD i (ag ""))) (fun i v aU=>by
  obtain ⟨k,x,aw,az⟩:=aU;have bW:bB[i]? = some k:=by
   have:=congrArg (Option.map (·.1)) aw;rw [<- ec,SM] at this;exact this
  show bD (V.str (bB.getD i (ag ""))) v;rw [jx,bW];exact Zv az) xe
 have yn:(dW (bB.zip (aF.toList.map (·.val))).length).map (fun i=>V.str (bB.getD i (ag "")))=cv bB:=by
  rw [yH];unfold cv;refine List.ext_getElem (by simp) fun i af ai=>?_
  rw [sW,List.getElem_range,sW,jx,cJ (by simpa using ai)];rfl
 rw [yn] at T5;exact T5
noncomputable def wO (z y:Str):List V:=match mn z y 0 z.length 1 with | i :: _=>[.str (q8 z 0 i),.str y,.str (q8 z (i + y.length) z.length)] | []=>[.str z,.str rx,.str rx]
noncomputable def ajC:V->List V->aq->cc->Prop:=fun x vs H Q=>∃ z y,x=.str z/\vs=[.str y]/\(y.length == 0)=false/\z.length <= sizeLine/\∀ p,H p=none->Q (.ref p) (upd H p (.tup (wO z y)))
theorem aaX:wq X "str.partition" ajC:=by
 intro aa s σ H x xs v us Q J bg bV h;obtain ⟨z,y,rfl,rfl,aT,aD,q⟩:=h;obtain ⟨t,rfl⟩:=bg;obtain ⟨u,rfl,dD⟩:=Op bV;obtain ⟨Fv,rfl⟩:=dD;refine call_meets ab0 (typeIs_str _ _ _) PySem.F.entry_str_partition (PySem.F.args_str_partition_2 _ _) (meets_str_partition z y t Fv aT aD) ?_;unfold wO at q
 revert q
 cases mn z y 0 z.length 1 with
 | nil=>
  intro q;exact ⟨.ref s.heap.objs.size,_,J.laid (t':=s.toks + 1) (o:=.tup [.str z,.str rx,.str rx]) (fun b b2 q=>c6 _ q) (bu _) ⟨⟨by show 3 <= sizeLine;decide,_,en _ rfl,rfl⟩,[.str z t,.str rx s.toks,.str rx s.toks],.cons ⟨_,rfl⟩ (.cons ⟨_,rfl⟩ (.cons ⟨_,rfl⟩ .nil)),⟨_,en _ rfl,rfl,_,rfl⟩⟩,rfl,q _ (J.a6.fresh (bu _))⟩
 | cons i r=>
  intro q;exact ⟨.ref s.heap.objs.size,_,J.laid (t':=s.toks + 1 + 1) (o:=.tup [.str (q8 z 0 i),.str y,.str (q8 z (i + y.length) z.length)]) (fun b b2 q=>c6 _ q) (bu _) ⟨⟨by show 3 <= sizeLine;decide,_,en _ rfl,rfl⟩,[.str (q8 z 0 i) s.toks,.str y Fv,.str (q8 z (i + y.length) z.length) (s.toks + 1)],.cons ⟨_,rfl⟩ (.cons ⟨_,rfl⟩ (.cons ⟨_,rfl⟩ .nil)),⟨_,en _ rfl,rfl,_,rfl⟩⟩,rfl,q _ (J.a6.fresh (bu _))⟩
end
end
theorem WB {X:aP} {body:List Stmt} {h0:ExceptHandler} {aG:List ExceptHandler} {ct:dz} {pos:Pos} (ak:X.cK=fun _ _=>False) (ab:f_ X body ct):e2 X (.Try body (h0 :: aG) [] [] pos) ct:=by
 intro aa s σ H D J h;refine wpAny_Try_except (wpAny_mono (ab aa s σ H D J h) (fun f s1 q=>?_) fun e s1 q=>?_)
 .cases f with
  | next=>exact wpAny_execs_nil q
  | brk=>exact q
  | cont=>exact q
  | ret u=>exact q
 .rw [ak] at q;exact q.elim
seal L2.ei L2.bk L2.e2 L2.f_ L2.hi L2.gr
def gh (H:aq) (l:Addr) (us:List (Str × Int)):Prop:=∃ qs:List Addr,H l=some (.lst (qs.map V.ref))/\qs.length=us.length/\∀ (i:Nat) (q:Addr) (u:Str × Int),qs[i]? = some q->us[i]? = some u->H q=some (.tup [.str u.1,.int u.2])
theorem gh.same {H I:aq} {l:Addr} {us:List (Str × Int)} (h:gh H l us) (s:aN H I):gh I l us:=by
 obtain ⟨qs,aw,az,al⟩:=h;exact ⟨qs,s _ _ aw,az,fun i q u af ai=>s _ _ (al i q u af ai)⟩
structure kU (us:List (Str × Int)):Prop where
 e':1 <= us.length
 mJ:us.length <= 5
 nm:∀ u ∈ us,made u.1 gn 8=true/\1 <= u.2/\u.2 <= 60
 aC:(us.map (·.1)).Nodup
def SS (ws:List Str) (pl:Nat) (us:List (Str × Int)):Prop:=ws.length=pl + 2 * us.length/\∀ (i:Nat) (u:Str × Int),us[i]? = some u->ws[pl + 2 * i]? = some u.1/\ws[pl + 2 * i + 1]? = some (num u.2)
def aie (t:bJ):bI:=fun vs H Q _=>∃ p row ws pl x,vs=[.ref p]/\cp t H p row ws pl/\ws[pl]? = some x/\made x gn 8=true/\aY H/\wg t H p row ws (pl + 1) (Q (.str x))
def ae1 (t:bJ):bI:=fun vs H Q _=>∃ p b' row ws pl x v bB,vs=[.ref p,.ref b']/\cp t H p row ws pl/\ws[pl]? = some x/\made x gn 8=true/\ws[pl + 1]? = some (num v)/\(1 <= v/\v <= 60)/\H b'=some (.lst (cv bB))/\x ∉ bB/\aY H /\
 ∀ eG I,c3 p H I->aY I->cp t I p row ws (pl + 2)->H eG=none->I eG=some (.tup [.str x,.int v])->Q (.ref eG) I
def agD (t:bJ):bI:=fun vs H Q _=>∃ p row ws pl us,vs=[.ref p]/\cp t H p row ws pl/\SS ws pl us/\kU us/\aY H /\
 ∀ l I,c3 p H I->aY I->cp t I p row ws ws.length->H l=none->gh I l us->Q (.ref l) I
theorem c3.free {p b:Addr} {H H1:aq} (s:c3 p H H1) (ao:∃ u,H1 p=some u) (h:H1 b=none):H b=none:=by
 obtain ⟨u,ba⟩:=ao;cases e:H b with
 | none=>rfl
 | some v=>
  have cf:b ≠ p:=fun z=>by rw [z,ba] at h;cases h
  rw [s _ _ cf e] at h;cases h
theorem cp.some {t:bJ} {H:aq} {p:Addr} {row:Int} {ws:List Str} {pl:Nat} (h:cp t H p row ws pl):∃ u,H p=some u:=by
 obtain ⟨aD,au,aV,aw,az⟩:=h;exact ⟨_,aw⟩
theorem Vp:b_ P base T 3 t.xm t.Cw ["reader"] (aie t):=by
 refine cF (sx T) fun mA=>cF (wk T) fun oq=>cF (FZ T) fun w0=>?_;exists T.F8.ok P0,9
 obtain ⟨p,row,ws,pl,x,rfl,R,ak,hm,bc,q⟩:=h;refine ⟨_,(aM (bL (i:=1) P0.aC (mM (U 0) T.eH T.uv mA av T.tQ .nil cT))
   (aM (fO (e3 (U 0) T.eH T.xB oq av T.vq .nil cT (ae (bK w0 av T.FF T.v3.bh T.I6 (ae (U 1) aA)) aA)))
   (a3 (bX (U 1))))),?_⟩
 have cH:pl < ws.length:=(cV.mp ak).1;have bj:ws.getD pl (ag "")=x:=by rw [jx,ak];rfl
 obtain ⟨aD,au,aV,aw,az⟩:=id R;nofun;refine ⟨_,_,aw,cp.no _ _ _ (by ac_nf),⟨p,row,ws,pl,rfl,R,by omega,?_⟩⟩;rw [bj];nofun;refine ⟨_,_,aw,cp.no _ _ _ (by ac_nf),x,rfl,aD.2 x (d4 ak),bc,?_⟩;rw [hm];refine ⟨p,row,ws,pl,rfl,R,fun I s1 s2 s3=>?_⟩;nofun;exact q I s1 s2 s3
theorem ahN:b_ P base T 5 t.w5 t.Ah Kf (ae1 t):=by
 refine cF (sx T) fun mA=>cF (wk T) fun oq=>cF (FZ T) fun w0=>cF (ym T) fun lU=>?_;exists T.Bp.ok RA,9
 obtain ⟨p,b',row,ws,pl,x,v,bB,rfl,R,ak,hm,aT,aU,aJ,aH,bc,q⟩:=h;have ba:=gF av;refine ⟨_,(aM (bL (i:=2) RA.aC (mM (U 0) T.eH T.uv mA av T.tQ .nil cT))
   (aM (fO (e3 (U 0) T.eH T.xB oq av T.vq .nil cT (ae (Hl (bK w0 av T.FF T.v3.bh T.I6 (ae (U 2) aA)) (rR (iH AU (U 2) (U 1) (by with_unfolding_all rfl)))) aA)))
   (a3 (bX (eL (ae (U 2) (ae (e3 (U 0) T.eH T.pY lU av T.Gc .nil cT (ae aR (ae (jy rfl T.acR T.agL) aA))) aA))))))),?_⟩
 have cH:pl < ws.length:=(cV.mp ak).1;have bj:ws.getD pl (ag "")=x:=by rw [jx,ak];rfl
 obtain ⟨aD,au,aV,aw,az⟩:=id R;nofun;refine ⟨_,_,aw,cp.no _ _ _ (by ac_nf),⟨p,row,ws,pl,rfl,R,by omega,?_⟩⟩;rw [bj];nofun;refine ⟨_,_,aw,cp.no _ _ _ (by ac_nf),x,rfl,aD.2 x (d4 ak),bc,?_⟩;rw [hm];refine ⟨_,rfl,?_⟩;rw [if_pos rfl];refine ⟨_,.inl (aW.of aJ),rfl,xI _,?_⟩;rw [sT,decide_eq_false aH];refine ⟨p,row,ws,pl,rfl,R,fun H1 s1 bH kI=>?_⟩;obtain ⟨_,Xd,ago,ag',alZ⟩:=id kI;refine ⟨_,_,ag',cp.no _ _ _ (by ac_nf),p,row,ws,pl + 1,_,1,60,v,rfl,kI,aT,pp (by omega) (by omega) (by omega) (by omega),bH bc,fun ay s2 bQ ez=>⟨by decide,fun eG eP=>?_⟩⟩;exact q eG _ ((s1.trans s2).trans (c3.of (a0 eP))) (bQ (bH bc)).upd (ez.same (a0 eP)) ((s1.trans s2).free ez.some eP) aS
theorem ZR:b_ P base T 6 t.yR t.Cv ["reader"] (agD t):=by
 refine cF (ahN T) fun QF=>cF (TG T) fun FP=>?_;exists T.JW.ok Nu,9
 obtain ⟨p,row,ws,pl,us,rfl,R,⟨eR,jo⟩,ok,bc,q⟩:=h;have ba:=gF av;refine ⟨_,(aM (bL (i:=1) Nu.aC (gO (ae (bK QF av T.Nh T.Bp.bh T.Oz (ae (U 0) (ae (gO aA) aA))) aA)))
   (aM (CE hl (gr.pt (zi (mK (mM (U 0) T.eH T.Lj FP av T.Ti .nil cT)) (Ck (cU sh (g7 jU rfl T.iI iF (ae (U 1) aA)) (jy rfl T.XX T.adz) (lc _))))) (a3 (fO (iS m9 rX uH q2 (U 1) (ae (bK QF av T.Nh T.Bp.bh T.Oz (ae (U 0) (ae (iG rfl (iP (U 1)) (gx (sc:=bG zJ) rfl (by ac_nf)) (N:=["name","turns"]) (sel:=[none,none]) (gs (M:=["reader","wants"]) (by ac_nf)) (fD.of (fun _ _ _ _=>(fZ (K:=K) (n:=2) rfl rfl (c0 (b6 (i:=0) (eT (N:=["name","turns"]) (by ac_nf) rfl)) (c0 (b6 (i:=1) (eT (N:=["name","turns"]) (by ac_nf) rfl)) f')))) (fun _ _ _ _=>⟨_,iz,by walk_at "B"⟩) (fun _ _ _ _=>⟨_,(U 0),by walk_at "B"⟩))) aA))) aA)))))
   (a3 (bX (U 1))))),?_⟩
 have e':=ok.e';have mJ:=ok.mJ;exists (fun aL I=>c3 p H I/\aY I/\cp t I p row ws (pl + 2 * 1)/\∃ l,H l=none/\gh I l (us.take 1)/\aL=[~~~p,~~~l]),3
 .nofun;obtain ⟨xU,h0⟩:∃ u,us[0]? = some u:=⟨us[0]'(by omega),cJ _⟩;obtain ⟨g1,g2,g3⟩:=ok.nm xU (d4 h0);refine ⟨by decide,fun b' kO=>⟨p,b',row,ws,pl,xU.1,xU.2,[],rfl,R.same (a0 kO),(jo 0 xU h0).1,g1,(jo 0 xU h0).2,⟨g2,g3⟩,aS,by simp,bc.upd,fun eG ay s2 bQ ez eP az=>⟨by decide,fun l ax=>?_⟩⟩⟩;have P6:c3 p H ay:=(c3.of (a0 kO)).trans s2;refine cn _ _ ⟨P6.trans (c3.of (a0 ax)),bQ.upd,ez.same (a0 ax),l,P6.free ez.some ax,⟨[eG],aS,by rw [eX];show 1=_;omega,fun i q u af ai=>?_⟩,rfl⟩
  match i,af,ai with
  | 0,af,ai=>
   cases af;rw [oK (by decide),h0] at ai;cases ai;exact a0 ax _ _ az
  | i + 1,af,_=>simp at af
 rintro jt H1 ⟨s1,bH,kI,l,EC,We,rfl⟩;subst bM;simp only [di];nofun;refine ⟨fun m σ I=>∃ i,m=us.length - i/\1 <= i/\i <= us.length/\c3 p H I/\aY I/\cp t I p row ws (pl + 2 * i)/\gh I l (us.take i)/\σ=[~~~p,~~~l],⟨_,1,rfl,bu _,e',s1,bH,kI,We,rfl⟩,?_⟩;rintro m σ ay bU;ac_rfl
 obtain ⟨i,rfl,tH,amG,s2,bQ,ez,DX,rfl⟩:=bU;obtain ⟨_,au,aV,aw,az⟩:=id ez;obtain ⟨qs,v1,v2,v7⟩:=id DX;have vj:(us.take i).length=i:=by rw [eX];omega
 subst bM;rw [vj] at v2;nofun;refine ⟨_,_,aw,cp.no _ _ _ (by ac_nf),p,row,ws,_,rfl,ez,?_⟩;by_cases cH:i < us.length
 .rw [decide_eq_true (by omega)];refine ⟨_,rfl,?_⟩;rw [if_pos rfl];refine ⟨_,.inl (aW.of v1),?_⟩;rw [bb,v2,if_pos (by simp;omega)];refine ⟨_,fun aL I h=>h,.inl ⟨_,aW.of v1⟩,⟨_,aW.of v1⟩,?_⟩;have MB:∀ {j:Nat} {q:Addr},qs[j]? = some q->∃ u,us[j]? = some u/\(us.take i)[j]? = some u/\ay q=some (.tup [.str u.1,.int u.2]):=fun {j q} aB=>by
   have bf:j < i:=by rw [<- v2];exact (cV.mp aB).1
   have af:us[j]? = some (us[j]'(by omega)):=cJ (by omega);have ai:(us.take i)[j]? = some (us[j]'(by omega)):=by rw [oK bf];exact af
   exact ⟨_,af,ai,v7 j q _ aB ai⟩
  refine cY.As (xs:=qs.map V.ref) (zs:=cv ((us.take i).map (·.1))) (aW.of v1) (b8 (show _ <= 5 by rw [bb,v2];omega) (by decide)) (by rw [qb,bb,bb,v2,vj]) (fun j v z N aU hA bx=>?_) (fun b' kO=>?_)
  .obtain ⟨q,aB,rfl⟩:=eU aU;obtain ⟨y,aT,rfl⟩:=eU hA;obtain ⟨u,rI,rfl⟩:=eU aT;obtain ⟨gJ,_,g2,g3⟩:=MB aB;rw [rI] at g2;cases g2;refine ox (bY.of g3) ?_;nofun;exact ⟨Sub.r2,bx⟩
  .obtain ⟨mQ,qq⟩:∃ u,us[i]? = some u:=⟨us[i],cJ cH⟩;obtain ⟨g1,g2,g3⟩:=ok.nm mQ (d4 qq);have U_:mQ.1 ∉ (us.take i).map (·.1):=fun hm=>by
    obtain ⟨u,rI,e⟩:=da.mp hm;obtain ⟨j,bf⟩:=q1 rI;have So:j < i:=by have:=(cV.mp bf).1;omega
    rw [oK So] at bf;have a1:(us.map (·.1))[j]? = some mQ.1:=by rw [ec,bf,<- e];rfl
    have a2:(us.map (·.1))[i]? = some mQ.1:=by rw [ec,qq];rfl
    have:=(Ma (by rw [bb];omega) ok.aC).mp (a1.trans a2.symm);omega
   refine ⟨p,b',row,ws,pl + 2 * i,mQ.1,mQ.2,_,rfl,ez.same (a0 kO),(jo i mQ qq).1,g1,(jo i mQ qq).2,⟨g2,g3⟩,aS,U_,bQ.upd,fun eG bA s3 df l' eP bW=>?_⟩;have sQ:l ≠ p:=fun z=>by rw [z,aw] at v1;cases v1
   have sN:c3 p ay bA:=(c3.of (a0 kO)).trans s3;have HA:=sN _ _ sQ v1;refine ⟨_,HA,jV (show (qs.map V.ref).length <= 5 by rw [bb,v2];omega) (by decide),us.length - (i + 1),by omega,i + 1,rfl,by omega,cH,fun b u ab e=>?_,df.upd,?_,⟨qs ++ [eG],by rw [aS,eD];rfl,?_,fun j q u af ai=>?_⟩,rfl⟩
   .rw [aX (Db e EC)];exact sN _ _ ab (s2 _ _ ab e)
   .obtain ⟨KD,agg,agf,f1,f2⟩:=l';refine ⟨KD,agg,agf,by rw [aX (c7 sQ)];exact f1,?_⟩;rw [aX (fun z=>?_)]
    .exact f2
    .rw [z,HA] at f2;have d3:qs.map V.ref=cv ws:=ey.lst.inj (dj f2);obtain ⟨eW,r,eq⟩:∃ eW r,qs=eW :: r:=by
      cases qs with
      | nil=>exact absurd v2 (show ¬ (0=i) by omega)
      | cons eW r=>exact ⟨eW,r,rfl⟩
     rw [eq] at d3;cases ws with
     | nil=>cases d3
     | cons hY om=>cases (pe d3).1
   .rw [dq,eX,v2];show i + 1=_;omega
   .have keep:∀ {b:Addr} {xs:List V},bA b=some (.tup xs)->upd bA l (.lst (qs.map V.ref ++ [V.ref eG])) b=some (.tup xs):=fun e=>by rw [aX (fb e HA (by intro z;cases z))];exact e
    have bf:j < i + 1:=by have:=(cV.mp ai).1;rw [eX] at this;omega
    rw [oK bf] at ai;rcases jY af with ⟨a1,a2⟩ | ⟨a1,a2⟩
    .obtain ⟨gJ,j0,kl,vv⟩:=MB a2;rw [j0] at ai;cases ai;exact keep (sN _ _ (fb vv aw (by intro z;cases z)) vv)
    .rw [a1,v2,qq] at ai;cases ai;rw [a2];exact keep bW
 .rw [decide_eq_false (by omega)];refine ⟨_,rfl,?_⟩;rw [if_neg (by decide)];have e:i=us.length:=by omega
  subst e;rw [jg] at DX;rw [<- eR] at ez;exact q l _ s2 bQ ez EC DX
structure Os (S:Sys) (z:Int):Prop where
 d_:1 <= z
 vl:z <= 20000
 ex:∃ b,dQ S z b
 no:∀ y,0 < y->y < z->∀ c,¬ dQ S y c
theorem Os.uniq {S rE:Sys} {z dk:Int} (h:Os S z) (h':Os rE dk) (f:∀ y b,dQ S y b->∃ c,dQ rE y c) (g:∀ y b,dQ rE y b->∃ c,dQ S y c):z=dk:=by
 have a1:=h.d_;have a2:=h'.d_;rcases Int.lt_trichotomy z dk with c | c | c
 .obtain ⟨b,ab⟩:=h.ex;obtain ⟨mW,ew⟩:=f z b ab;exact absurd ew (h'.no z (by omega) c mW)
 .exact c
 .obtain ⟨b,ab⟩:=h'.ex;obtain ⟨mW,ew⟩:=g dk b ab;exact absurd ew (h.no dk (by omega) c mW)
theorem LL {n:Int} {ws om:List (a8 × Int)} {z:Int} {b:Nat->Int} (f:Nat->Nat) (hf:∀ i p,om[i]? = some p->ws[f i]? = some p) (inj:∀ i j,i < om.length->j < om.length->f i=f j->i=j) (h:dQ (ac n ws) z b):dQ (ac n om) z (fun i=>b (f i)):=by
 refine ⟨fun k aJ=>?_,fun i j e=>?_⟩
 .have ao:om[k]? = some om[k]:=cJ aJ;have aB:=hf k _ ao;rw [wD ao,<- wD (n:=n) aB];exact h.1 (f k) (cV.mp aB).1
 .obtain ⟨p,q,g1,g2,g3,ke⟩:=sw e;have e':=(cV.mp g1).1;have f6:=(cV.mp g2).1;rw [(oC g1 g2).2,<- (oC (n:=n) (hf i p g1) (hf j q g2)).2];refine h.2 (f i) (f j) ?_;rw [(oC (hf i p g1) (hf j q g2)).1,ke,decide_eq_true (show f i ≠ f j from fun z=>g3 (inj i j e' f6 z))];rfl
theorem Vo {n:Int} {p:a8 × Int} {ps:List (a8 × Int)} (y:Int) (b:Nat->Int) (h:dQ (ac n (p :: ps)) y b):∃ c,dQ (ac n (ps ++ [p])) y c:=by
 refine ⟨_,LL (fun i=>if i=ps.length then 0 else i + 1) (fun i q e=>?_) (fun i j aj bf e=>?_) h⟩
 .rcases jY e with ⟨g1,g2⟩ | ⟨g1,g2⟩
  .rw [if_neg (by have:=(cV.mp g2).1;omega)];exact g2
  .rw [if_pos g1,g2];rfl
 .rw [dq,v_] at aj bf;split at e <;> split at e <;> omega
theorem VX {n:Int} {p:a8 × Int} {ps:List (a8 × Int)} (y:Int) (b:Nat->Int) (h:dQ (ac n (ps ++ [p])) y b):∃ c,dQ (ac n (p :: ps)) y c:=by
 refine ⟨_,LL (fun i=>if i=0 then ps.length else i - 1) (fun i q e=>?_) (fun i j aj bf e=>?_) h⟩
 .cases i with
  | zero=>rw [if_pos rfl,kd (bu _),yZ];exact e
  | succ i=>
   have aj:i < ps.length:=by have:=(cV.mp e).1;rw [dr] at this;omega
   rw [if_neg (by omega),Nat.add_sub_cancel,kq aj];exact e
 .rw [dr] at aj bf;split at e <;> split at e <;> omega
theorem acg {n:Int} {p:a8 × Int} {ps:List (a8 × Int)} {z dk:Int} (h:Os (ac n (p :: ps)) z) (h':Os (ac n (ps ++ [p])) dk):z=dk:=h.uniq h' Vo VX
theorem Ia {S:Sys} {z dk:Int} (h:Os S z) (h':Os S dk):z=dk:=h.uniq h' (fun _ b d=>⟨b,d⟩) (fun _ b d=>⟨b,d⟩)
noncomputable def j6 (us:List (Str × Int)):List Str:=us.flatMap fun u=>[u.1,num u.2]
theorem QH (u:Str × Int) (us:List (Str × Int)):j6 (u :: us)=u.1 :: num u.2 :: j6 us:=rfl
theorem Fy:∀ us:List (Str × Int),(j6 us).length=2 * us.length
 | []=>rfl
 | u :: us=>by rw [QH,dr,dr,Fy us,dr];omega
theorem Qv:∀ {us:List (Str × Int)} {i:Nat} {u:Str × Int},us[i]? = some u->(j6 us)[2 * i]? = some u.1/\(j6 us)[2 * i + 1]? = some (num u.2)
 | v :: us,0,u,h=>by cases h;exact ⟨rfl,rfl⟩
 | v :: us,i + 1,u,h=>by
  have:=Qv (us:=us) (i:=i) h;rw [QH,show 2 * (i + 1)=2 * i + 1 + 1 by omega];exact this
theorem LQ (a b:Str × Int->List Nat):∀ us:List (Str × Int),gL 32 (us.map fun u=>a u ++ 32 :: b u)=gL 32 (us.flatMap fun u=>[a u,b u])
 | []=>rfl
 | [u]=>rfl
 | u :: v :: r=>by
  have e:=LQ a b (v :: r);show (a u ++ 32 :: b u) ++ 32 :: gL 32 ((v :: r).map fun u=>a u ++ 32 :: b u)=a u ++ 32 :: (b u ++ 32 :: gL 32 ((v :: r).flatMap fun u=>[a u,b u]));rw [e,tZ];rfl
noncomputable def kW (u:Str × Int):Str:=u.1 ++ cq ++ num u.2
noncomputable def kK (book:Str) (us:List (Str × Int)):Str:=ag "shortest " ++ book ++ cq ++ dy cq (us.map kW)
theorem Y8 {book:Str} {us:List (Str × Int)} (h:us ≠ []):kK book us=dy cq (ag "shortest" :: book :: j6 us):=by
 apply uc;have aw:(ag "shortest ").cps.toList=(ag "shortest").cps.toList ++ [32]:=by ac_nf
 have bW:(dy cq (us.map kW)).cps.toList=gL 32 (us.flatMap fun u=>[u.1.cps.toList,(num u.2).cps.toList]):=by
  rw [pX,oX,<- LQ,jC];congr 1;refine agA fun u _=>?_
  show (u.1 ++ cq ++ num u.2).cps.toList=_;rw [iR,iR,j7,j7,pX];simp
 have fu:(j6 us).map (·.cps.toList)=us.flatMap fun u=>[u.1.cps.toList,(num u.2).cps.toList]:=by
  unfold j6;rw [X9];rfl
 obtain ⟨u,r,rfl⟩:∃ u r,us=u :: r:=by
  cases us with
  | nil=>exact absurd rfl h
  | cons u r=>exact ⟨u,r,rfl⟩
 unfold kK;rw [iR,iR,iR,j7,j7,j7,bW,aw,pX,oX,dR,dR,fu];simp [gL]
theorem Nm {c x:Nat}:∀ {l:List (List Nat)},x ≠ c->(∀ p ∈ l,x ∉ p)->x ∉ gL c l
 | [],_,_=>by simp [gL]
 | [a],_,h=>by simpa [gL] using h a (by simp)
 | a :: b :: r,ar,h=>by
  have af:=h a (by simp);have ai:=Nm (l:=b :: r) ar fun p ao=>h p (fk _ ao)
  simp only [gL,hB,cX,not_or];exact ⟨af,ar,ai⟩
theorem US {ys:List Str} (aH:ys ≠ []) (h:∀ y ∈ ys,mq y):i3 (dy cq ys)=[ys]/\(10:Nat) ∉ (dy cq ys).cps.toList:=by
 have wx:(10:Nat) ∉ (dy cq ys).cps.toList:=by
  rw [pX,oX];refine Nm (by decide) fun p ao=>?_
  obtain ⟨y,aT,rfl⟩:=da.mp ao;exact (h y aT).2.2
 refine ⟨?_,wx⟩;have aw:ha (dy cq ys) nl=[dy cq ys]:=by
  have:=Bz (c:=10) (ys:=[dy cq ys]) (by simp) (fun y aT=>by rw [fQ.mp aT];exact wx);rw [nL];exact this
 have az:ha (dy cq ys) cq=ys:=by
  rw [pX];exact Bz (c:=32) aH (fun y aT=>(h y aT).2.1)
 unfold i3;rw [aw,dR,mb,az]
theorem abk {us:List (Str × Int)} (h:kU us):∀ y ∈ j6 us,mq y:=fun y aT=>by
 obtain ⟨u,ba,e⟩:=qn.mp aT;obtain ⟨a,b,c⟩:=h.nm u ba;simp only [cX,gP,or_false] at e;rcases e with e | e
 .rw [e];exact r3 a
 .rw [e];exact jX (by omega) (by omega)
noncomputable def pM:List Str:=[ag "nobody",ag "wrongly",ag "strange",ag "unknown",ag "missing",ag "absent",ag "void",ag "noway"]
noncomputable def jw (xs:List Str):List Str:=pM.filter fun y=>decide (y ∉ xs)
theorem J9:∀ (l xs:List Str),l.Nodup->l.length <= (l.filter fun y=>decide (y ∉ xs)).length + xs.length
 | [],xs,_=>fL _
 | y :: l,xs,aC=>by
  rw [iM] at aC;by_cases c:y ∈ xs
  .have a_:=J9 l (xs.erase y) aC.2;have e:(l.filter fun z=>decide (z ∉ xs.erase y))=l.filter fun z=>decide (z ∉ xs):=List.filter_congr fun z aD=>by
    have cf:z ≠ y:=fun w=>aC.1 (by rw [<- w];exact aD)
    rw [decide_eq_decide,List.mem_erase_of_ne cf]
   rw [e,ahc c] at a_;have:=List.length_pos_of_mem c;rw [aey (by simpa using c),dr];omega
  .have a_:=J9 l xs aC.2;rw [agG (by simpa using c),dr,dr];omega
theorem UW {xs:List Str} (h:xs.length <= 6):2 <= (jw xs).length:=by
 have:=J9 pM xs (by ac_nf);have e:pM.length=8:=rfl;unfold jw;omega
theorem D1 {xs:List Str} {y:Str} (h:y ∈ jw xs):made y gn 8=true/\y ∉ xs:=by
 obtain ⟨a,b⟩:=k1.mp h;exact ⟨(show ∀ y ∈ pM,made y gn 8=true by ac_nf) y a,of_decide_eq_true b⟩
theorem abe (xs:List Str):(jw xs).Nodup:=(show pM.Nodup by ac_nf).sublist List.filter_sublist
theorem Ll {ss:List Str}:∀ {us:List (Str × Int)},(∃ u ∈ us,u.1 ∈ ss)->∃ fm x v h7,us=fm ++ (x,v) :: h7/\(∀ u ∈ fm,u.1 ∉ ss)/\x ∈ ss/\∃ r,(us.filterMap fun u=>if decide (u.1 ∈ ss)=true then some u.1 else none)=x :: r
 | [],h=>by obtain ⟨u,ba,_⟩:=h;cases ba
 | u :: us,h=>by
  by_cases c:u.1 ∈ ss
  .exact ⟨[],u.1,u.2,us,rfl,(fun _ h=>by cases h),c,_,by rw [qT,if_pos (decide_eq_true c)]⟩
  .obtain ⟨w,hw,aG⟩:=h;rcases cX.mp hw with e | e
   .rw [e] at aG;exact absurd aG c
   .obtain ⟨fm,x,v,h7,aw,az,bW,r,fu⟩:=Ll ⟨w,e,aG⟩;refine ⟨u :: fm,x,v,h7,by rw [aw];rfl,fun y aT=>?_,bW,r,?_⟩
    .rcases cX.mp aT with z | z
     .rw [z];exact c
     .exact az y z
    .rw [qT,if_neg (by simpa using c)];exact fu
unseal L2.ei L2.bk L2.e2 L2.f_ L2.hi L2.gr
def Hg (first:Str) (us:List (Str × Int)):Prop:=(first=ag "crossing" /\ us=[])\/(first=ag "shortest" /\ kU us)
def sG (H:aq) (l:Addr) (first name:Str) (us:List (Str × Int)):Prop:=(first=ag "crossing" /\ H l=some (.lst [.str name]))\/(first=ag "shortest" /\ ∃ ul,H l=some (.lst [.str name,.ref ul])/\gh H ul us)
theorem sG.same {H I:aq} {l:Addr} {first name:Str} {us:List (Str × Int)} (h:sG H l first name us) (s:aN H I):sG I l first name us:=by
 rcases h with ⟨e,h⟩ | ⟨e,ul,h,u⟩
 .exact .inl ⟨e,s _ _ h⟩
 .exact .inr ⟨e,ul,s _ _ h,u.same s⟩
def Lz (t:bJ):bI:=fun vs H Q _=>∃ p part row ws pl,vs=[.ref p,.str part]/\cp t H p row ws pl/\aY H /\
 ((part=ag "name" /\ ∃ x,ws[pl]? = some x/\made x gn 8=true/\wg t H p row ws (pl + 1) (Q (.str x)))\/(part=ag "wants" /\ ∃ us,SS ws pl us/\kU us/\∀ l I,c3 p H I->aY I->cp t I p row ws ws.length->H l=none->gh I l us->Q (.ref l) I))
noncomputable def wX:List (Str × List Str):=[(ag "crossing",[ag "name"]),(ag "shortest",[ag "name",ag "wants"])]
def adg (t:bJ):bI:=fun vs H Q _=>∃ x first name us,vs=[.str x]/\x.length <= 900/\i3 x=[first :: name :: j6 us]/\Hg first us/\made name gn 8=true/\aY H/\∀ p l I,aN H I->aY I->I p=some (.tup [.str first,.ref l])->sG I l first name us->Q (.ref p) I
theorem ahP:b_ P base T 7 t.u3 t.yS vk (Lz t):=by
 refine cF (Vp T) fun W5=>cF (ZR T) fun adT=>cF (ym T) fun lU=>?_;exists T.Gq.ok acB,9
 obtain ⟨p,part,row,ws,pl,rfl,R,bc,hm⟩:=h;refine ⟨_,(aM (c9 (cU fw (U 1) cx (lc _)) (a3 (bX (bK W5 av T.Yf T.F8.bh T.ady (ae (U 0) aA)))) dd)
   (aM (c9 (cU fw (U 1) cx (lc _)) (a3 iJ) dd)
   (aM (c9 (cU fw (U 1) cx (lc _)) (a3 iJ) dd)
   (aM (c9 (cU fw (U 1) cx (lc _)) (a3 (bX (e3 (U 0) T.eH T.pY lU av T.Gc .nil cT (ae aR (ae (jy rfl T.Y6 T.xz) aA))))) dd)
   (a3 (bX (bK adT av T.agI T.JW.bh T.Yd (ae (U 0) aA)))))))),?_⟩
 rcases hm with ⟨rfl,x,ak,hm,q⟩ | ⟨rfl,us,jo,ok,q⟩
 .refine dh true (fun Q a5=>?_) (fun _=>?_) (fun ar=>nomatch ar)
  .nofun;exact a5
  .nofun;exact ⟨p,row,ws,pl,x,rfl,R,ak,hm,bc,q⟩
 .refine dh false (fun Q a5=>?_) (fun ar=>nomatch ar) (fun _=>?_)
  .nofun;exact a5
  rw [ft];dsimp only;refine dh false (fun Q a5=>?_) (fun ar=>nomatch ar) (fun _=>?_)
  .nofun;exact a5
  rw [ft];dsimp only;refine dh false (fun Q a5=>?_) (fun ar=>nomatch ar) (fun _=>?_)
  .nofun;exact a5
  rw [ft];dsimp only;refine dh false (fun Q a5=>?_) (fun ar=>nomatch ar) (fun _=>?_)
  .nofun;exact a5
  .nofun;exact ⟨p,row,ws,pl,us,rfl,R,jo,ok,bc,q⟩
theorem Wf (T:Txt w K ah t) {first:Str} {us:List (Str × Int)} (h:Hg first us):∃ a ps,(Jw t).lookup first=some (.ref a)/\jn K a (cv ps)/\(first,ps) ∈ wX:=by
 rcases h with ⟨rfl,_⟩ | ⟨rfl,_⟩
 .exact ⟨_,[ag "name"],rfl,T.W8,by ac_nf⟩
 .exact ⟨_,[ag "name",ag "wants"],rfl,T.afz,by ac_nf⟩
theorem adO {first:Str} {ps:List Str} (h:(first,ps) ∈ wX):first ∈ [ag "crossing",ag "plan",ag "stages",ag "colours",ag "wait",ag "longest",ag "draw",ag "turn",ag "worst",ag "shortest"]:=by
 unfold wX at h;simp only [cX,MS,gP,or_false] at h;simp only [cX,gP,or_false];rcases h with ⟨rfl,rfl⟩ | ⟨rfl,rfl⟩ <;> simp
theorem aj9:b_ P base T 8 t.x2 t.Cb ["told"] (adg t):=by
 have Kl:bt P w K ah base b7 7 t.rU t.ui ["text"] Dw:=(Qw T).mono (by decide);have Ir:bt P w K ah base b7 6 t.bd t.sl uA (I4 t):=(XL T).mono (by decide);have w':bt P w K ah base b7 7 t.rp t.wA BD (Mv K t):=(DV T).mono (by decide);have yh:bt P w K ah base b7 7 t.q3 t.x1 ["self"] (Mq t):=(Ih T).mono (by decide);have adn:bt P w K ah base b7 7 t.u3 t.yS vk (Lz t):=ahP T;exists T.Hv.ok CK,9
 obtain ⟨x,first,name,us,rfl,ak,qh,hf,qJ,bc,q⟩:=h;obtain ⟨fF,ps,agP,Ru,zg⟩:=Wf T hf;obtain ⟨ws,iA⟩:∃ ws,name :: j6 us=ws:=⟨_,rfl⟩;have eR:ws.length=1 + 2 * us.length:=by rw [<- iA,dr,Fy];omega
 have amW:us.length <= 5:=by
  rcases hf with ⟨_,e⟩ | ⟨_,e⟩
  .rw [e];exact fL _
  .exact e.mJ
 rw [iA] at qh;refine ⟨_,(aM (BG (i:=1) CK.aC rfl (qI rfl) (p' T.Uy Ir av rfl T.Sz T.S9 .nil cT (ae aR (ae (cD gI (bK Kl av T.Rz T.zb.bh T.OV (ae (U 0) aA)) aR) aA))))
   (aM (bL (i:=2) CK.aC (e3 (U 1) T.eH T.Ip w' av T.GP .nil cT (ae (k2 (agl rfl T.aiW (by ac_nf) (by decide)) rfl T.N' ut (ae (jy (v:=.ref t.ra) rfl T.Lk rfl) aA)) aA)))
   (aM (t8 (i:=3) CK.aC rfl (lY rfl) rfl (TO (aj3 rfl T.Lk T.aex (U 2) (fun _ _=>rfl))) (gx (sc:=bG zD) rfl (by ac_nf)) (N:=["part","reader"]) (sel:=[none,some 1]) (gs (M:=["told","reader","first","parts"]) (by ac_nf)) (fD.of (fun _ _ _ _=>(b6 (i:=0) (eT (N:=["part","reader"]) (by ac_nf) rfl))) (fun _ _ _ _=>⟨_,iz,by walk_at "B"⟩) (fun _ _ _ _=>⟨_,(bK adn av T.SB T.Gq.bh T.Xn (ae (U 1) (ae (U 0) aA))),by walk_at "B"⟩)) rfl)
   (aM (fO (mM (U 1) T.eH T.Dr yh av T.Fm .nil cT))
   (a3 (bX (eL (ae (U 2) (ae (U 3) aA))))))))),?_⟩
 nofun;refine ⟨x,rfl,by omega,bc,fun p H1 s1 bH ⟨qs,ao,z9,DB,eE,n5⟩=>?_⟩;rw [qh] at eE n5;obtain ⟨aV,rfl⟩:∃ aV,qs=[aV]:=by
  match qs,eE with
  | [aV],_=>exact ⟨aV,rfl⟩
 obtain ⟨afU,akH⟩:=n5 0 aV _ rfl rfl;refine ⟨p,rfl,_,aW.of ao,_,rfl,fun fg au Ko n8 cf=>?_⟩;refine ⟨fg,au,aV,0,rfl,aS,?_⟩;rw [nk];generalize ll:upd (upd H1 au (.own fg)) fg (.ins t.dZ au (kH 0 aV 0))=ay;have s2:aN H1 ay:=by rw [<- ll];exact (a0 n8).hM Ko
 have bQ:aY ay:=by rw [<- ll];exact (bH.upd).upd
 have Bd:∀ y ∈ first :: ws,y.length <= x.length + 2:=by
  intro y aT;have hm:(first :: ws) ∈ i3 x:=by rw [qh];exact List.mem_singleton_self _
  obtain ⟨r,qi,CS⟩:=da.mp hm;rw [<- CS] at aT;have a:=J5 (by rw [nY];exact bu _) qi;have b:=J5 (by rw [p7];exact bu _) aT;omega
 have ez:cp t ay fg 0 (first :: ws) 0:=⟨⟨by rw [dr];omega,fun y aT=>b8 (Bd y aT) (by omega)⟩,au,aV,by rw [<- ll];exact aS,s2 _ _ afU⟩;nofun;have yn:ay fg=some (.ins t.dZ au (kH 0 aV 0)):=by rw [<- ll];exact aS
 refine ⟨_,_,yn,cp.no _ _ _ (by ac_nf),fun l ax=>?_⟩;refine ⟨fg,0,first :: ws,0,first,l,_,rfl,ez.same (a0 ax),rfl,aW.of aS,?_,?_⟩
 .exact adO zg
 intro bA s3 df l';nofun;refine ⟨_,agP,_,rfl,⟨_,Ru _⟩,?_⟩;have ml:ps.length <= 3:=(show ∀ p ∈ wX,p.2.length <= 3 by decide) _ zg;have Bi:(first=ag "crossing" /\ ps=[ag "name"])\/(first=ag "shortest" /\ ps=[ag "name",ag "wants"]):=by
  unfold wX at zg;simpa only [cX,MS,gP,or_false] using zg
 refine RZ (xs:=cv ps) (fun i ys I=>c3 fg bA I/\aY I/\ys.length=i/\((i=0/\cp t I fg 0 (first :: ws) 1/\ys=[])\/(i=1/\cp t I fg 0 (first :: ws) 2/\ys=[.str name])\/(i=2/\first=ag "shortest" /\ cp t I fg 0 (first :: ws) (first :: ws).length/\∃ ul,ys=[.str name,.ref ul]/\gh I ul us))) ?_ ⟨fun b u _ e=>e,df (bQ.upd),rfl,.inl ⟨rfl,l',rfl⟩⟩ ?_ ?_ ?_
 .rw [qb];exact b8 ml (by decide)
 .rintro i ys I aj bU;ac_rfl
  obtain ⟨_,_,ax,_⟩:=bU;subst bM;exact ⟨Ru _,by omega⟩
 .rintro i v ys I aU ⟨s4,d8,tf,cm⟩ N bx;obtain ⟨a,aO,rfl⟩:=eU aU;nofun;refine ⟨Sub.name,?_⟩;rcases cm with ⟨rfl,j2,rfl⟩ | ⟨rfl,j2,rfl⟩ | ⟨rfl,_,j2,_⟩
  .have cP:a=ag "name" := by
    rcases Bi with ⟨_,e⟩ | ⟨_,e⟩ <;> (rw [e] at aO;exact (dj aO).symm)
   exact ⟨fg,a,0,first :: ws,1,rfl,j2,d8,.inl ⟨cP,name,by rw [<- iA];rfl,qJ,fun fY s5 gc oT=>bx _ _ ⟨s4.trans s5,gc d8,rfl,.inr (.inl ⟨rfl,oT,rfl⟩)⟩⟩⟩
  .rcases Bi with ⟨_,e⟩ | ⟨jR,e⟩
   .rw [e] at aO;cases aO
   .rw [e] at aO;have ok:kU us:=by
     rcases hf with ⟨aw,_⟩ | ⟨_,h⟩
     .rw [aw] at jR;exact absurd jR (by ac_nf)
     .exact h
    refine ⟨fg,a,0,first :: ws,2,rfl,j2,d8,.inr ⟨(dj aO).symm,us,⟨by rw [dr];omega,fun j u bf=>?_⟩,ok,fun mJ fY s5 gc oT _ ahq=>bx _ _ ⟨s4.trans s5,gc,rfl,.inr (.inr ⟨rfl,jR,oT,mJ,rfl,ahq⟩)⟩⟩⟩;rw [<- iA,show 2 + 2 * j=2 * j + 1 + 1 by omega];exact Qv bf
  .rcases Bi with ⟨_,e⟩ | ⟨_,e⟩ <;> (rw [e] at aO;cases aO)
 .rintro ys I ⟨s4,d8,tf,cm⟩ f6 p9;rw [qb] at cm;obtain ⟨j2,ei⟩:cp t I fg 0 (first :: ws) (first :: ws).length/\sG (upd I f6 (.lst ys)) f6 first name us:=by
   rcases Bi with ⟨jR,e⟩ | ⟨jR,e⟩
   .rw [e] at cm;rcases cm with ⟨h,_⟩ | ⟨_,j2,gN⟩ | ⟨h,_⟩
    .cases h
    .have AM:us=[]:=by
      rcases hf with ⟨_,h⟩ | ⟨aw,_⟩
      .exact h
      .rw [aw] at jR;exact absurd jR (by ac_nf)
     rw [AM] at eR;refine ⟨by rw [dr,eR];exact j2,.inl ⟨jR,?_⟩⟩;rw [aS,gN]
    .cases h
   .rw [e] at cm;rcases cm with ⟨h,_⟩ | ⟨h,_⟩ | ⟨_,_,j2,ul,gN,Zr⟩
    .cases h
    .cases h
    .refine ⟨j2,.inr ⟨jR,ul,?_,Zr.same (a0 p9)⟩⟩;rw [aS,gN]
  obtain ⟨aD,aiM,akb,lC,iY⟩:=id j2;have oT:=j2.same (a0 (o:=.lst ys) p9);refine ⟨_,_,a0 p9 _ _ lC,cp.no _ _ _ (by ac_nf),fg,0,_,_,rfl,oT,rfl,by decide,fun dM c5=>?_⟩;have V7:H fg=none:=s1.free Ko;have pT:aN H I:=fun b u e=>by
   have ab:b ≠ fg:=fun z=>by rw [z,V7] at e;cases e
   exact s4 _ _ ab (s3 _ _ ab (a0 ax _ _ (s2 _ _ (s1 _ _ e))))
  have sB:aN H (upd I f6 (.lst ys)):=pT.hM (pT.free p9);exact q dM f6 _ (sB.hM (sB.free c5)) ((d8.upd).upd) aS (ei.same (a0 c5))
theorem aet {x:Str} (h:(10:Nat) ∉ x.cps.toList):mn x nl 0 x.length 1=[]:=by
 have e:=X2 x 10;rw [decide_eq_false h] at e;rw [nL];simpa using e
theorem yV (a b:Str):(a ++ nl ++ b).cps.toList=a.cps.toList ++ 10 :: b.cps.toList:=by
 rw [iR,j7,iR,j7,nL];simp
theorem ZC {a b:Str} (h:(10:Nat) ∉ a.cps.toList):∃ r,mn (a ++ nl ++ b) nl 0 (a ++ nl ++ b).length 1=a.length :: r:=by
 have ax:a.cps.toList.length=a.length:=by simp [nJ]
 have jo:(a ++ nl ++ b).cps.toList[a.length]? = some 10:=by rw [yV,kd (by omega),ax];simp
 rcases StrLaws.occ_head (a ++ nl ++ b) nl 1 (by decide) with ⟨_,no⟩ | ⟨i,r,e,tm,lo⟩
 .rw [nL] at no;exact absurd ((Sg _ 10 a.length).mpr (by rw [<- nL];exact jo)) (no a.length)
 .refine ⟨r,?_⟩;rw [e];have af:(a ++ nl ++ b).cps.toList[i]? = some 10:=by
   rw [nL] at tm;have:=(Sg _ 10 i).mp tm;rwa [<- nL] at this
  have ai:¬ i < a.length:=fun aj=>by
   rw [yV,kq (by omega)] at af;exact h (d4 af)
  have br:¬ a.length < i:=fun aj=>by
   have:=lo a.length aj;rw [nL] at this;exact this ((Sg _ 10 a.length).mpr (by rw [<- nL];exact jo))
  rw [show i=a.length by omega]
theorem acJ (a b:Str):q8 (a ++ nl ++ b) 0 a.length=a:=by
 have ax:a.cps.toList.length=a.length:=by simp [nJ]
 refine uc ?_;show ((a ++ nl ++ b).cps.extract 0 a.length).toList=_;rw [acO,yV];simp [aad,<- ax]
theorem aii (a b:Str):q8 (a ++ nl ++ b) (a.length + nl.length) (a ++ nl ++ b).length=b:=by
 have ax:a.cps.toList.length=a.length:=by simp [nJ]
 have aD:(a ++ nl ++ b).length=(a ++ nl ++ b).cps.toList.length:=by simp [nJ]
 refine uc ?_;show ((a ++ nl ++ b).cps.extract (a.length + nl.length) (a ++ nl ++ b).length).toList=_;rw [acO,aD,yV,nY];simp only [aad,dq,dr,ax,List.drop_append];rw [List.drop_eq_nil_of_le (by omega),show a.length + 1 - a.length=1 by omega,JV,show (10 :: b.cps.toList).drop 1=b.cps.toList from rfl,xY (by omega)]
noncomputable def RD (row told text:Str):Bool->Prop
 | false=>row=told/\text=ag ""
 | true=>row=told ++ nl ++ text
theorem Ve {row told text:Str} {b:Bool} (h:RD row told text b) (wx:(10:Nat) ∉ told.cps.toList):∃ le,wO row nl=[V.str told,V.str le,V.str text]/\decide (le=nl)=b:=by
 cases b with
 | false=>
  obtain ⟨rfl,rfl⟩:=h;exact ⟨ag "",by unfold wO;rw [aet wx];rfl,by ac_nf⟩
 | true=>
  have e:row=told ++ nl ++ text:=h;subst e;obtain ⟨r,av⟩:=ZC (b:=text) wx;exact ⟨nl,by unfold wO;rw [av];dsimp only;rw [acJ,aii],by decide⟩
noncomputable def Hm:List Str:=[ag "crossing",ag "plan",ag "stages"]
structure u_ (row told text first name:Str) (us:List (Str × Int)):Prop where
 dp:RD row told text (decide (first ∈ Hm))
 d_:row.length <= 20000
 d5:told.length <= 900
 no:(10:Nat) ∉ told.cps.toList
 rows:i3 told=[first :: name :: j6 us]
 IJ:Hg first us
 nm:made name gn 8=true
def Tn (t:bJ):bI:=fun vs H Q _=>∃ row told text first name us,vs=[.str row]/\u_ row told text first name us/\aY H/\∀ p l I,aN H I->aY I->I p=some (.tup [.str first,.ref l,.str text])->sG I l first name us->Q (.ref p) I
theorem Un:b_ P base T 9 t.uJ t.wK ["row"] (Tn t):=by
 refine cF (aj9 T) fun adP=>?_;exists T.B6.ok sE,9
 obtain ⟨row,told,text,first,name,us,rfl,R,bc,q⟩:=h;refine ⟨_,(aM (ni (iS sJ ab0 PySem.F.type_str_partition aaX (U 0) (ae cx aA)) (fZ (K:=K) (n:=3) rfl rfl (c0 (b6 (i:=1) sE.aC) (c0 (b6 (i:=2) sE.aC) (c0 (b6 (i:=3) sE.aC) f')))))
   (aM (WB rfl (a3 (ni (bK adP av T.aij T.Hv.bh T.aco (ae (U 1) aA)) (fZ (K:=K) (n:=2) rfl rfl (c0 (b6 (i:=4) sE.aC) (c0 (b6 (i:=5) sE.aC) f'))))))
   (aM (c9 (cU l5 (iH fw (U 2) cx (lc _)) (iH nO (U 4) (jy (v:=.ref t.w3) rfl T.Xm rfl) (by with_unfolding_all rfl)) (lc _)) (a3 iJ) dd)
   (a3 (bX (eL (ae (U 4) (ae (U 5) (ae (U 3) aA))))))))),?_⟩
 obtain ⟨le,hle,V1⟩:=Ve R.dp R.no;nofun;refine ⟨row,nl,rfl,rfl,by rw [nY];rfl,b8 R.d_ (by decide),fun p ao=>?_⟩;rw [hle];refine ⟨p,rfl,_,bY.of aS,rfl,_,_,rfl,_,_,rfl,_,_,rfl,rfl,?_⟩;refine ⟨told,first,name,us,rfl,R.d5,R.rows,R.IJ,R.nm,bc.upd,fun dM l ay s2 bQ az nK=>?_⟩;refine ⟨dM,rfl,_,bY.of az,rfl,_,_,rfl,_,_,rfl,rfl,?_⟩;refine dh false (fun Q a5=>?_) (fun ar=>nomatch ar) (fun _=>?_)
 .nofun;refine ⟨_,.inr (T.ahC _),rfl,rfl,?_⟩;rw [show n2 (V.str first) [V.str (ag "crossing"),V.str (ag "plan"),V.str (ag "stages")]=decide (first ∈ Hm) from sT first Hm,V1,decide_eq_true rfl];exact a5
 .nofun;have s3:aN H ay:=(a0 ao).trans s2;exact ⟨by decide,fun p_ ml=>q p_ l _ (s3.hM (s3.free ml)) bQ.upd aS (nK.same (a0 ml))⟩
noncomputable def fH (D:List Addr) (H:aq):aq:=fun b=>if b ∈ D then none else H b
noncomputable def mC (D:List Addr) (H I:aq):aq:=fun b=>if b ∈ D then H b else I b
theorem r1 {D:List Addr} {H:aq} {b:Addr} (h:b ∈ D):fH D H b=none:=by unfold fH;rw [if_pos h]
theorem j4 {D:List Addr} {H:aq} {b:Addr} (h:b ∉ D):fH D H b=H b:=by unfold fH;rw [if_neg h]
theorem xQ {D:List Addr} {H I:aq} {b:Addr} (h:b ∈ D):mC D H I b=H b:=by unfold mC;rw [if_pos h]
theorem ow {D:List Addr} {H I:aq} {b:Addr} (h:b ∉ D):mC D H I b=I b:=by unfold mC;rw [if_neg h]
theorem tw {D:List Addr} {H:aq} {b:Addr} (h:H b=none):fH D H b=none:=by unfold fH;split;rfl;exact h
theorem yO {D:List Addr} {H:aq}:aN (fH D H) H:=fun b u e=>by
 unfold fH at e;split at e
 .cases e
 .exact e
theorem bt.frame {P:Program} {w:World} {K:a4} {ah:Str->Option Value} {base:Heap} {k:Nat} {f:Addr} {fd:FuncData} {ps:List Str} {sp oU:bI} (F:bt P w K ah base b7 k f fd ps sp)
  (h:∀ vs H Q E,oU vs H Q E->∃ D:List Addr,(∀ a ∈ D,∃ aE,H a=some (.dN aE))/\sp vs (fH D H) (fun v I=>(∀ a ∈ D,I a=none)->Q v (mC D H I)) E):bt P w K ah base b7 k f fd ps oU:=by
 refine ⟨fun vs H Q E q=>?_,fun A outer s H args us vs Q E av he ab aU aG=>?_⟩
 .obtain ⟨D,_,cS⟩:=h vs H Q E q;exact F.len vs _ _ E cS
 obtain ⟨D,cn,q⟩:=h vs H Q E aG;have out:∀ b o,H b=some o->(∀ aE,o ≠ .dN aE)->b ∉ D:=fun b o e n hm=>by
  obtain ⟨aE,az⟩:=cn b hm;rw [e] at az;exact n aE (dj az)
 have E6:dY P w (fH D H) s.heap:=fun a o e=>by
  refine (he.a6 a o (yO _ _ e)).kG (fun _ _ _ z=>z) (fun b z=>?_) fun b xs z=>?_
  .rw [j4 (out b _ z (fun _ y=>nomatch y))];exact z
  .rw [j4 (out b _ z (fun _ y=>nomatch y))];exact z
 have qx:m7 P w K ah base A outer s (fH D H):=⟨he.frames,he.mod,fun b o e=>⟨(he.bs b o e).1,tw (he.bs b o e).2⟩,he.jq,he.iD,fun b ab=>tw (he.kc b ab),E6,he.bare⟩;refine codeAny_mono (F.run A outer s (fH D H) args us vs _ E av qx ab aU q) fun r s' aB=>?_
 cases r with
 | error e=>exact aB
 | ok cb=>
  cases cb with
  | next=>exact aB
  | brk=>exact aB
  | cont=>exact aB
  | ret u=>
   obtain ⟨v,H1,os,bare,un,a6,bV,cS⟩:=aB;have Nk:∀ a ∈ D,H1 a=none:=fun a aO=>by
    obtain ⟨aE,e⟩:=cn a aO;obtain ⟨z,y,vs,r,b2,aF,b5,az,c⟩:=he.a6 a _ e;exact un.free a b2 az (r1 aO) (by simp)
   refine ⟨v,mC D H H1,os,bare,⟨fun b o e n=>un.keep b o e (tw n),fun b o e n=>un.slot b o e (tw n),fun b o e n x=>?_,un.there,fun b xs e=>?_,fun b o u e=>?_,fun b ps e=>?_⟩,fun a o e=>?_,bV,cS Nk⟩
   .by_cases ab:b ∈ D
    .rw [xQ ab];exact n
    .rw [ow ab];exact un.free b o e (tw n) x
   .have ab:=out b _ e (fun _ y=>nomatch y);rw [ow ab];exact un.lZ b xs (by rw [j4 ab];exact e)
   .have ab:=out b _ e (fun _ y=>nomatch y);rw [ow ab];exact un.ki b o u (by rw [j4 ab];exact e)
   .have ab:=out b _ e (fun _ y=>nomatch y);rw [ow ab];exact un.mc b ps (by rw [j4 ab];exact e)
   .by_cases ab:a ∈ D
    .rw [xQ ab] at e;obtain ⟨aE,eu⟩:=cn a ab;rw [eu] at e;cases dj e;obtain ⟨z,y,vs,r,b2,aF,b5,az,c⟩:=he.a6 a _ eu;exact ⟨z,y,vs,r,b2,aF,b5,un.keep a b2 az (r1 ab) (fun hf=>by rw [he.kc a hf] at eu;cases eu) (by simp),c⟩
    .rw [ow ab] at e;have up:∀ b u,H1 b=some u->mC D H H1 b=some u:=fun b u z=>by
      rw [ow (fun ab=>by rw [Nk b ab] at z;cases z)];exact z
     exact (a6 a o e).kG (fun _ _ _ z=>z) (fun b z=>up _ _ z) fun b xs z=>up _ _ z
section
open PySem.Spec PyProof.Rows
variable {X:aP} {elt cz iter:Expr} {ifs:List Expr} {scope:Scope} {pos:Pos} {ek:TI} {g:e1} {cu:TT} {bo:cZ->TE} {N:List Str} {sel:List (Option Nat)}
theorem WT {E:L2.St->cZ} {i:Nat} {y:Str} {py yg:Pos} (bx:X.N.Nodup) (aj:X.N[i]? = some y) (ak:Loc X.env.scope y) (F:k7 X) (ac6:Hx X E) (ar:X.calm=true) (hit:kA X cz iter ek) (S:nH X.env scope) (lp:q7 X.N scope N sel) (B:PP X scope N cz elt ifs g cu bo)
  (IA:swapsWith (.ListComp elt [⟨cz,iter,ifs,0⟩] scope pos) (some (.Name y py)) yg.line X.env=pure true) (hf:X.fn y=true\/X.env.scope.names.lookup y=some .local:=by first | exact .inl rfl | exact .inr rfl | assumption)
  (aG:∀ x,foldedSetIterable iter X.env x=pure x:=by intro _;rfl):e2 X (.Assign [.Name y py] (.ListComp elt [⟨cz,iter,ifs,0⟩] scope pos) yg) (pI (SO ek g cu bo sel E) (hX i)):=by
 intro aa s σ H D J h;rw [exec_Assign_Name_used _ _ _ _ IA];refine wpAny_bind (wpAny_standAt (wpAny_bind ?_));show wpAny _ X.A (do let _ <- comprehension (.ListComp elt [⟨cz,iter,ifs,0⟩] scope pos) scope X.env _ (newList []) false (eval iter X.env) (some (assign (.Name y py) X.env))) _ _ s;refine wpAny_bind (wpAny_mono (wpAny_comprehension_free (use:=some (assign (.Name y py) X.env)) (Q:=fun _ s'=>fi X aa D .next s') rfl aG (I_ (S.cells J.ok)) S.kind S.loc ?_) (fun _ s' aB=>wpAny_pure (wpAny_pure aB)) fun _ _ e=>e);refine bq (hit aa s σ H _ J h) fun v s1 af=>bq af fun wo s2 ai=>?_
 obtain ⟨it,a9,du,b4,ay,e,bl,T,kp,f2,W,hY,hh⟩:=ai;subst e;refine XO (RR:=fun acc C=>compPost (model X.prog X.w) X.A X.cK (some (assign (.Name y py) X.env)) (fun _ s'=>fi X aa D .next s') acc C) (E0:=E σ) ar S lp B bl T kp f2 hY hh (fun Da C ys I s' ib ⟨m,hm⟩ dP q=>?_) (fun Da C e s' cB q=>?_)
 .show wpAny _ X.A (assign (.Name y py) X.env (.ref Da)) _ _ _;refine wpAny_assign_Name (JU ib bx aj ak (show bD (.ref Da) (.ref Da) from rfl) (fun s3 dA ⟨a,pW,aO⟩=>?_) hf);have J':C ≠ a:=by
   rcases aO with z | z
   .rw [z];exact dP.2.1
   .exact fun w=>dP.2.2.2.2.1 y a z w.symm
  refine ⟨m,hm.sameBut pW J',fun h' E2=>⟨_,_,dA.turned (t':=s3.toks) (it:=C) (fun b o ab e=>(E2.2 b ab).trans e) dP.1 dP.2.1 dP.2.2.2.1 dP.2.2.2.2.1 dP.2.2.2.2.2,q⟩⟩
 .have post:∀ {s3:Shared},hE (X.block scope C N s2 ay a9) (E σ) e s3->compPost (model X.prog X.w) X.A X.cK (some (assign (.Name y py) X.env)) (fun _ s'=>fi X aa D .next s') (.ref Da) C (.error e) s3:=fun {s3} q=>by
   obtain ⟨pC,cb,cI,I,x,k8,a',kE,rfl,hp,ex,gC,gb,dc,f,w⟩:=q;obtain ⟨m,aH,_⟩:=hp.loc;refine ⟨m,aH,fun h' pW uR _=>?_⟩;have wc:Inv X aa σ I s3:=bl.p3 (ch:=a9) hp.os hp.base hp.a6 hp.bare fun b ab=>⟨(f2 b ab).2.2.2.1,(f2 b ab).2.1,(f2 b ab).2.2.2.2.1,(f2 b ab).2.2.2.2.2⟩
   have dP:gm X aa I C:=bl.jc cB hp.free;have afs:=wc.turned (t':=s3.toks) (it:=C) (h':=h') (fun b o ab e=>(pW.2 b ab).trans e) dP.1 dP.2.1 dP.2.2.2.1 dP.2.2.2.2.1 dP.2.2.2.2.2;have cg:x ≠ C:=Db ex hp.free;have aaI:kE ≠ C:=fun z=>by
    obtain ⟨_,_,_,lj,g0,_,_,aw,dv,_⟩:=id f;obtain ⟨o,aF,b5,aZ,dE,_⟩:=aH;have oi:s3.heap.get? C=some o:=aZ;rw [z,oi] at aw;cases aw;rw [dv] at dE;cases dE
   have pU:jH x k8 a' kE cb h':=f.but cg aaI fun b ab=>pW.2 b ab
   have eW:j9 X aa E cb (.ref x) { s3 with heap:=h' }:=⟨σ,I,x,k8,a',kE,rfl,afs,ex,gC,rY bl dc,pU,w⟩;unfold PySem.passOn;obtain ⟨_,vs,bE,lj,g0,he,af,_⟩:=id pU;refine wpAny_bind (wpAny_field (s:={ s3 with heap:=h' }) he rfl af ?_);rw [if_neg (show ¬ (de kE == hg)=true from by simp)];exact wpAny_bind (eW.qv F _ fun s4 lX=>wpAny_throw (ac6 _ _ _ _ lX))
  obtain ⟨pC,cb,cI,I,x,k8,a',kE,rfl,hp,ex,gC,gb,dc,f,w⟩:=id q;have aQ:s'.heap.FunFrames X.base (X.env :: X.outer):=by rw [<- F.st];exact hp.stack
  show wpAny _ _ _ _ _ _;by_cases c:(cb == rawInt X.env.locals)=true
  .rw [beq_iff_eq] at c;subst c;obtain ⟨ne,vs,bE,lj,g0,he,af,XD,hd,br⟩:=id f;unfold noteFrame;have afA:(compEnvC scope (gS X.env.cells scope.names []) C X.env).frame=some X.env.locals:=F.fr;simp only [afA];refine wpAny_bind (wpAny_field he rfl af ?_);rw [if_pos (show (de kE != hg)=true from by simp)];refine wpAny_bind (wpAny_field XD hd br ?_);rw [if_pos (show (rawInt X.env.locals == rawInt X.env.locals)=true from by simp)];exact wpAny_pure (post q)
  .refine NA (env':=compEnvC scope (gS X.env.cells scope.names []) C X.env) (by rw [<- F.st];exact hp.ok.frames) aQ F.fr F.fr f c fun ai aaA k c_ f2=>post ?_
   exact ⟨pC,_,cI,I,x,k8,a',aaA,rfl,KZ hp (by show mS (g_ X.stack) _ _ _ _;rw [F.st];exact k) ex gC gb f2.nZ,ex,hp.a6.fresh c_,rY hp c_,b8 hp.gj c_,f2,w⟩
end
seal L2.ei L2.bk L2.e2 L2.f_ L2.hi L2.gr
structure Off (D:List Addr) (H off:aq):Prop where
 ck:aN off H
 no:∀ a ∈ D,off a=none
 bO:∀ a ∈ D,∃ aE,H a=some (.dN aE)
theorem Off.same {D:List Addr} {H I off:aq} (h:Off D H off) (s:aN H I):Off D I off:=⟨h.ck.trans s,h.no,fun a aO=>let ⟨k,e⟩:=h.bO a aO;⟨k,s _ _ e⟩⟩
theorem Off.put {D:List Addr} {H off:aq} {a:Addr} {aE:List (Key × V)} (h:Off D H off) (aO:a ∈ D):Off D (upd H a (.dN aE)) off:=by
 refine ⟨fun b u e=>?_,h.no,fun b ab=>?_⟩
 .rw [aX (Db e (h.no a aO))];exact h.ck b u e
 .by_cases e:b=a
  .rw [e,aS];exact ⟨_,rfl⟩
  .rw [aX e];exact h.bO b ab
theorem Off.lJ {D:List Addr} {H off:aq} (h:Off D H off):aN off (fH D H):=fun b u e=>by
 rw [j4 (fun ab=>by rw [h.no b ab] at e;cases e)];exact h.ck b u e
theorem Zj {D:List Addr} {H:aq} (n:aY H):aY (fH D H):=fun b o e=>n b o (yO b o e)
theorem Off.un {D:List Addr} {H H1 off:aq} (h:Off D H off) (s:aN (fH D H) H1) (no:∀ a ∈ D,H1 a=none):aN H (mC D H H1)/\Off D (mC D H H1) H1/\aN off H1:=by
 have s1:aN H (mC D H H1):=fun b u e=>by
  by_cases ab:b ∈ D
  .rw [xQ ab];exact e
  .rw [ow ab];exact s b u (by rw [j4 ab];exact e)
 refine ⟨s1,⟨fun b u e=>?_,no,fun a aO=>?_⟩,h.lJ.trans s⟩
 .rw [ow (fun ab=>by rw [no b ab] at e;cases e)];exact e
 .rw [xQ aO];exact h.bO a aO
theorem Yt {D:List Addr} {H H1:aq} (n:aY H) (bH:aY H1):aY (mC D H H1):=fun b o e=>by
 by_cases ab:b ∈ D
 .rw [xQ ab] at e;exact n b o e
 .rw [ow ab] at e;exact bH b o e
def Pr (t:bJ):bI:=fun vs H Q _=>∃ n ds D off,vs=[.str (f5 n ds)]/\mv n ds/\aY H/\Off D H off/\∀ c I fJ,aN H I->aY I->Off D I fJ->aN off fJ->ff t fJ c n ds->Q (.ref c) I
theorem GM:b_ P base T 7 t.sf t.sI ["text"] (Pr t):=by
 refine bt.frame (aj2 T) fun vs H Q E h=>?_
 obtain ⟨n,ds,D,off,rfl,ar,bc,aZ,q⟩:=h;refine ⟨D,aZ.bO,n,ds,rfl,ar,(Zj bc),fun c H1 s1 bH C no=>?_⟩;obtain ⟨a,b,d⟩:=aZ.un s1 no;exact q c _ H1 a (Yt bc bH) b d C
noncomputable abbrev oO:List Str:=[ag "crossings",ag "plans",ag "keepers"]
noncomputable def z_ (bC db d6:Addr):List (Str × V):=[(ag "crossings",.ref bC),(ag "plans",.ref db),(ag "keepers",.ref d6)]
theorem pG (bC db d6:Addr):(z_ bC db d6).map (·.1)=oO:=rfl
def LH (t:bJ):bI:=fun vs H Q _=>∃ (p au:Addr),vs=[.ref p]/\H p=some (.ins t.gA au [])/\H au=some (.own p)/\∀ bC db d6 I,(∀ b u,b ≠ p->H b=some u->I b=some u)->(aY H->aY I)->I p=some (.ins t.gA au (z_ bC db d6))->I bC=some (.dN [])->I db=some (.dN [])->bC ≠ db->H bC=none->H db=none->Q .bT I
def LN:bI:=fun vs H Q _=>∃ d x v,vs=[.ref d,.str x]/\iy H d (.str x) (some v)/\Q v H
theorem ahR:b_ P base T 1 t.rm t.yQ ["self"] (LH t):=by
 exists T.Td.ok ajZ,9
 obtain ⟨p,au,rfl,aw,az,q⟩:=h;refine ⟨_,(aM (g8 (U 0) CF rfl)
   (aM (g8 (U 0) CF rfl)
   (a3 (g8 (U 0) CF rfl)))),?_⟩
 nofun;intro bC JX;have bH:p ≠ bC:=Db aw JX;refine ⟨_,_,_,by rw [aX bH];exact aw,T.lO,T.Lx,by decide,fun db fc=>?_⟩;have bQ:p ≠ db:=fun z=>by rw [<- z,aS] at fc;cases fc
 have df:bC ≠ db:=fun z=>by rw [<- z,aX bH.symm,aS] at fc;cases fc
 refine ⟨_,_,_,by rw [aX bQ];exact aS,T.lO,T.ahT,fG (n:=999) (by decide),fun d6 pB=>?_⟩;have d8:p ≠ d6:=fun z=>by rw [<- z,aS] at pB;cases pB
 refine ⟨_,_,_,by rw [aX d8];exact aS,T.lO,T.XG,fG (n:=999) (fG (n:=998) (by decide)),?_⟩;have gc:bC ≠ d6:=fun z=>by rw [<- z,aX bH.symm,aX df,aX bH.symm,aS] at pB;cases pB
 have j_:db ≠ d6:=fun z=>by rw [<- z,aX bQ.symm,aS] at pB;cases pB
 rw [show Tk (ag "crossings") (V.ref bC) ([]:List (Str × V))=[(ag "crossings",V.ref bC)] from iC [] rfl (by ac_nf),
  show Tk (ag "plans") (V.ref db) ([(ag "crossings",V.ref bC)]:List (Str × V))=[(ag "crossings",V.ref bC),(ag "plans",V.ref db)] from iC [ag "crossings"] rfl (by ac_nf),
  show Tk (ag "keepers") (V.ref d6) ([(ag "crossings",V.ref bC),(ag "plans",V.ref db)]:List (Str × V))=[(ag "crossings",V.ref bC),(ag "plans",V.ref db),(ag "keepers",V.ref d6)] from iC [ag "crossings",ag "plans"] rfl (by ac_nf)]
 have ai:H db=none:=by rw [aX bQ.symm,aX df.symm] at fc;exact fc
 have br:H d6=none:=by rw [aX d8.symm,aX j_.symm,aX d8.symm,aX gc.symm] at pB;exact pB
 refine q bC db d6 _ (fun b u n e=>?_) (fun n=>(((((n.upd).upd).upd).upd).upd).upd) aS ?_ ?_ df JX ai
 .rw [aX n,aX (Db e br),aX n,aX (Db e ai),aX n,aX (Db e JX)];exact e
 .rw [aX bH.symm,aX gc,aX bH.symm,aX df,aX bH.symm];exact aS
 .rw [aX bQ.symm,aX j_,aX bQ.symm];exact aS
theorem Ef:b_ P base T 1 t.tM t.yb w_ LN:=by
 exists T.yc.ok afD,9
 obtain ⟨d,x,v,rfl,bj,q⟩:=h;have ba:=gF av;refine ⟨_,(aM (c9 (qV (Jj ba (U 1) (U 0))) (a3 iJ) dd)
   (a3 (bX (DL ba (U 0) (U 1) (fun _ _=>rfl))))),?_⟩
 nofun;refine dh false (fun Q a5=>?_) (fun ar=>nomatch ar) (fun _=>?_)
 .nofun;exact ⟨_,bj,a5⟩
 .nofun;exact ⟨_,bj,q⟩
structure jN (t:bJ) (H:aq) (bO bC:Addr) (b1:List (Key × V)):Prop where
 b2:∃ au db d6,H bO=some (.ins t.gA au (z_ bC db d6))
 aO:H bC=some (.dN b1)
theorem jN.same {t:bJ} {H I:aq} {bO bC:Addr} {b1:List (Key × V)} (h:jN t H bO bC b1) (s:aN H I):jN t I bO bC b1:=by
 obtain ⟨⟨au,db,d6,e⟩,a⟩:=h;exact ⟨⟨au,db,d6,s _ _ e⟩,s _ _ a⟩
theorem jN.Zp {t:bJ} {H:aq} {bO bC:Addr} {b1 k:List (Key × V)} (h:jN t H bO bC b1):jN t (upd H bC (.dN k)) bO bC k:=by
 obtain ⟨⟨au,db,d6,e⟩,a⟩:=h;exact ⟨⟨au,db,d6,by rw [aX (fb e a (fun z=>nomatch z))];exact e⟩,aS⟩
def Ox (t:bJ):bI:=fun vs H Q _=>∃ bO bC l b1 off name n ds,vs=[.ref bO,.str (ag "crossing"),.ref l,.str (f5 n ds)]/\jN t H bO bC b1/\Off [bC] H off/\aY H/\off l=some (.lst [.str name])/\mv n ds/\b1.length <= 1000 /\
 ∀ c I fJ,Off [bC] I fJ->aN off fJ->aY I->jN t I bO bC (fs b1 (.inr name) (.ref c))->ff t fJ c n ds->Q .bT I
section
variable {P:Program} {w:World} {K:a4} {ah:Str->Option Value} {base:Heap} {t:bJ} {H:aq} {bO bC db d6 au:Addr}
theorem IH (T:Txt w K ah t) (e:H bO=some (.ins t.gA au (z_ bC db d6))):io K H bO (ag "crossings") (.ref bC):=⟨_,au,_,e,T.lO,T.Lx,lz oO 0 (pG ..) (by ac_nf) rfl⟩
end
theorem Mb:b_ P base T 8 t.qB t.re Bb (Ox t):=by
 refine cF (GM T) fun Ed=>cF (Ef T) fun w4=>?_;exists T.N7.ok Ut,9
 have ba:=gF av;obtain ⟨bO,bC,l,b1,off,name,n,ds,rfl,kN,aZ,bc,ax,ar,aJ,q⟩:=h;refine ⟨_,(aM (c9 (cU fw (U 1) cx (lc _)) (aM (S6 ba (c1 (U 0) rfl) (cD gI (U 2) aR) (bK Ed av T.Mh T.AL.bh T.K3 (ae (U 3) aA)) rfl)
   (a3 YA)) dd)
   (aM (bL (i:=4) Ut.aC (bK w4 av T.Ks T.yc.bh T.Fd (ae (c1 (U 0) rfl) (ae (cD gI (U 2) aR) aA))))
   (a3 (c9 (cU fw (U 1) cx (lc _)) (a3 iJ) (aM iJ
   (a3 iJ)))))),?_⟩
 obtain ⟨⟨au,db,d6,fB⟩,cP⟩:=id kN;refine dh true (fun Q a5=>?_) (fun _=>?_) (fun ar=>nomatch ar)
 .nofun;exact a5
 .nofun;refine ⟨n,ds,[bC],off,rfl,ar,bc,aZ,fun c H1 akn s1 bH P5 s2 C=>?_⟩;have Ny:=kN.same s1;exact ⟨_,IH T (s1 _ _ fB),_,aW.of (P5.ck _ _ (s2 _ _ ax)),_,rfl,_,rfl,_,n0.k (k:=.inr name) Ny.aO (jV aJ (by decide)),q c _ akn (P5.put (by simp)) s2 bH.upd Ny.Zp C⟩
def Ce (x:Str):Prop:=x.length <= 1000/\∀ c ∈ x.cps.toList,c < 16 ^ 8
def KI (ds:List a8) (x:Str):Prop:=∀ d ∈ ds,d.name ≠ x
def pR (t:bJ) (x:Str) (H:aq) (E:cZ):Prop:=∀ au I,aN H I->(aY H->aY I)->I au=some (.ext (jD au [(ag "name",.str x)]))->E (.ref t.h6) (some au) I
def TB (t:bJ):bI:=fun vs H Q _=>∃ x n,vs=[.ref x,.str n]/\Ce n/\H x=some (.ext (e6 x t.h6 none)) /\
 ∀ au,H au=none->au ≠ x->Q .bT (upd (upd H x (.ext (e6 x t.h6 (some au)))) au (.ext (jD au [(ag "name",.str n)])))
def Ol (t:bJ):bI:=fun vs H Q E=>∃ c n ds x,vs=[.ref c,.str x]/\ff t H c n ds/\Ce x/\((∃ i:Nat,∃ d,ds[i]? = some d/\x=d.name/\Q (.int (i:Nat)) H)\/(KI ds x/\pR t x H E))
def R' (t:bJ):bI:=fun vs H Q E=>∃ c n ds x,vs=[.ref c,.str x]/\ff t H c n ds/\Ce x/\((∃ i:Nat,∃ d,ds[i]? = some d/\x=d.name/\∀ a,eo t H a d->Q (.ref a) H)\/(KI ds x/\pR t x H E))
theorem akt:b_ P base T 1 t.rW t.xC i1 (TB t):=by
 exists T.M4.ok aga,9
 obtain ⟨x,n,rfl,aH,ak,q⟩:=h;refine ⟨_,(aM (fO (ajB rfl T.aja T.XY (ae (U 0) (ae (U8 (ai1 (IN (U 1) aaH)) (by rw [sizeLine_eq];decide)) aA))))
   (a3 (ajO (U 0) (U 1) rfl))),?_⟩
 nofun;refine ⟨aH.1,aH.2,fun y=>⟨_,_,ak,T.B',?_⟩⟩;exact ⟨_,ak,T.B',T.Nj,q⟩
theorem aki (T:Txt w K ah t):bt P w K ah base (hr P w) 3 t.qf t.uy i1 (Ol t):=by
 have ahA:bt P w K ah base b7 1 t.rW t.xC i1 (TB t):=akt T;exists T.GJ.uD PE,9
 obtain ⟨c,n,ds,x,rfl,⟨⟨m_,ij⟩,au,wl,aC,aw,az,bW⟩,IX,aB⟩:=h;have ba:=gF av;refine ⟨_,(aM (c9 (qV (Jj ba (U 1) (c1 (U 0) rfl))) (a3 (Zo (VI T.P4 ahA av rfl T.R0 T.ain (ae (U 1) aA)) agu)) dd)
   (a3 (bX (DL ba (c1 (U 0) rfl) (U 1) (fun _ _=>rfl))))),?_⟩
 rcases aB with ⟨i,d,hd,rfl,q⟩ | ⟨aG,q⟩
 .have aU:dg (jd ds ds.length) (g9 d.name)=some (.int i):=by
   rw [<- qr hd];exact Lv m_ (cV.mp hd).1 (bu _)
  have bj:iy H aC (.str d.name) (some (.int i)):=by rw [<- aU];exact iy.k (k:=g9 d.name) bW
  nofun;refine dh false (fun Q a5=>?_) (fun ar=>nomatch ar) (fun _=>?_)
  .nofun;refine ⟨_,uh T aw,_,rfl,_,bj,?_⟩;exact a5
  .nofun;exact ⟨_,uh T aw,_,rfl,_,bj,q⟩
 .have aU:dg (jd ds ds.length) (g9 x)=none:=Zk aG (bu _);have bj:iy H aC (.str x) none:=by rw [<- aU];exact iy.k (k:=g9 x) bW
  nofun;refine dh true (fun Q a5=>?_) (fun _=>?_) (fun ar=>nomatch ar)
  .nofun;refine ⟨_,uh T aw,_,rfl,_,bj,?_⟩;exact a5
  .nofun;refine ⟨b8 (show 1 <= 1000 by decide) (by decide),fun a aO=>⟨a,x,rfl,IX,aS,fun d hd cf=>?_⟩⟩;have IS:H d=none:=by rw [aX cf] at hd;exact hd
   refine ⟨rfl,t.h6,some d,by rw [aX (c7 cf),aS],T.B',q d _ (fun b u e=>?_) (fun bc=>(((bc.upd).upd).upd).upd) (by rw [aX cf,aS])⟩;rw [aX (Db e aO),aX (Db e IS),aX (Db e aO),aX (Db e aO)];exact e
theorem Yg (T:Txt w K ah t):bt P w K ah base (hr P w) 4 t.o5 t.uw i1 (R' t):=by
 have Ww:bt P w K ah base (hr P w) 3 t.qf t.uy i1 (Ol t):=aki T;exists T.Ec.uD T1,9
 obtain ⟨c,n,ds,x,rfl,C,IX,aB⟩:=h;obtain ⟨⟨m_,ij⟩,au,wl,aC,aw,⟨as,cL,c_,al⟩,bW⟩:=id C;refine ⟨_,(a3 (bX (cD gI (c1 (U 0) rfl) (e3 (U 0) T.jW T.Cl Ww av T.Sv .nil B1 (ae (U 1) aA))))),?_⟩;nofun;refine ⟨_,Ml T aw,_,_,aw,pw _ _ _ (by ac_nf),⟨c,n,ds,x,rfl,C,IX,?_⟩⟩;rcases aB with ⟨i,d,hd,ex,q⟩ | ⟨aG,q⟩
 .refine .inl ⟨i,d,hd,ex,?_⟩;have aj:i < as.length:=by rw [c_];exact (cV.mp hd).1
  have aO:as[i]? = some as[i]:=cJ aj;nofun;refine ⟨_,aW.of cL,_,dw (show (as.map V.ref)[i]? = some (V.ref as[i]) by rw [ec,aO];rfl),?_⟩;exact q as[i] (al i _ d aO hd)
 .exact .inr ⟨aG,q⟩
theorem Ze {x:Str} (h:made x gn 8=true):Ce x:=by
 obtain ⟨⟨_,br⟩,af⟩:=Fk h;exact ⟨by omega,fun c ar=>by have:=af c ar;omega⟩
structure xo (ds:List a8) (us:List (Str × Int)) (x:Str):Prop where
 at_:∃ fm v h7,us=fm ++ (x,v) :: h7/\∀ u ∈ fm,u.1 ∈ ds.map (·.name)
 st:KI ds x
theorem pR.step {t:bJ} {x:Str} {H H1:aq} {E:cZ} (h:pR t x H E) (s:aN H H1) (n:aY H->aY H1):pR t x H1 E:=fun au I s1 bH e=>h au I (s.trans s1) (fun z=>bH (n z)) e
def NV (t:bJ):bI:=fun vs H Q E=>∃ p c wl n ds us x,vs=[.ref p,.ref c,.ref wl]/\ff t H c n ds/\gh H wl us/\kU us/\xo ds us x/\pR t x H E
def BA (t:bJ):bI:=fun vs H Q E=>∃ c wl n ds us x,vs=[.ref c,.ref wl]/\ff t H c n ds/\gh H wl us/\kU us/\xo ds us x/\pR t x H E
theorem ako (T:Txt w K ah t):bt P w K ah base (hr P w) 5 t.oR t.q9 t9 (NV t):=by
 have Vx:bt P w K ah base (hr P w) 4 t.o5 t.uw i1 (R' t):=Yg T;have Fu:nV P w K ah base b7 4 (sk t) "ready" ["self"] (tc t):=AZ (SD T) (by decide);have Ep:nV P w K ah base b7 4 (sk t) "fade" ["self"] (uN t):=AZ (Mc T) (by decide);have G5:bt P w K ah base b7 4 t.rq t.s8 nC (Gj t):=(UK T).mono (by decide);have J4:bt P w K ah base b7 4 t.rb t.tW nC (FE t):=(NB T).mono (by decide);exists T.Dz.uD k3,9
 obtain ⟨p,c,wl,n,ds,us,x,rfl,C,W,ok,⟨⟨fm,v,h7,AM,rI⟩,fE⟩,q⟩:=h;have ba:=gF av;refine ⟨_,(aM (WT (i:=3) k3.aC rfl (lY rfl) ⟨rfl,rfl⟩ adK rfl (iP (U 2)) (gx (sc:=bG ri) rfl (by ac_nf)) (N:=tv) (sel:=[none,none,some 1]) (gs (M:=yf) (by ac_nf)) (PP.of (fun _ _ _ _ _=>(fZ (K:=K) (n:=2) rfl rfl (c0 (b6 (i:=0) (eT (N:=tv) (by ac_nf) rfl)) (c0 (b6 (i:=1) (eT (N:=tv) (by ac_nf) rfl)) f')))) (fun _ _ _ _ _=>⟨_,iz,by first | rfl | (dsimp only [aP.block,aP.dV];done) | (dsimp only [aP.block,aP.dV];exact rfl)⟩) (fun _ _ _ _ _=>⟨_,(e3 (U 2) T.jW T.ce Vx av T.um .nil ace (ae (U 0) aA)),by first | rfl | (dsimp only [aP.block,aP.dV];done) | (dsimp only [aP.block,aP.dV];exact rfl)⟩)) rfl)
   (aM (g8 (U 0) (g7 jU rfl T.iI iF (ae (U 2) aA)) rfl)
   (aM (g8 (U 0) (iG rfl (KM rfl T.PG (ae (U 2) (ae (U 3) aA))) (gx (sc:=bG ri) rfl (by ac_nf)) (N:=uW) (sel:=[none,none]) (gs (M:=yf) (by ac_nf)) (fD.of (fun _ _ _ _=>(fZ (K:=K) (n:=2) rfl rfl (c0 (b6 (i:=0) (eT (N:=uW) (by ac_nf) rfl)) (c0 (b6 (i:=1) (eT (N:=uW) (by ac_nf) rfl)) f')))) (fun _ _ _ _=>⟨_,iz,by walk_at "B"⟩) (fun _ _ _ _=>⟨_,(bS dJ (bS dJ (cD er (U 0) aR) (AV (U 1) Ep av cT)) (AV (U 1) Fu av cT)),by walk_at "B"⟩))) rfl)
   (aM (g8 (U 0) Dm rfl)
   (a3 (ho (DR ⟨rfl,rfl⟩) rfl (rn rfl T.o8 (ae (U 2) aA)) (fZ (K:=K) (n:=2) rfl rfl (c0 (b6 (i:=4) k3.aC) (c0 (b6 (i:=5) k3.aC) f'))) (a3 (ho (DR ⟨rfl,rfl⟩) rfl (rn rfl T.o8 (ae (U 2) aA)) (fZ (K:=K) (n:=2) rfl rfl (c0 (b6 (i:=6) k3.aC) (c0 (b6 (i:=7) k3.aC) f'))) (a3 (c9 (gr.pt (zi (cU l5 (U 4) (U 6) (lc _)) (Ck (mK (bK G5 av T.SL T.Cu.bh T.Uq (ae (U 1) (ae (cD er (U 5) aR) (ae (cD er (U 7) aR) aA)))))))) (a3 (Ai ba (c1 (U 0) rfl) (eL (ae (U 4) (ae (U 6) aA))) (bS dJ (cD er (U 5) aR) (bK J4 av T.MJ T.B3.bh T.Rh (ae (U 1) (ae (cD er (U 5) aR) (ae (cD er (U 7) aR) aA))))) rfl)) dd)))))))))),?_⟩
 obtain ⟨qs,cL,c_,al⟩:=id W;have vG:(qs.map V.ref).length <= sizeLine:=b8 (show (qs.map V.ref).length <= 5 by rw [bb,c_];exact ok.mJ) (by decide);obtain ⟨_,Yp,acX,YN,Kg,ZJ,aik⟩:=id C;simp only [di];refine vd (fun aL I=>False) (fun gH cn _ _ _=>?_) (fun aL I h=>h.elim);nofun;refine ⟨⟨_,aW.of cL⟩,?_⟩;refine cY.list (xs:=qs.map V.ref) (fun i ys I=>I=H/\ys.length=i/\i <= fm.length) vG ⟨rfl,rfl,fL _⟩ (fun i ys I _ ⟨e,aw,_⟩=>by subst e;exact ⟨aW.of cL,by omega⟩) ?_ ?_
 .rintro i y ys I ak ⟨rfl,ax,aj⟩ N bx;obtain ⟨gD,f9,rfl⟩:=eU ak;have xf:i < us.length:=by rw [<- c_];exact (cV.mp f9).1
  have fR:us[i]? = some us[i]:=cJ xf;have aB:=al i gD _ f9 fR;refine ox (bY.of aB) ?_;nofun;refine ⟨Sub.r2,_,_,Kg,pw _ _ _ (by ac_nf),⟨c,n,ds,_,rfl,C,Ze (ok.nm _ (d4 fR)).1,?_⟩⟩;generalize us[i]=u at fR;rw [AM] at fR;rcases Nat.lt_or_eq_of_le aj with af | af
  .rw [kq af] at fR;obtain ⟨d,hd,oj⟩:=da.mp (rI u (d4 fR));obtain ⟨j,bf⟩:=q1 hd;exact .inl ⟨j,d,bf,oj.symm,fun a W=>bx _ _ ⟨rfl,by rw [dq,ax];rfl,af⟩⟩
  .rw [af,kd (bu _),yZ] at fR;cases fR;exact .inr ⟨fE,q⟩
 .rintro ys I ⟨rfl,ax,aj⟩ l2 mj;rw [bb,c_,AM,dq,dr] at aj;omega
theorem Yl (T:Txt w K ah t):bt P w K ah base (hr P w) 15 t.p8 t.rj lW (BA t):=by
 have acM:bt P w K ah base (hr P w) 13 t.oR t.q9 t9 (NV t):=(ako T).mono (by decide);have Dy:bt P w K ah base b7 14 t.qD t.te ["wanted"] (Kq P w t):=(Q5 T).mono (by decide);have KN:bt P w K ah base b7 14 t.qU t.sr ["wanted"] (F3 P w t):=(O5 T).mono (by decide);have qY:bt P w K ah base b7 14 t.rv t.vg xw (Ic P w t):=Px T;exists T.t6.uD fA,9
 obtain ⟨c,wl,n,ds,us,x,rfl,C,W,ok,n6,q⟩:=h;have ba:=gF av;refine ⟨_,(aM (bL (i:=2) fA.aC (p' T.Od acM av rfl T.SC T.QK .nil B1 (ae (U 0) (ae (U 1) aA))))
   (aM (bL (i:=3) fA.aC (bK Dy av T.ww T.Cy.bh T.OZ (ae (U 2) aA)))
   (aM (bL (i:=4) fA.aC aR)
   (aM (bL (i:=5) fA.aC (bK KN av T.Rj T.Cd.bh T.Q0 (ae (U 2) aA)))
   (aM (bL (i:=6) fA.aC (cD er (bK qY av T.uS T.pA.bh T.sL (ae (U 2) (ae (U 4) (ae (U 3) aA)))) aR))
   (aM (bL (i:=7) fA.aC (cD er (bK qY av T.uS T.pA.bh T.sL (ae (U 2) (ae (U 5) (ae (U 3) aA)))) aR))
   (aM (CE (DR ⟨rfl,rfl⟩) (cU qM (bS oH (U 5) (U 4)) aR (lc _)) (aM (bL (i:=8) fA.aC (bS O' (bS dJ (U 4) (U 5)) aR))
   (aM (ni (bK qY av T.uS T.pA.bh T.sL (ae (U 2) (ae (U 8) (ae (U 3) aA)))) (fZ (K:=K) (n:=2) rfl rfl (c0 (b6 (i:=9) fA.aC) (c0 (b6 (i:=10) fA.aC) f'))))
   (a3 (c9 (cU Jb (U 9) jB (lc _)) (aM (bL (i:=4) fA.aC (U 8))
   (a3 (bL (i:=6) fA.aC (U 10)))) (aM (bL (i:=5) fA.aC (U 8))
   (a3 (bL (i:=7) fA.aC (U 9)))))))))
   (a3 (bX (eL (ae (U 5) (ae (U 7) (ae (U 6) aA))))))))))))),?_⟩
 simp only [di];refine vd (fun aL I=>False) (fun gH cn _ _ _=>?_) (fun aL I h=>h.elim);nofun;intro p au ak n8 cf;have s1:aN H (upd (upd H au (.own p)) p (.ins t.dS au [])):=(a0 n8).trans (a0 (by rw [aX (c7 cf)];exact ak));exact ⟨p,c,wl,n,ds,us,x,rfl,C.same s1,W.same s1,ok,n6,q.step s1 fun n=>(n.upd).upd⟩
section
variable (P:Program) (w:World)
def ah' (t:bJ):bI:=fun vs H Q _=>∃ n ws,SQ t vs H n ws/\∀ z I,aN H I->aY I->Os (ac n ws) z->Q (.str (num z)) I
end
theorem akE:b_ P base T 16 t.r_ t.ug lW (ah' t):=by
 refine cF (QC T) fun Hi=>?_;refine T.wY.ok QT (fun vs H Q E h=>?_) (fun _ _ _ s H vs Q E av h=>?_)
 .obtain ⟨n,ws,⟨c,wl,ds,rfl,_⟩,_⟩:=h;rfl
 obtain ⟨n,ws,J,q⟩:=h;obtain ⟨c,wl,ds,rfl,C,aH,W,kr,cj,bc⟩:=id J;refine ⟨_,(a3 (bX (k2 Uf rfl T.ru rh (ae (cD er (bK Hi av T.GX T.t6.bh T.CZ (ae (U 0) (ae (U 1) aA))) aR) aA)))),?_⟩;nofun;refine ⟨n,ws,J,fun r z fX cO b p I s1 bH aw ou=>⟨r,rfl,_,bY.of aw,_,dw (j:=0) rfl,_,rfl,?_⟩⟩;have a1:=ou.d_;have a2:=ou.vl;exact ⟨FQ (by omega),q z I s1 bH ⟨a1,a2,⟨b,ou.T7⟩,fun y af ai c=>ou.least cj.ok af ai c⟩⟩
theorem WO (T:Txt w K ah t):bt P w K ah base (hr P w) 16 t.r_ t.ug lW (BA t):=by
 have afI:bt P w K ah base (hr P w) 15 t.p8 t.rj lW (BA t):=Yl T;exists T.wY.uD QT,9
 obtain ⟨c,wl,n,ds,us,x,rfl,C,W,ok,n6,q⟩:=h;refine ⟨_,(a3 (bX (k2 Uf rfl T.ru rh (ae (cD er (E9 afI av rfl T.GX T.t6.bh T.CZ .nil B1 (ae (U 0) (ae (U 1) aA))) aR) aA)))),?_⟩;nofun;exact ⟨c,wl,n,ds,us,x,rfl,C,W,ok,n6,q⟩
def Ig (t:bJ):bI:=fun vs H Q _=>∃ bO bC b1 off row told text first name us,vs=[.ref bO,.str row]/\jN t H bO bC b1/\Off [bC] H off/\aY H/\u_ row told text first name us /\
  ((first=ag "crossing" /\ ∃ n ds,text=f5 n ds/\mv n ds/\b1.length <= 1000/\∀ c I fJ,Off [bC] I fJ->aN off fJ->aY I->jN t I bO bC (fs b1 (.inr name) (.ref c))->ff t fJ c n ds->Q (.str (ag "ok")) I) \/
   (first=ag "shortest" /\ ∃ c n ds ws,dg b1 (.inr name)=some (.ref c)/\ff t off c n ds/\0 < n/\us=ws.map (fun p=>(p.1.name,p.2))/\(∀ q ∈ ws,∃ i:Nat,ds[i]? = some q.1)/\jf n ws/\∀ z I,aN H I->aY I->Os (ac n ws) z->Q (.str (num z)) I))
def Ng (t:bJ):bI:=fun vs H Q E=>∃ bO bC b1 off row told text name us c n ds x,vs=[.ref bO,.str row]/\jN t H bO bC b1/\Off [bC] H off/\aY H/\u_ row told text (ag "shortest") name us/\dg b1 (.inr name)=some (.ref c)/\ff t off c n ds/\xo ds us x/\pR t x H E
theorem Nw {H:aq} {l:Addr} {ws:List (a8 × Int)} (h:gh H l (ws.map fun p=>(p.1.name,p.2))):yu H l ws:=by
 obtain ⟨qs,aw,az,al⟩:=h;rw [bb] at az;exact ⟨qs,aw,az,fun i q p af ai=>al i q (p.1.name,p.2) af (by rw [ec,ai];rfl)⟩
theorem Vv:b_ P base T 17 t.nT t.qu uG (Ig t):=by
 refine cF (Un T) fun Jc=>cF (Mb T) fun HE=>cF (Ef T) fun w4=>cF (akE T) fun aiy=>?_;exists T.E'.ok pa,9
 obtain ⟨bO,bC,b1,off,row,told,text,first,name,us,rfl,kN,aZ,bc,R,h⟩:=h;refine ⟨_,(aM (ni (bK Jc av T.MY T.B6.bh T.Wp (ae (U 1) aA)) (fZ (K:=K) (n:=3) rfl rfl (c0 (b6 (i:=2) pa.aC) (c0 (b6 (i:=3) pa.aC) (c0 (b6 (i:=4) pa.aC) f')))))
   (aM (c9 (cU nO (U 2) (gO (ae cx (ae cx (ae cx aA)))) (by with_unfolding_all rfl)) (aM (fO (e3 (U 0) T.lO T.T9 HE av T.P8 .nil cT (ae (U 2) (ae (U 3) (ae (U 4) aA)))))
   (a3 (bX cx))) dd)
   (aM (c9 (cU nO (U 2) (gO (ae cx (ae cx aA))) (by with_unfolding_all rfl)) (a3 iJ) dd)
   (aM (c9 (cU fw (U 2) cx (lc _)) (a3 (bX (bK aiy av T.K' T.wY.bh T.L3 (ae (bK w4 av T.Ks T.yc.bh T.Fd (ae (c1 (U 0) rfl) (ae (cD gI (U 3) aR) aA))) (ae (cD gI (U 3) aR) aA))))) dd)
   (a3 iJ))))),?_⟩
 nofun;refine ⟨row,told,text,first,name,us,rfl,R,bc,fun p l H1 s1 bH b5 ei=>?_⟩;nofun;refine ⟨_,bY.of b5,rfl,_,_,rfl,_,_,rfl,_,_,rfl,rfl,?_⟩;rcases h with ⟨rfl,n,ds,rfl,ar,aJ,q⟩ | ⟨rfl,c,n,ds,ws,aU,C,aH,rfl,kr,cj,q⟩
 .have nK:H1 l=some (.lst [.str name]):=by
   rcases ei with ⟨_,e⟩ | ⟨e,_⟩
   .exact e
   .exact absurd e (by ac_nf)
  refine lF (fun b ay=>b=true/\aN H1 ay/\aY ay) (fun mU a5=>?_) (fun ay r=>?_) (fun ay r=>nomatch r.1)
  .nofun;exact ⟨by decide,fun p ao=>⟨_,.inl (aW.of aS),rfl,rfl,a5 _ _ ⟨rfl,a0 ao,bH.upd⟩⟩⟩
  .obtain ⟨_,s2,bQ⟩:=r;have mI:=(kN.same s1).same s2;have nh:=(aZ.same s1).same s2;have f6:fH [bC] ay l=some (.lst [.str name]):=by
    rw [j4 (fun hm=>?_)]
    .exact s2 _ _ nK
    .obtain ⟨aE,e⟩:=nh.bO l hm;rw [s2 _ _ nK] at e;cases e
   obtain ⟨au,db,d6,fB⟩:=mI.b2;nofun;exact ⟨_,_,fB,l4 oO (pG ..) (by ac_nf),bO,bC,l,b1,_,name,n,ds,rfl,mI,⟨yO,fun a aO=>r1 aO,nh.bO⟩,bQ,f6,ar,aJ,fun c I fJ a1 a2 SX aa_ Y1=>q c I fJ a1 (nh.lJ.trans a2) SX aa_ Y1⟩
 .obtain ⟨ul,nK,yz⟩:∃ ul,H1 l=some (.lst [.str name,.ref ul])/\gh H1 ul (ws.map fun p=>(p.1.name,p.2)):=by
   rcases ei with ⟨e,_⟩ | ⟨_,e⟩
   .exact absurd e (by ac_nf)
   .exact e
  refine lF (fun b ay=>b=false/\aN H1 ay/\aY ay) (fun mU a5=>?_) (fun ay r=>nomatch r.1) (fun ay r=>?_)
  .nofun;exact ⟨by decide,fun p ao=>⟨_,.inl (aW.of aS),rfl,rfl,a5 _ _ ⟨by ac_nf,a0 ao,bH.upd⟩⟩⟩
  obtain ⟨_,s2,bQ⟩:=r;rw [ft];dsimp only;refine lF (fun b bA=>b=false/\aN H1 bA/\aY bA) (fun mU a5=>?_) (fun bA r=>nomatch r.1) (fun bA r=>?_)
  .nofun;exact ⟨by decide,fun p ao=>⟨_,.inl (aW.of aS),rfl,rfl,a5 _ _ ⟨by ac_nf,s2.trans (a0 ao),bQ.upd⟩⟩⟩
  obtain ⟨_,s3,df⟩:=r;rw [ft];dsimp only;have Jl:=(kN.same s1).same s3;obtain ⟨⟨au,db,d6,fB⟩,cP⟩:=id Jl;have bj:iy bA bC (.str name) (some (.ref c)):=by rw [<- aU];exact iy.k (k:=.inr name) cP
  refine dh true (fun Q a5=>?_) (fun _=>?_) (fun ar=>nomatch ar)
  .nofun;exact a5
  .nofun;exact ⟨_,IH T fB,_,aW.of (s3 _ _ nK),_,rfl,bC,name,_,rfl,bj,_,aW.of (s3 _ _ nK),_,rfl,n,ws,⟨c,ul,ds,rfl,C.same (aZ.ck.trans (s1.trans s3)),aH,Nw (yz.same s3),kr,cj,df⟩,fun z I s4 d8 L=>q z I (s1.trans (s3.trans s4)) d8 L⟩
theorem Y5 (T:Txt w K ah t):bt P w K ah base (hr P w) 17 t.nT t.qu uG (Ng t):=by
 have Jc:bt P w K ah base b7 16 t.uJ t.wK ["row"] (Tn t):=(Un T).mono (by decide);have HE:bt P w K ah base b7 16 t.qB t.re Bb (Ox t):=(Mb T).mono (by decide);have w4:bt P w K ah base b7 16 t.tM t.yb w_ LN:=(Ef T).mono (by decide);have aiT:bt P w K ah base (hr P w) 16 t.r_ t.ug lW (BA t):=WO T;exists T.E'.uD pa,9
 obtain ⟨bO,bC,b1,off,row,told,text,name,us,c,n,ds,x,rfl,kN,aZ,bc,R,aU,C,n6,q⟩:=h;have ok:kU us:=by
  rcases R.IJ with ⟨e,_⟩ | ⟨_,e⟩
  .exact absurd e (by ac_nf)
  .exact e
 refine ⟨_,(aM (ni (bK Jc av T.MY T.B6.bh T.Wp (ae (U 1) aA)) (fZ (K:=K) (n:=3) rfl rfl (c0 (b6 (i:=2) pa.aC) (c0 (b6 (i:=3) pa.aC) (c0 (b6 (i:=4) pa.aC) f')))))
   (aM (c9 (cU nO (U 2) (gO (ae cx (ae cx (ae cx aA)))) (by with_unfolding_all rfl)) (aM (fO (e3 (U 0) T.lO T.T9 HE av T.P8 .nil cT (ae (U 2) (ae (U 3) (ae (U 4) aA)))))
   (a3 (bX cx))) dd)
   (aM (c9 (cU nO (U 2) (gO (ae cx (ae cx aA))) (by with_unfolding_all rfl)) (a3 iJ) dd)
   (aM (c9 (cU fw (U 2) cx (lc _)) (a3 (bX (E9 aiT av rfl T.K' T.wY.bh T.L3 .nil B1 (ae (bK w4 av T.Ks T.yc.bh T.Fd (ae (c1 (U 0) rfl) (ae (cD gI (U 3) aR) aA))) (ae (cD gI (U 3) aR) aA))))) dd)
   (a3 iJ))))),?_⟩
 nofun;refine ⟨row,told,text,_,name,us,rfl,R,bc,fun p l H1 s1 bH b5 ei=>?_⟩;nofun;refine ⟨_,bY.of b5,rfl,_,_,rfl,_,_,rfl,_,_,rfl,rfl,?_⟩;obtain ⟨ul,nK,yz⟩:∃ ul,H1 l=some (.lst [.str name,.ref ul])/\gh H1 ul us:=by
  rcases ei with ⟨e,_⟩ | ⟨_,e⟩
  .exact absurd e (by ac_nf)
  .exact e
 refine lF (fun b ay=>b=false/\aN H1 ay/\aY ay) (fun mU a5=>?_) (fun ay r=>nomatch r.1) (fun ay r=>?_)
 .nofun;exact ⟨by decide,fun p ao=>⟨_,.inl (aW.of aS),rfl,rfl,a5 _ _ ⟨by ac_nf,a0 ao,bH.upd⟩⟩⟩
 obtain ⟨_,s2,bQ⟩:=r;rw [ft];dsimp only;refine lF (fun b bA=>b=false/\aN H1 bA/\aY bA) (fun mU a5=>?_) (fun bA r=>nomatch r.1) (fun bA r=>?_)
 .nofun;exact ⟨by decide,fun p ao=>⟨_,.inl (aW.of aS),rfl,rfl,a5 _ _ ⟨by ac_nf,s2.trans (a0 ao),bQ.upd⟩⟩⟩
 obtain ⟨_,s3,df⟩:=r;rw [ft];dsimp only;have Jl:=(kN.same s1).same s3;obtain ⟨⟨au,db,d6,fB⟩,cP⟩:=id Jl;have bj:iy bA bC (.str name) (some (.ref c)):=by rw [<- aU];exact iy.k (k:=.inr name) cP
 refine dh true (fun Q a5=>?_) (fun _=>?_) (fun ar=>nomatch ar)
 .nofun;exact a5
 .nofun;exact ⟨_,IH T fB,_,aW.of (s3 _ _ nK),_,rfl,bC,name,_,rfl,bj,_,aW.of (s3 _ _ nK),_,rfl,c,ul,n,ds,us,x,rfl,C.same (aZ.ck.trans (s1.trans s3)),yz.same s3,ok,n6,q.step (s1.trans s3) (fun _=>df)⟩
theorem bt.hold {P:Program} {w:World} {K:a4} {ah:Str->Option Value} {base:Heap} {k:Nat} {f:Addr} {fd:FuncData} {ps:List Str} {sp oU:bI} (F:bt P w K ah base b7 k f fd ps sp) (hlen:∀ vs H Q E,oU vs H Q E->vs.length=ps.length)
  (h:∀ vs H Q E,oU vs H Q E->∃ (a:Addr) (xs:List V),H a=some (.lst xs)/\∀ o,sp vs (upd H a (.fe o (.lst xs))) (fun v I=>I a=some (.fe o (.lst xs))->Q v (upd I a (.lst xs))) E):bt P w K ah base b7 k f fd ps oU:=by
 refine ⟨hlen,fun A outer s H args us vs Q E av he ab aU aG=>?_⟩;obtain ⟨a,xs,cP,q⟩:=h vs H Q E aG;obtain ⟨o,fB,ajn⟩:∃ o,s.heap.get? a=some o/\dK P w H s.heap a (.lst xs):=by
  obtain ⟨vl,aI,n,rel,fB⟩:=he.a6 a _ cP;exact ⟨_,fB,vl,aI,n,rel,fB⟩
 have ne:∀ b u,H b=some u->(∀ ys,u ≠ .lst ys)->b ≠ a:=fun b u e n z=>by
  rw [z,cP] at e;exact n xs (dj e).symm
 have no:∀ b,H b=none->upd H a (.fe o (.lst xs)) b=none:=fun b e=>by rw [aX (fun z=>by rw [z,cP] at e;cases e)];exact e
 have E6:dY P w (upd H a (.fe o (.lst xs))) s.heap:=fun b u e=>by
  by_cases ab:b=a
  .rw [ab,aS] at e;cases dj e;rw [ab];exact ⟨fB,ajn⟩
  .rw [aX ab] at e;refine (he.a6 b u e).kG (fun _ _ _ z=>z) (fun c z=>?_) fun c ys z=>?_
   .rw [aX (ne c _ z (fun _ y=>nomatch y))];exact z
   .rw [aX (ne c _ z (fun _ y=>nomatch y))];exact z
 have qx:m7 P w K ah base A outer s (upd H a (.fe o (.lst xs))):=⟨he.frames,he.mod,fun b u e=>⟨(he.bs b u e).1,no b (he.bs b u e).2⟩,he.jq,he.iD,fun b ab=>no b (he.kc b ab),E6,he.bare⟩;refine codeAny_mono (F.run A outer s _ args us vs _ E av qx ab aU (q o)) fun r s' aB=>?_
 cases r with
 | error e=>exact aB
 | ok cb=>
  cases cb with
  | next=>exact aB
  | brk=>exact aB
  | cont=>exact aB
  | ret u=>
   obtain ⟨v,H1,os,bare,un,a6,bV,cS⟩:=aB;have fF:=un.ki a o _ aS;have keep:∀ b u,H b=some u->(∀ ys,u ≠ .lst ys)->upd H a (.fe o (.lst xs)) b=some u:=fun b u e n=>by rw [aX (ne b u e n)];exact e
   have ne1:∀ b u,H1 b=some u->(∀ b2 ys,u ≠ .fe b2 ys)->b ≠ a:=fun b u e n z=>by
    rw [z,fF] at e;exact n _ _ (dj e).symm
   refine ⟨v,upd H1 a (.lst xs),os,bare,⟨fun b u e n=>un.keep b u e (no b n),fun b u e n=>un.slot b u e (no b n),fun b u e n x=>?_,un.there,fun b ys e=>?_,fun b b2 u e=>?_,fun b ps e=>?_⟩,fun b u e=>?_,bV,cS fF⟩
   .rw [aX (fun z=>by rw [z,cP] at n;cases n)];exact un.free b u e (no b n) x
   .rw [aX (ne b _ e (fun _ y=>nomatch y))];exact un.lZ b ys (keep b _ e (fun _ y=>nomatch y))
   .rw [aX (ne b _ e (fun _ y=>nomatch y))];exact un.ki b b2 u (keep b _ e (fun _ y=>nomatch y))
   .rw [aX (ne b _ e (fun _ y=>nomatch y))];exact un.mc b ps (keep b _ e (fun _ y=>nomatch y))
   .by_cases ab:b=a
    .rw [ab,aS] at e;cases dj e;rw [ab];exact (a6 a _ fF).2
    .rw [aX ab] at e;refine (a6 b u e).kG (fun _ _ _ z=>z) (fun c z=>?_) fun c ys z=>?_
     .rw [aX (ne1 c _ z (fun _ _ y=>nomatch y))];exact z
     .rw [aX (ne1 c _ z (fun _ _ y=>nomatch y))];exact z
theorem abv {P:Program} {w:World} {K:a4} {ah:Str->Option Value} {base:Heap} {k:Nat} {f:Addr} {fd:FuncData} {ps:List Str} {s1 s2:bI} (F:bt P w K ah base b7 k f fd ps s1) (G:bt P w K ah base b7 k f fd ps s2):bt P w K ah base b7 k f fd ps (fun vs H Q E=>s1 vs H Q E\/s2 vs H Q E):=
 ⟨fun vs H Q E h=>h.elim (F.len vs H Q E) (G.len vs H Q E),fun A outer s H args us vs Q E av he ab aU h=>h.elim (F.run A outer s H args us vs Q E av he ab aU) (G.run A outer s H args us vs Q E av he ab aU)⟩
theorem Ay {P:Program} {w:World} {K:a4} {ah:Str->Option Value} {base:Heap} {k:Nat} {f:Addr} {fd:FuncData} {ps:List Str} {sp:Addr->List Int->bI} (F:∀ a ns,ns.length <= 64->bt P w K ah base b7 k f fd ps (sp a ns)):bt P w K ah base b7 k f fd ps (fun vs H Q E=>∃ a ns,ns.length <= 64/\sp a ns vs H Q E):=
 ⟨fun vs H Q E ⟨a,ns,aH,h⟩=>(F a ns aH).len vs H Q E h,fun A outer s H args us vs Q E av he ab aU ⟨a,ns,aH,h⟩=>(F a ns aH).run A outer s H args us vs Q E av he ab aU h⟩
def TC:bI:=fun vs H Q _=>∃ (a:Addr) (ns:List Int) (k m:Int),ns.length <= 64/\vs=[.ref a,.int k,.int m]/\H a=some (.lst (ns.map V.int))/\aY H/\(0 <= k/\k < 1000000)/\0 < m/\Q (.int (ee ns k m)) H
def Q_:bI:=fun vs H Q _=>∃ (a:Addr) (ns:List Int),ns.length <= 64/\vs=[.ref a]/\H a=some (.lst (ns.map V.int))/\aY H/\∀ n:Int,(4 <= n/\n <= 99)->Q (.int n) H
def Uu:bI:=fun vs H Q _=>∃ (a:Addr) (ns:List Int) (m:Nat) (n:Int),ns.length <= 64/\vs=[.ref a,.int m,.int n]/\H a=some (.lst (ns.map V.int))/\aY H/\(1 <= m/\m <= 8)/\(4 <= n/\n <= 99)/\∀ p ds I,aN H I->aY I->g5 I p ds->ds.length=m->p6 n ds->Q (.ref p) I
def P':bI:=fun vs H Q _=>∃ (a:Addr) (ns:List Int) (wl:Addr) (ds:List a8),ns.length <= 64/\vs=[.ref a,.ref wl]/\H a=some (.lst (ns.map V.int))/\aY H/\g5 H wl ds/\(0 < ds.length/\ds.length <= 12) /\
 ∀ p I ws,aN H I->aY I->C4 I p ws->(0 < ws.length/\ws.length <= 5)->(∀ x ∈ ws,x.1 ∈ ds/\1 <= x.2/\x.2 <= 60)->zx ds ws->Q (.ref p) I
theorem zV {K:a4} {H:aq} {a:Addr} {ns:List Int} {o:Obj} (n:aY H):Sc K a ns (upd H a (.fe o (.lst (ns.map V.int)))):=⟨.inl ⟨o,aS⟩,n.upd⟩
theorem Sf {H I:aq} {a:Addr} {xs:List V} {o:Obj} (e:H a=some (.lst xs)) (s:aN (upd H a (.fe o (.lst xs))) I):aN H (upd I a (.lst xs)):=fun b u h=>by
 by_cases ab:b=a
 .rw [ab,aS];rw [ab,e] at h;exact h
 .rw [aX ab];exact s _ _ (by rw [aX ab];exact h)
theorem vL {I:aq} {a b:Addr} {xs:List V} {o:Obj} {u:ey} (aO:I a=some (.fe o (.lst xs))) (e:I b=some u) (n:∀ b2 ys,u ≠ .fe b2 ys):upd I a (.lst xs) b=some u:=by
 rw [aX (fun z=>by rw [z,aO] at e;exact n _ _ (dj e).symm)];exact e
theorem LP {H:aq} {a b:Addr} {xs:List V} {o:Obj} {u:ey} (aO:H a=some (.lst xs)) (e:H b=some u) (n:∀ ys,u ≠ .lst ys\/b ≠ a):upd H a (.fe o (.lst xs)) b=some u:=by
 rw [aX (fun z=>by
  rcases n xs with h | h
  .rw [z,aO] at e;exact h (dj e).symm
  .exact h z)];exact e
theorem YQ:b_ P base T 1 t.qy t.td vu TC:=by
 refine bt.hold (Ay (sp:=hq K) fun a ns h=>sq T a ns h) (fun vs H Q E h=>?_) fun vs H Q E h=>?_
 .obtain ⟨a,ns,k,m,_,rfl,_⟩:=h;rfl
 obtain ⟨a,ns,k,m,aD,rfl,aO,bc,aJ,hm,q⟩:=h;refine ⟨a,_,aO,fun o=>⟨a,ns,aD,k,m,rfl,zV bc,aJ,hm,fun _=>?_⟩⟩;rw [nk,CR aO];exact q
theorem adp:b_ P base T 2 t.qR t.su pg Q_:=by
 refine bt.hold (Ay (sp:=UG K) fun a ns h=>aje T a ns h) (fun vs H Q E h=>?_) fun vs H Q E h=>?_
 .obtain ⟨a,ns,_,rfl,_⟩:=h;rfl
 obtain ⟨a,ns,aD,rfl,aO,bc,q⟩:=h;refine ⟨a,_,aO,fun o=>⟨a,ns,aD,rfl,zV bc,fun n aH _=>?_⟩⟩;rw [nk,CR aO];exact q n aH
theorem WV {I:aq} {a p:Addr} {xs:List V} {o:Obj} {ds:List a8} (aO:I a=some (.fe o (.lst xs))) (L:g5 I p ds):g5 (upd I a (.lst xs)) p ds:=by
 obtain ⟨qs,aw,az,al⟩:=L;exact ⟨qs,vL aO aw (fun _ _ z=>nomatch z),az,fun i q d af ai=>vL aO (al i q d af ai) (fun _ _ z=>nomatch z)⟩
theorem ajv:b_ P base T 3 t.sb t.sC v8 Uu:=by
 refine bt.hold (Ay (sp:=Tp K) fun a ns h=>Vn T a ns h) (fun vs H Q E h=>?_) fun vs H Q E h=>?_
 .obtain ⟨a,ns,m,n,_,rfl,_⟩:=h;rfl
 obtain ⟨a,ns,m,n,aD,rfl,aO,bc,hm,aH,q⟩:=h;exact ⟨a,_,aO,fun o=>⟨a,ns,aD,m,n,rfl,zV bc,hm,aH,fun p ds I s S _ L ax D fF=>q p ds _ (Sf aO s) S.bc.upd (WV fF L) ax D⟩⟩
theorem Vg:b_ P base T 2 t.rA t.uq xk P':=by
 refine bt.hold (Ay (sp:=P2 K) fun a ns h=>ahs T a ns h) (fun vs H Q E h=>?_) fun vs H Q E h=>?_
 .obtain ⟨a,ns,wl,ds,_,rfl,_⟩:=h;rfl
 obtain ⟨a,ns,wl,ds,aD,rfl,aO,bc,L,hd,q⟩:=h;have cf:wl ≠ a\/ds.length=0:=by
  obtain ⟨qs,aw,az,al⟩:=L;by_cases c:wl=a
  .right;rw [c,aO] at aw;have d3:ns.map V.int=qs.map V.ref:=ey.lst.inj (dj aw);cases qs with
   | nil=>rw [<- az];rfl
   | cons q r=>
    cases ns with
    | nil=>cases d3
    | cons m d1=>cases (pe d3).1
  .exact .inl c
 have tJ:wl ≠ a:=by
  rcases cf with h | h
  .exact h
  .omega
 have afY:∀ o,g5 (upd H a (.fe o (.lst (ns.map V.int)))) wl ds:=fun o=>by
  obtain ⟨qs,aw,az,al⟩:=L;exact ⟨qs,LP aO aw (fun _=>.inr tJ),az,fun i q d af ai=>LP aO (al i q d af ai) (fun _=>.inl (fun z=>nomatch z))⟩
 refine ⟨a,_,aO,fun o=>⟨a,ns,aD,wl,ds,rfl,zV bc,afY o,hd,fun p I ws s S W af ai br fF=>q p _ ws (Sf aO s) S.bc.upd ?_ af ai br⟩⟩;obtain ⟨qs,aw,az,al⟩:=W;refine ⟨qs,vL fF aw (fun _ _ z=>nomatch z),az,fun i q x g1 g2=>?_⟩;obtain ⟨qK,f1,f2⟩:=al i q x g1 g2;exact ⟨qK,vL fF f1 (fun _ _ z=>nomatch z),vL fF f2 (fun _ _ z=>nomatch z)⟩
def Pp:bI:=fun vs H Q _=>∃ book wl us,vs=[.str book,.ref wl]/\gh H wl us/\kU us/\book.length <= 10/\aY H/\∀ I,aN H I->aY I->Q (.str (kK book us)) I
def RU:bI:=fun vs H Q _=>∃ l xs,vs=[.ref l]/\H l=some (.lst (cv xs))/\aY H/\∀ p I,aN H I->aY I->I p=some (.lst (cv (jw xs)))->Q (.ref p) I
def M0 (t:bJ):bI:=fun vs H Q _=>∃ bO bC b1 off row told text name us c n ds x,vs=[.ref bO,.str row]/\jN t H bO bC b1/\Off [bC] H off/\aY H/\u_ row told text (ag "shortest") name us/\dg b1 (.inr name)=some (.ref c)/\ff t off c n ds/\xo ds us x/\∀ I,aN H I->aY I->Q (.str x) I
theorem mD (a b:Str):(a ++ b).length=a.length + b.length:=by simp [nJ,iR]
theorem PC (p:Str->Bool):∀ xs:List Str,((xs.map fun x=>if p x=true then some (V.str x) else none).flatMap KL)=cv (xs.filter p)
 | []=>rfl
 | x :: xs=>by
  rw [dR,BJ,PC p xs];cases h:p x with
  | true=>rw [agG h];rfl
  | false=>rw [aey (by simp [h])];rfl
theorem UC {u:Str × Int} (h:made u.1 gn 8=true/\1 <= u.2/\u.2 <= 60):(kW u).length <= 17/\u.1.length <= 8/\(num u.2).length <= 8:=by
 have af:=(r3 h.1).1;have ai:=(jX (v:=u.2) (by omega) (by omega)).1;refine ⟨?_,af,ai⟩;have e:(kW u).length=u.1.length + 1 + (num u.2).length:=by
  unfold kW;show (u.1 ++ cq ++ num u.2).cps.size=_;rw [iR,iR,SA,SA];show u.1.length + cq.length + (num u.2).length=_;rw [p7]
 omega
theorem acp:b_ P base T 1 t.uk t.yx s7 Pp:=by
 exists T.sY.ok adF,9
 obtain ⟨book,wl,us,rfl,yz,ok,ab,bc,q⟩:=h;refine ⟨_,(a3 (bX (bS mr (bS mr (bS mr cx (U 0)) cx) (iS sJ Fg DY AS cx (ae (iG rfl (iP (U 1)) (gx (sc:=bG Bu) rfl (by ac_nf)) (N:=Gy) (sel:=[none,none]) (gs (M:=s7) (by ac_nf)) (fD.of (fun _ _ _ _=>(fZ (K:=K) (n:=2) rfl rfl (c0 (b6 (i:=0) (eT (N:=Gy) (by ac_nf) rfl)) (c0 (b6 (i:=1) (eT (N:=Gy) (by ac_nf) rfl)) f')))) (fun _ _ _ _=>⟨_,iz,by walk_at "B"⟩) (fun _ _ _ _=>⟨_,(bS mr (bS mr (U 0) cx) (k2 Uf rfl T.ru rh (ae (U 1) aA))),by walk_at "B"⟩))) aA))))),?_⟩;have mJ:=ok.mJ;obtain ⟨qs,cL,c_,al⟩:=id yz;have i6:∀ k:Nat,k <= 1000->k <= sizeLine:=fun k h=>b8 h (by decide)
 have jj:(ag " ").length=1:=by ac_nf
 have n3:(ag "shortest ").length=9:=by ac_nf
 have ky:∀ y ∈ us.map kW,y.length <= 17:=fun y aT=>by
  obtain ⟨u,ba,rfl⟩:=da.mp aT;exact (UC (ok.nm u ba)).1
 have i4:=rl cq 17 (us.map kW) ky;have aiG:=Ho ky;rw [bb] at i4 aiG;rw [p7] at i4;nofun;refine ⟨i6 _ (by rw [n3];omega),i6 _ (by rw [mD,n3,jj];omega),⟨_,aW.of cL⟩,?_⟩;refine cY.As (xs:=qs.map V.ref) (zs:=cv (us.map kW)) (aW.of cL) (i6 _ (by rw [bb,c_];omega)) (by rw [qb,bb,bb,c_]) (fun i v z N aU aD bx=>?_) (fun p ao=>?_)
 .obtain ⟨cS,aB,rfl⟩:=eU aU;obtain ⟨y,aT,rfl⟩:=eU aD;obtain ⟨u,ba,rfl⟩:=eU aT;obtain ⟨g1,g2,g3⟩:=UC (ok.nm u (d4 ba));obtain ⟨_,bH,bQ⟩:=ok.nm u (d4 ba);refine ox (bY.of (al i cS u aB ba)) ?_;nofun;have akP:(ag (toString u.2)).length <= 8:=g3;refine ⟨Sub.r2,i6 _ (by rw [jj];omega),FQ (by omega),i6 _ (by rw [mD,jj];omega),?_⟩;exact bx
 .refine ⟨p,rfl,us.map kW,aW.of aS,by rw [bb,jj];omega,i6 _ ?_,?_⟩
  .rw [mD,mD,n3,jj];rw [show uM (ag " ") (us.map kW)=dy cq (us.map kW) from CN _ _];omega
  .rw [show uM (ag " ") (us.map kW)=dy cq (us.map kW) from CN _ _];exact q _ (a0 ao) bc.upd
theorem Vq:b_ P base T 1 t.tP t.vO y2 RU:=by
 exists T.EE.ok Ms,9
 obtain ⟨l,xs,rfl,ax,bc,q⟩:=h;refine ⟨_,(aM (bL (i:=1) Ms.aC (gO (ae cx (ae cx (ae cx (ae cx (ae cx (ae cx (ae cx (ae cx aA))))))))))
   (a3 (bX (iG rfl (iP (U 1)) (gx (sc:=bG CC) rfl (by ac_nf)) (N:=["_law_word","_law_names_here"]) (sel:=[none,some 0]) (gs (M:=["_law_names_here","_law_some"]) (by ac_nf)) (fD.of (fun _ _ _ _=>(b6 (i:=0) (eT (N:=["_law_word","_law_names_here"]) (by ac_nf) rfl))) (fun _ _ _ _=>⟨_,(sF (cU AU (U 0) (U 1) (by with_unfolding_all rfl))),by walk_at "B"⟩) (fun _ _ _ _=>⟨_,(U 0),by walk_at "B"⟩)))))),?_⟩
 nofun;refine ⟨by decide,fun p ao=>⟨⟨_,aW.of aS⟩,?_⟩⟩;have s1:aN H (upd H p (.lst (cv pM))):=a0 ao;refine cY.Nq (xs:=cv pM) (ss:=pM.map fun x=>if decide (x ∉ xs)=true then some (V.str x) else none) (aW.of aS) (by decide) rfl (fun i v o ys N aU aZ bx=>?_) (fun r av=>?_)
 .obtain ⟨y,aT,rfl⟩:=eU aU;obtain ⟨Xk,Af,rfl⟩:=eU aZ;rw [aT] at Af;cases Af;nofun;refine ⟨Sub.name,_,.inl (aW.of (s1 _ _ ax)),rfl,xI _,?_⟩;rw [sT];by_cases c:y ∈ xs
  .rw [if_neg (by simpa using c)] at bx;rw [decide_eq_true c,if_neg (by decide)];simpa using bx
  .rw [if_pos (by simpa using c)] at bx;rw [decide_eq_false c,if_pos (by decide)];exact bx
 .rw [PC];exact q r _ (s1.trans (a0 av)) (bc.upd).upd aS
theorem ada:b_ P base T 18 t.uL t.xG Az (M0 t):=by
 have VM:bt P w K ah base (hr P w) 17 t.nT t.qu uG (Ng t):=Y5 T;exists T.FL.ok Bh,9
 obtain ⟨bO,bC,b1,off,row,told,text,name,us,c,n,ds,x,rfl,kN,aZ,bc,R,aU,C,n6,q⟩:=h;have ba:=gF av;obtain ⟨⟨au,db,d6,fB⟩,cP⟩:=id kN;refine ⟨_,(aM (bL (i:=2) Bh.aC cx)
   (aM (aen (i:=3) (fun _ _=>⟨_,(a3 (fO (ab9 (U 0) T.lO T.ux VM av T.va .nil akv (ae (U 1) aA)))),by first | rfl | (dsimp only [aP.h5,aP.aH];done) | (dsimp only [aP.h5,aP.aH];exact rfl)⟩) rfl T.R0 (fun _=>⟨_,(a3 (bL (i:=2) Bh.aC (aiV (U 3) rfl))),by first | rfl | (dsimp only [aP.h5,aP.aH];done) | (dsimp only [aP.h5,aP.aH];exact rfl)⟩) Bh.aC rfl rfl)
   (a3 (bX (U 2))))),?_⟩
 nofun;refine ⟨_,_,fB,l4 oO (pG ..) (by ac_nf),bO,bC,b1,off,row,told,text,name,us,c,n,ds,x,rfl,kN,aZ,bc,R,aU,C,n6,fun aln I ck akr hd=>?_⟩;nofun;refine ⟨_,rfl,T.Vk,fun e he=>?_⟩;nofun;exact ⟨_,_,he,_,hd,T.B',T.Nj,_,rfl,q I ck (akr bc)⟩
noncomputable def ins {α:Type} (l:List α) (i:Nat) (a:α):List α:=l.take i ++ a :: l.drop i
theorem xF {α:Type} {l:List α} {i:Nat} {a:α} (aj:i <= l.length) (j:Nat):(ins l i a)[j]? = if j < i then l[j]? else if j=i then some a else l[j - 1]?:=by
 unfold ins;have cR:(l.take i).length=i:=by rw [eX];omega
 by_cases af:j < i
 .rw [if_pos af,kq (by omega),oK af]
 .rw [if_neg af,kd (by omega),cR];by_cases ai:j=i
  .subst ai;rw [if_pos rfl];simp
  .rw [if_neg ai];obtain ⟨k,rfl⟩:=Nat.exists_eq_add_of_lt (Nat.lt_of_le_of_ne (ahw af) (c7 ai));rw [Nat.add_assoc,Nat.add_sub_cancel_left,AH,List.getElem?_drop];rfl
theorem Se {α:Type} {l:List α} {i:Nat} {a:α} (aj:i <= l.length):(ins l i a).length=l.length + 1:=by
 unfold ins;rw [dq,dr,eX,tV];omega
theorem aiu {α β:Type} (f:α->β) (l:List α) (i:Nat) (a:α):(ins l i a).map f=ins (l.map f) i (f a):=by
 unfold ins;rw [eD,dR,Dj,Xj]
theorem S0 {book:Str} {us:List (Str × Int)} (ab:made book gn 8=true) (ok:kU us):u_ (kK book us) (kK book us) (ag "") (ag "shortest") book us:=by
 have cf:us ≠ []:=fun z=>by have:=ok.e';rw [z] at this;exact absurd this (by decide)
 have ao:∀ y ∈ ag "shortest" :: book :: j6 us,mq y:=fun y aT=>by
  rcases cX.mp aT with e | e
  .rw [e];exact ⟨by ac_nf,by ac_nf,by ac_nf⟩
  .rcases cX.mp e with e | e
   .rw [e];exact r3 ab
   .exact abk ok y e
 obtain ⟨a,b⟩:=US (by simp) ao;have ax:=rl cq 8 (ag "shortest" :: book :: j6 us) fun y aT=>(ao y aT).1
 rw [p7,dr,dr,Fy] at ax;have mJ:=ok.mJ;rw [<- Y8 cf] at a b ax;refine ⟨?_,by omega,by omega,b,a,.inr ⟨rfl,ok⟩,ab⟩;rw [decide_eq_false (by ac_nf)];exact ⟨rfl,rfl⟩
noncomputable def AF (book text:Str):Str:=ag "crossing " ++ book ++ nl ++ text
theorem afW {book text:Str} (ab:made book gn 8=true) (aD:text.length <= 19000):u_ (AF book text) (dy cq [ag "crossing",book]) text (ag "crossing") book []:=by
 have ao:∀ y ∈ [ag "crossing",book],mq y:=fun y aT=>by
  rcases cX.mp aT with e | e
  .rw [e];exact ⟨by ac_nf,by ac_nf,by ac_nf⟩
  .rw [fQ.mp e];exact r3 ab
 obtain ⟨a,b⟩:=US (by simp) ao;have e:ag "crossing " ++ book=dy cq [ag "crossing",book]:=by
  apply uc;have aw:(ag "crossing ").cps.toList=(ag "crossing").cps.toList ++ [32]:=by ac_nf
  rw [pX,oX];simp only [iR,j7,dR,mb,gL,aw,tZ,kn,JV]
 have akW:=(r3 ab).1;have ar:(ag "crossing ").length=9:=by ac_nf
 have bf:(dy cq [ag "crossing",book]).length <= 17:=by rw [<- e,mD,ar];omega
 refine ⟨?_,?_,by omega,b,a,.inl ⟨rfl,rfl⟩,ab⟩
 .rw [decide_eq_true (by ac_nf)];show AF book text=_;unfold AF;rw [e]
 .unfold AF;rw [mD,mD,mD,ar,nY];omega
theorem aks {n:Int} {ds:List a8} {ws:List (a8 × Int)} (hd:(ds.map (·.name)).Nodup) (h:zx ds ws):(ws.map fun p=>p.1.name).Nodup:=by
 obtain ⟨ax,gM,ak⟩:=h;refine afK.mpr fun i j qq qc pz e=>?_
 rw [sW,sW] at e;rw [bb] at qq qc;have aj:ws[i]? = some ws[i]:=cJ qq;have rJ:ws[j]? = some ws[j]:=cJ qc;have cy:ws[i].1.name=ws[j].1.name:=e;have g1:=ak i _ aj;have g2:=ak j _ rJ;have iq:(0:Int) < (ds.length:Int):=by omega
 have hc:=pd (gM + (i:Int)) (show (ds.length:Int) ≠ 0 by omega);have dM:=pd (gM + (j:Int)) (show (ds.length:Int) ≠ 0 by omega);have bF:(ds.map (·.name))[((gM + (i:Int)) % (ds.length:Int)).toNat]? = some ws[i].1.name:=by rw [ec,g1];rfl
 have cA:(ds.map (·.name))[((gM + (j:Int)) % (ds.length:Int)).toNat]? = some ws[i].1.name:=by rw [ec,g2,cy];rfl
 have eV:=(Ma (by have:=(cV.mp bF).1;exact this) hd).mp (bF.trans cA.symm);have lX:(gM + (i:Int)) % (ds.length:Int)=(gM + (j:Int)) % (ds.length:Int):=by omega
 have yB:=Int.emod_emod_of_dvd ((gM + (j:Int)) - (gM + (i:Int))) (Int.dvd_refl (ds.length:Int));have px:((gM + (j:Int)) - (gM + (i:Int))) % (ds.length:Int)=0:=by rw [PA,lX,Ry,M7]
 rw [show (gM + (j:Int)) - (gM + (i:Int))=((j - i:Nat):Int) by omega] at px;rw [pL (by omega) (by omega)] at px;omega
noncomputable def eN (ws:List (a8 × Int)):List (Str × Int):=ws.map fun p=>(p.1.name,p.2)
theorem adY {n:Int} {ds:List a8} {ws:List (a8 × Int)} (D:p6 n ds) (af:0 < ws.length/\ws.length <= 5) (ak:∀ x ∈ ws,x.1 ∈ ds/\1 <= x.2/\x.2 <= 60) (aH:(ws.map fun p=>p.1.name).Nodup):kU (eN ws):=by
 refine ⟨by unfold eN;rw [bb];omega,by unfold eN;rw [bb];omega,fun u ba=>?_,by unfold eN;rw [jC];exact aH⟩;obtain ⟨p,ao,rfl⟩:=da.mp ba;exact ⟨(D.al _ (ak p ao).1).1.nm,(ak p ao).2.1,(ak p ao).2.2⟩
theorem aiw (aE:List (Key × V)) (k:Key) (v:V):(fs aE k v).length <= aE.length + 1:=by
 unfold fs;split
 .rw [bb];omega
 .rw [dq];simp
theorem agC {n:Int} {ds:List a8} (h:mv n ds):(f5 n ds).length <= 19000:=by
 have af:=rl nl 63 ((gu n ds).map (dy cq)) (LJ h);have ai:((gu n ds).map (dy cq)).length <= 13:=by
  rw [bb];unfold gu;rw [dr,bb];have:=h.ln;omega
 rw [nY] at af;unfold f5;omega
theorem Off.set {D:List Addr} {H off:aq} {b:Addr} {o:ey} (h:Off D H off) (ab:off b=none) (hd:b ∉ D):Off D (upd H b o) off:=
 ⟨fun c u e=>by rw [aX (Db e ab)];exact h.ck c u e,h.no,fun c ar=>by
  have cf:c ≠ b:=fun z=>hd (by rw [<- z];exact ar)
  rw [aX cf];exact h.bO c ar⟩
structure sH (n:Int) (ds:List a8) (ws:List (a8 × Int)):Prop where
 Lh:0 < n
 dv:1 <= ds.length
 ek:∀ q ∈ ws,∃ i:Nat,ds[i]? = some q.1
 cj:jf n ws
 BS:kU (eN ws)
noncomputable def ej (same:Bool) (j:Nat):Str:=if j=0 then ag "one" else if same=true then ag "one" else ag "other"
theorem C3 (same:Bool) (j:Nat):made (ej same j) gn 8=true/\(ej same j).length <= 10:=by
 unfold ej;split
 .exact ⟨by ac_nf,by ac_nf⟩
 .split
  .exact ⟨by ac_nf,by ac_nf⟩
  .exact ⟨by ac_nf,by ac_nf⟩
def P1 (t:bJ) (b1:List (Key × V)) (off:aq) (book:Str) (ws:List (a8 × Int)) (z:Int):Prop:=∃ n ds c,dg b1 (.inr book)=some (.ref c)/\ff t off c n ds/\sH n ds ws/\Os (ac n ws) z
def acs (t:bJ) (H:aq) (b1:List (Key × V)) (off:aq) (book:Str) (live:Prop) (q:Addr):Prop:=∃ ws z,H q=some (.tup [.str (kK book (eN ws)),.str (num z)])/\(live->P1 t b1 off book ws z)
structure gT (t:bJ) (K:a4) (a:Addr) (ns:List Int) (bO bC b':Addr) (same:Bool) (i m:Nat) (live:Nat->Prop) (H:aq) (b1:List (Key × V)) (off:aq):Prop where
 sc:Sc K a ns H
 kk:jN t H bO bC b1
 ja:Off [bC] H off
 ln:b1.length <= m
 wR:off b'=none
 w9:b' ≠ bC
 bh:∃ qs:List Addr,H b'=some (.lst (qs.map V.ref))/\qs.length=i/\∀ (j:Nat) (q:Addr),qs[j]? = some q->acs t H b1 off (ej same j) (live j) q
theorem gT.same {t:bJ} {K:a4} {a:Addr} {ns:List Int} {bO bC b':Addr} {same:Bool} {i m:Nat} {live:Nat->Prop} {H I:aq} {b1:List (Key × V)} {off:aq} (h:gT t K a ns bO bC b' same i m live H b1 off) (s:aN H I) (n:aY I):gT t K a ns bO bC b' same i m live I b1 off:=by
 obtain ⟨qs,aw,az,al⟩:=h.bh;refine ⟨h.sc.same s n,h.kk.same s,h.ja.same s,h.ln,h.wR,h.w9,qs,s _ _ aw,az,fun j q aB=>?_⟩;obtain ⟨ws,z,g1,g2⟩:=al j q aB;exact ⟨ws,z,s _ _ g1,g2⟩
theorem gT.set {t:bJ} {K:a4} {a:Addr} {ns:List Int} {bO bC b':Addr} {same:Bool} {i m:Nat} {live:Nat->Prop} {H:aq} {b1:List (Key × V)} {off:aq} {b:Addr} {xs ys:List V} (h:gT t K a ns bO bC b' same i m live H b1 off) (ab:H b=some (.lst xs)) (aZ:off b=none) (aJ:b ≠ b'):gT t K a ns bO bC b' same i m live (upd H b (.lst ys)) b1 off:=by
 obtain ⟨qs,aw,az,al⟩:=h.bh;obtain ⟨⟨au,db,d6,fB⟩,cP⟩:=h.kk;refine ⟨h.sc.set ab (fun _ _ z=>nomatch z),⟨⟨au,db,d6,by rw [aX (fb fB ab (fun z=>nomatch z))];exact fB⟩,by rw [aX (fb cP ab (fun z=>nomatch z))];exact cP⟩,h.ja.set aZ (fun z=>?_),h.ln,h.wR,h.w9,qs,by rw [aX (c7 aJ)];exact aw,az,fun j q aB=>?_⟩
 .rw [fQ.mp z,cP] at ab;cases ab
 .obtain ⟨ws,z,g1,g2⟩:=al j q aB;exact ⟨ws,z,by rw [aX (fb g1 ab (fun z=>nomatch z))];exact g1,g2⟩
theorem gT.told {t:bJ} {K:a4} {a:Addr} {ns:List Int} {bO bC b' c:Addr} {same:Bool} {i:Nat} {H I:aq} {b1:List (Key × V)} {off fJ:aq} (h:gT t K a ns bO bC b' same i i (fun j=>same=false\/j + 1=i) H b1 off) (aj:i <= 1) (cM:Off [bC] I fJ) (O0:aN (fH [bC] H) fJ) (h1:aY I) (d':jN t I bO bC (fs b1 (.inr (ej same i)) (.ref c))):gT t K a ns bO bC b' same i (i + 1) (fun j=>same=false) I (fs b1 (.inr (ej same i)) (.ref c)) (fH [b'] fJ):=by
 obtain ⟨qs,aw,az,al⟩:=h.bh;have up:∀ {b:Addr} {u:ey},H b=some u->(∀ aE,u ≠ .dN aE)->I b=some u:=fun {b u} e n=>cM.ck _ _ (O0 _ _ (by
  rw [j4 (fun hm=>by rw [fQ.mp hm,h.kk.aO] at e;exact n _ (dj e).symm)];exact e))
 refine ⟨⟨?_,h1⟩,d',⟨yO.trans cM.ck,fun b ab=>tw (cM.no b ab),cM.bO⟩,by have:=aiw b1 (.inr (ej same i)) (.ref c);have:=h.ln;omega,r1 (by simp),h.w9,qs,up aw (fun _ z=>nomatch z),az,fun j q aB=>?_⟩
 .rcases h.sc.x8 with ⟨b2,e⟩ | e
  .exact .inl ⟨b2,up e (fun _ z=>nomatch z)⟩
  .exact .inr e
 .obtain ⟨ws,z,g1,g2⟩:=al j q aB;refine ⟨ws,z,up g1 (fun _ z=>nomatch z),fun aG=>?_⟩;obtain ⟨n,ds,dT,g3,ke,TK,KW⟩:=g2 (.inl aG);have So:j < i:=by rw [<- az];exact (cV.mp aB).1
  refine ⟨n,ds,dT,?_,?_,TK,KW⟩
  .rw [QN,if_neg]
   .exact g3
   .intro z;have dk:ej same j=ej same i:=AI z;rw [aG,show j=0 by omega,show i=1 by omega] at dk;exact absurd dk (by ac_nf)
  .have acj:ff t (fH [b'] off) dT n ds:=by
    rw [show fH [b'] off=off from funext fun b=>by
     by_cases ab:b=b'
     .rw [ab,r1 (by simp),h.wR]
     .rw [j4 (by simpa using ab)]]
    exact ke
   refine acj.same fun b u e=>?_
   by_cases ab:b=b'
   .rw [ab,r1 (by simp)] at e;cases e
   .rw [j4 (by simpa using ab)] at e ⊢;exact O0 _ _ (h.ja.lJ _ _ e)
theorem aha {t:bJ} {H off:aq} {c b':Addr} {n:Int} {ds:List a8} {qs:List Addr} (C:ff t off c n ds) (s:aN off H) (dv:1 <= ds.length) (e:H b'=some (.lst (qs.map V.ref))) (al:∀ q ∈ qs,∃ xs,H q=some (.tup xs)):ff t (fH [b'] off) c n ds:=by
 obtain ⟨h0,au,wl,aC,aw,⟨as,cL,c_,gR⟩,bW⟩:=C;have out:∀ {b:Addr} {u:ey},off b=some u->b ≠ b'->fH [b'] off b=some u:=fun {b u} g n=>by rw [j4 (by simpa using n)];exact g
 have ne:∀ {b:Addr} {u:ey},off b=some u->(∀ ys,u ≠ .lst ys)->b ≠ b':=fun {b u} g n z=>by
  have:=s _ _ g;rw [z,e] at this;exact n _ (dj this).symm
 have eR:wl ≠ b':=fun z=>by
  have g:=s _ _ cL;rw [z,e] at g;have g2:qs.map V.ref=as.map V.ref:=ey.lst.inj (dj g);obtain ⟨uz,r,cP⟩:∃ uz r,as=uz :: r:=by
   cases as with
   | nil=>rw [<- c_] at dv;exact absurd dv (by decide)
   | cons uz r=>exact ⟨uz,r,rfl⟩
  rw [cP] at g2 c_;have IS:ds[0]? = some (ds[0]'(by omega)):=cJ (by omega);obtain ⟨_,qa,oN⟩:=gR 0 uz _ (by rw [cP];rfl) IS;cases qs with
  | nil=>cases g2
  | cons q d1=>
   have eq:q=uz:=V.ref.inj (pe g2).1;obtain ⟨xs,ex⟩:=al q (by simp);rw [eq,s _ _ oN] at ex;cases ex
 refine ⟨h0,au,wl,aC,out aw (ne aw (fun _ z=>nomatch z)),⟨as,out cL eR,c_,fun i b d g1 g2=>?_⟩,out bW (ne bW (fun _ z=>nomatch z))⟩;obtain ⟨b1,qa,oN⟩:=gR i b d g1 g2;exact ⟨b1,qa,out oN (ne oN (fun _ z=>nomatch z))⟩
theorem Off.nil {H:aq}:Off [] H H:=⟨aN.refl H,fun _ h=>absurd h (by simp),fun _ h=>absurd h (by simp)⟩
theorem Bv {t:bJ} {K:a4} {a:Addr} {ns:List Int} {bO bC b' c:Addr} {same:Bool} {i m:Nat} {live:Nat->Prop} {H:aq} {b1:List (Key × V)} {off:aq} (h:gT t K a ns bO bC b' same i m live H b1 off) {book:Str} (bm:made book gn 8=true) {n:Int} {ds:List a8} {ws:List (a8 × Int)} (aU:dg b1 (.inr book)=some (.ref c)) (X:ff t off c n ds) (ask:sH n ds ws) {Q:cc} {E:cZ} (q:∀ z I,aN H I->aY I->Os (ac n ws) z->Q (.str (num z)) I):Ig t [.ref bO,.str (kK book (eN ws))] H Q E:=
 ⟨bO,bC,b1,off,_,_,_,_,book,eN ws,rfl,h.kk,h.ja,h.sc.bc,S0 bm ask.BS,.inr ⟨rfl,c,n,ds,ws,aU,X,ask.Lh,rfl,ask.ek,ask.cj,q⟩⟩
theorem Xr {H:aq} {bC wl:Addr} {aE:List (Key × V)} {ds:List a8} (L:g5 H wl ds) (e:H bC=some (.dN aE)):g5 (fH [bC] H) wl ds:=by
 have out:∀ {b:Addr} {u:ey},H b=some u->(∀ k,u ≠ .dN k)->fH [bC] H b=some u:=fun {b u} g n=>by
  rw [j4 (fun hm=>by rw [fQ.mp hm,e] at g;exact n _ (dj g).symm)];exact g
 obtain ⟨qs,aw,az,al⟩:=L;exact ⟨qs,out aw (fun _ z=>nomatch z),az,fun i q d af ai=>out (al i q d af ai) (fun _ z=>nomatch z)⟩
theorem acT {H:aq} {bC l:Addr} {aE:List (Key × V)} {us:List (Str × Int)} (L:gh H l us) (e:H bC=some (.dN aE)):gh (fH [bC] H) l us:=by
 have out:∀ {b:Addr} {u:ey},H b=some u->(∀ k,u ≠ .dN k)->fH [bC] H b=some u:=fun {b u} g n=>by
  rw [j4 (fun hm=>by rw [fQ.mp hm,e] at g;exact n _ (dj g).symm)];exact g
 obtain ⟨qs,aw,az,al⟩:=L;exact ⟨qs,out aw (fun _ z=>nomatch z),az,fun i q d af ai=>out (al i q d af ai) (fun _ z=>nomatch z)⟩
theorem ajc {n:Int} {ds:List a8} {p:a8 × Int} {ps:List (a8 × Int)} (h:sH n ds (p :: ps)):sH n ds (ps ++ [p]):=by
 have hm:∀ x,x ∈ ps ++ [p]->x ∈ p :: ps:=fun x ak=>by
  rcases hB.mp ak with z | z
  .exact fk _ z
  .rw [fQ.mp z];exact hH ..
 have ax:(ps ++ [p]).length=(p :: ps).length:=by rw [dq,dr];rfl
 have ao:(ps ++ [p]).Perm (p :: ps):=List.perm_append_singleton p ps;obtain ⟨b1,iw,jh,BC⟩:=h.BS;have ba:(eN (ps ++ [p])).length=(eN (p :: ps)).length:=by unfold eN;rw [bb,bb,ax]
 refine ⟨h.Lh,h.dv,fun x ak=>h.ek x (hm x ak),⟨fun x ak=>h.cj.1 x (hm x ak),by rw [ax];exact h.cj.2.1,by simp⟩,⟨by omega,by omega,fun u ak=>?_,?_⟩⟩
 .obtain ⟨x,k4,rfl⟩:=da.mp ak;exact jh _ (da.mpr ⟨x,hm x k4,rfl⟩)
 .unfold eN at BC ⊢;exact ((ao.map _).map _).nodup_iff.mpr BC
theorem U5 (x:V) (r:List V):hk (x :: r) (some 1) none=r:=by
 unfold hk;rw [show ea.cC (x :: r).length (x :: r).length none=(x :: r).length from rfl,show ea.cC (x :: r).length 0 (some 1)=min 1 (x :: r).length from ea.JS _ _ 1,agM (by rw [dr];omega)];simp
theorem XI (x:V) (r:List V):hk (x :: r) none (some 1)=[x]:=by
 unfold hk;rw [show ea.cC (x :: r).length 0 none=0 from rfl,show ea.cC (x :: r).length (x :: r).length (some 1)=min 1 (x :: r).length from ea.JS _ _ 1,agM (by rw [dr];omega)];simp
theorem aam {α:Type} (f:α->V) (xs:List α):hk (xs.map f) none (some 3)=(xs.take 3).map f:=by
 unfold hk;rw [show ea.cC (xs.map f).length 0 none=0 from rfl,show ea.cC (xs.map f).length (xs.map f).length (some 3)=min 3 (xs.map f).length from ea.JS _ _ 3,abn,ahI,Dj];rw [Nat.min_def];split
 .rfl
 .rw [jg,xY (by omega)]
structure nz (ds:List a8) (k:Nat) (us:List (Str × Int)):Prop where
 e':1 <= us.length
 nP:us.length <= 3 + k
 nm:∀ u ∈ us,made u.1 gn 8=true/\1 <= u.2/\u.2 <= 60
 aC:(us.map (·.1)).Nodup
 Jh:∀ u ∈ us,u.1 ∈ ds.map (·.name)\/∃ j,j < k/\(jw (ds.map (·.name)))[j]? = some u.1
 st:0 < k->∃ u ∈ us,u.1 ∈ jw (ds.map (·.name))
theorem nz.put {ds:List a8} {k:Nat} {us:List (Str × Int)} (h:nz ds k us) {y:Str} (aT:(jw (ds.map (·.name)))[k]? = some y) (i:Nat):nz ds (k + 1) (us.take i ++ (y,5) :: us.drop i):=by
 have D6:=d4 aT;have ao:(us.take i ++ (y,(5:Int)) :: us.drop i).Perm ((y,5) :: us):=by
  have:=List.perm_middle (l₁:=us.take i) (l₂:=us.drop i) (a:=(y,(5:Int)));rwa [Zs] at this
 have Bd:∀ u ∈ us.take i ++ (y,(5:Int)) :: us.drop i,u=(y,5)\/u ∈ us:=fun u ba=>cX.mp (ao.mem_iff.mp ba)
 have aa0:y ∉ us.map (·.1):=fun hm=>by
  obtain ⟨u,ba,e⟩:=da.mp hm;rcases h.Jh u ba with z | ⟨j,bf,z⟩
  .rw [e] at z;exact (D1 D6).2 z
  .rw [e] at z;have:=(Ma (cV.mp z).1 (abe _)).mp (z.trans aT.symm);omega
 refine ⟨by rw [ao.length_eq,dr];omega,by rw [ao.length_eq,dr];have:=h.nP;omega,fun u ba=>?_,?_,fun u ba=>?_,fun _=>⟨(y,5),ao.mem_iff.mpr (hH ..),D6⟩⟩
 .rcases Bd u ba with z | z
  .rw [z];exact ⟨(D1 D6).1,(show (1:Int) <= 5 by decide),(show (5:Int) <= 60 by decide)⟩
  .exact h.nm u z
 .rw [(ao.map _).nodup_iff,dR,iM];exact ⟨aa0,h.aC⟩
 .rcases Bd u ba with z | z
  .rw [z];exact .inr ⟨k,by omega,aT⟩
  .rcases h.Jh u z with z | ⟨j,bf,z⟩
   .exact .inl z
   .exact .inr ⟨j,by omega,z⟩
theorem nz.first {ds:List a8} {us:List (Str × Int)} (h:nz ds 2 us):∃ x,xo ds us x/\∃ r,(us.filterMap fun u=>if decide (u.1 ∈ jw (ds.map (·.name)))=true then some u.1 else none)=x :: r:=by
 obtain ⟨fm,x,v,h7,aw,az,bW,r,fu⟩:=Ll (h.st (by decide));refine ⟨x,⟨⟨fm,v,h7,aw,fun u ba=>?_⟩,fun d hd z=>(D1 bW).2 (da.mpr ⟨d,hd,z⟩)⟩,r,fu⟩;rcases h.Jh u (by rw [aw];exact sM _ ba) with z | ⟨j,_,z⟩
 .exact z
 .exact absurd (d4 z) (az u ba)
theorem nz.ok {ds:List a8} {us:List (Str × Int)} (h:nz ds 2 us):kU us:=⟨h.e',by have:=h.nP;omega,h.nm,h.aC⟩
theorem KK {n:Int} {ds:List a8} {ws:List (a8 × Int)} (h:sH n ds ws):nz ds 0 ((eN ws).take 3):=by
 obtain ⟨b1,iw,jh,BC⟩:=h.BS;refine ⟨by rw [eX];omega,by rw [eX];omega,fun u ba=>jh u (wt ba),?_,fun u ba=>.inl ?_,fun z=>absurd z (by decide)⟩
 .rw [Dj];exact BC.sublist (abP _ _)
 .obtain ⟨p,ao,rfl⟩:=da.mp (wt ba);obtain ⟨j,bf⟩:=h.ek p ao;exact da.mpr ⟨_,d4 bf,rfl⟩
theorem N4 (c:Str × Int->Bool):∀ us:List (Str × Int),((us.map fun u=>if c u=true then some (V.str u.1) else none).flatMap KL)=cv (us.filterMap fun u=>if c u=true then some u.1 else none)
 | []=>rfl
 | u :: us=>by
  rw [dR,BJ,N4 c us,qT];cases h:c u with
  | true=>rfl
  | false=>rfl
theorem Tz:∀ {xs ys:List Addr},xs.map V.ref=ys.map V.ref->xs=ys
 | [],[],_=>rfl
 | [],_ :: _,h=>nomatch h
 | _ :: _,[],h=>nomatch h
 | x :: xs,y :: ys,h=>by
  obtain ⟨af,ai⟩:=pe h;rw [V.ref.inj af,Tz ai]
theorem gT.add {t:bJ} {K:a4} {a:Addr} {ns:List Int} {bO bC b' p:Addr} {same:Bool} {i:Nat} {H:aq} {b1:List (Key × V)} {off:aq} {ws:List (a8 × Int)} {z:Int} {wH:List Addr} (h:gT t K a ns bO bC b' same i (i + 1) (fun _=>same=false) H b1 off) (ao:H p=none) (aB:H b'=some (.lst (wH.map V.ref))) (L:P1 t b1 off (ej same i) ws z):gT t K a ns bO bC b' same (i + 1) (i + 1) (fun j=>same=false\/j + 1=i + 1) (upd (upd H p (.tup [.str (kK (ej same i) (eN ws)),.str (num z)])) b' (.lst (wH.map V.ref ++ [V.ref p]))) b1 off:=by
 have af:=h.same (a0 (o:=.tup [.str (kK (ej same i) (eN ws)),.str (num z)]) ao) h.sc.bc.upd;have dc:upd H p (.tup [.str (kK (ej same i) (eN ws)),.str (num z)]) p=some (.tup [.str (kK (ej same i) (eN ws)),.str (num z)]):=aS;have qp:=a0 (o:=.tup [.str (kK (ej same i) (eN ws)),.str (num z)]) ao _ _ aB;generalize upd H p (.tup [.str (kK (ej same i) (eN ws)),.str (num z)])=H1 at af dc qp ⊢;obtain ⟨qs,aw,az,al⟩:=af.bh;have eq:qs=wH:=by
  rw [qp] at aw;have bW:wH.map V.ref=qs.map V.ref:=ey.lst.inj (dj aw);exact (Tz bW).symm
 subst eq;obtain ⟨⟨au,db,d6,fB⟩,cP⟩:=af.kk;have keep:∀ {b:Addr} {xs ys:List V},H1 b=some (.tup xs)->upd H1 b' (.lst ys) b=some (.tup xs):=fun {b xs ys} e=>by rw [aX (fb e qp (fun z=>nomatch z))];exact e
 refine ⟨af.sc.set qp (fun _ _ z=>nomatch z),⟨⟨au,db,d6,by rw [aX (fb fB qp (fun z=>nomatch z))];exact fB⟩,by rw [aX (fb cP qp (fun z=>nomatch z))];exact cP⟩,af.ja.set af.wR (fun z=>af.w9 (fQ.mp z)),af.ln,af.wR,af.w9,qs ++ [p],by rw [aS,eD];rfl,by rw [dq,az];rfl,fun j q bf=>?_⟩;rcases jY bf with ⟨g1,g2⟩ | ⟨g1,g2⟩
 .obtain ⟨om,dk,f1,f2⟩:=al j q g2;exact ⟨om,dk,keep f1,fun ax=>f2 (ax.elim id (fun z=>absurd z (by omega)))⟩
 .subst g2;rw [g1,az];exact ⟨ws,z,keep dc,fun _=>L⟩
theorem Y2:b_ P base T 19 t.xb t.tb pg (Q4 K):=by
 exists T.ab1.ok jl,9
 obtain ⟨a,ns,rfl,RI,k0,q⟩:=h;have alL:=aez av;have ba:=gF av;have eJ:bt P w K ah base b7 18 t.qy t.td vu (fun vs H Q E=>hq K a ns vs H Q E\/TC vs H Q E):=(abv (sq T a ns (by omega)) (YQ T)).mono (by decide);have aa2:bt P w K ah base b7 18 t.qR t.su pg Q_:=(adp T).mono (by decide);have afC:bt P w K ah base b7 18 t.sb t.sC v8 Uu:=(ajv T).mono (by decide);have acq:bt P w K ah base b7 18 t.sz t.xP zO (Q9 K):=(abB T).mono (by decide);have afP:bt P w K ah base b7 18 t.rA t.uq xk P':=(Vg T).mono (by decide);have W_:bt P w K ah base b7 17 t.rm t.yQ ["self"] (LH t):=(ahR T).mono (by decide);have ye:bt P w K ah base b7 18 t.nT t.qu uG (Ig t):=(Vv T).mono (by decide);have Ed:bt P w K ah base b7 18 t.sf t.sI ["text"] (Pr t):=(GM T).mono (by decide);have Hi:bt P w K ah base b7 18 t.p8 t.rj lW (S5 t):=(QC T).mono (by decide);have AX:bt P w K ah base b7 18 t.uk t.yx s7 Pp:=(acp T).mono (by decide);have ab_:bt P w K ah base b7 18 t.tP t.vO y2 RU:=(Vq T).mono (by decide);have W9:bt P w K ah base b7 18 t.uL t.xG Az (M0 t):=ada T;refine ⟨_,(aM (bL (i:=1) jl.aC (sK T.aeL W_ av rfl T.Vu T.afH .nil cT))
   (aM (bL (i:=2) jl.aC (iH fw (bK eJ av T.fl T.e8.bh T.fq (ae (U 0) (ae aR (ae aR aA)))) aR (lc _)))
   (aM (bL (i:=3) jl.aC (gO aA))
   (aM (ho hl rfl (mV rfl T.lL (ae aR aA)) (b6 (i:=4) jl.aC) (aM (bL (i:=5) jl.aC (bS FU (od vJ (U 0) (mX (U 4)) pq) (gO (ae (bS dJ aR (U 4)) aA))))
   (aM (bL (i:=6) jl.aC (bK aa2 av T.aej T.GF.bh T.adZ (ae (U 5) aA)))
   (aM (bL (i:=7) jl.aC (bK afC av T.agF T.JL.bh T.VR (ae (U 5) (ae (bS dJ aR (bK eJ av T.fl T.e8.bh T.fq (ae (U 5) (ae aR (ae aR aA))))) (ae (U 6) aA)))))
   (aM (bL (i:=8) jl.aC (bK acq av T.abF T.GC.bh T.adQ (ae (U 6) (ae (U 7) aA))))
   (aM (t8 (i:=9) jl.aC rfl (lY rfl) rfl (iP (bK afP av T.Ws T.am.bh T.adW (ae (U 5) (ae (U 7) aA)))) (gx (sc:=bG t2) rfl (by ac_nf)) (N:=["_law_one"]) (sel:=[none]) (gs (M:=zt) (by ac_nf)) (fD.of (fun _ _ _ _=>(b6 (i:=0) (eT (N:=["_law_one"]) (by ac_nf) rfl))) (fun _ _ _ _=>⟨_,iz,by walk_at "B"⟩) (fun _ _ _ _=>⟨_,(eL (ae (cD er (cD er (U 0) aR) aR) (ae (cD er (U 0) aR) aA))),by walk_at "B"⟩)) rfl)
   (aM (bL (i:=10) jl.aC (cD gI (gO (ae cx (ae (BU (mK (U 2)) cx cx) aA))) (U 4)))
   (aM (c9 (cU l5 (e3 (U 1) T.lO T.ux ye av T.va .nil cT (ae (bS mr (bS mr (bS mr cx (U 10)) cx) (U 8)) aA)) cx (lc _)) (a3 (bX mz)) dd)
   (aM (bL (i:=11) jl.aC (k2 Uf rfl T.ru rh (ae (cD er (bK Hi av T.GX T.t6.bh T.CZ (ae (bK Ed av T.Mh T.AL.bh T.K3 (ae (U 8) aA)) (ae (k2 afX rfl T.N' ut (ae (U 9) aA)) aA))) aR) aA)))
   (aM (c9 (gr.pt (vN (cU l5 (e3 (U 1) T.lO T.ux ye av T.va .nil cT (ae (bK AX av T.Ca T.sY.bh T.y_ (ae (U 10) (ae (U 9) aA))) aA)) (U 11) (lc _)) (xK (cU l5 (e3 (U 1) T.lO T.ux ye av T.va .nil cT (ae (bK AX av T.Ca T.sY.bh T.y_ (ae (U 10) (ae (bS FU (od vJ (U 9) (mX aR) pq) (od vJ (U 9) pq (mX aR))) aA))) aA)) (U 11) (lc _))))) (a3 (bX mz)) dd)
   (aM (BG (i:=12) jl.aC rfl (qI rfl) (bK ab_ av T.ls T.EE.bh T.adJ (ae (iG rfl (iP (U 7)) (gx (sc:=bG t2) rfl (by ac_nf)) (N:=["_law_way"]) (sel:=[none]) (gs (M:=zt) (by ac_nf)) (fD.of (fun _ _ _ _=>(b6 (i:=0) (eT (N:=["_law_way"]) (by ac_nf) rfl))) (fun _ _ _ _=>⟨_,iz,by walk_at "B"⟩) (fun _ _ _ _=>⟨_,(cD er (U 0) aR),by walk_at "B"⟩))) aA)))
   (aM (bL (i:=5) jl.aC (od vJ (U 9) pq (mX aR)))
   (aM (ho hl rfl (mV rfl T.lL (ae aR aA)) (b6 (i:=13) jl.aC) (a3 (fO (iS m9 VW PySem.F.type_list_insert ZM (U 5) (ae (bK eJ av T.fl T.e8.bh T.fq (ae (U 0) (ae (bS dJ aR (U 13)) (ae (bS dJ (g7 jU rfl T.iI iF (ae (U 5) aA)) aR) aA)))) (ae (eL (ae (cD gI (U 12) (U 13)) (ae aR aA))) aA))))))
   (aM (bL (i:=14) jl.aC (cD gI (iG rfl (iP (U 5)) (gx (sc:=bG t2) rfl (by ac_nf)) (N:=Il) (sel:=[none,none,some 12]) (gs (M:=zt) (by ac_nf)) (fD.of (fun _ _ _ _=>(fZ (K:=K) (n:=2) rfl rfl (c0 (b6 (i:=0) (eT (N:=Il) (by ac_nf) rfl)) (c0 (b6 (i:=1) (eT (N:=Il) (by ac_nf) rfl)) f')))) (fun _ _ _ _=>⟨_,(sF (cU nO (U 0) (U 2) (by with_unfolding_all rfl))),by walk_at "B"⟩) (fun _ _ _ _=>⟨_,(U 0),by walk_at "B"⟩))) aR))
   (aM (c9 (cU l5 (bK W9 av T.YL T.FL.bh T.aba (ae (U 1) (ae (bK AX av T.Ca T.sY.bh T.y_ (ae (U 10) (ae (U 5) aA))) aA))) (U 14) (lc _)) (a3 (bX mz)) dd)
   (a3 (fO (iS m9 rX uH q2 (U 3) (ae (eL (ae (bK AX av T.Ca T.sY.bh T.y_ (ae (U 10) (ae (U 9) aA))) (ae (U 11) aA))) aA)))))))))))))))))))
   (aM (c9 (cU l5 (e3 (U 1) T.lO T.ux ye av T.va .nil cT (ae (cD er (cD gI (U 3) aR) aR) aA)) (cD er (cD gI (U 3) aR) aR) (lc _)) (a3 (bX mz)) dd)
   (a3 (bX (BZ (U 2) (rR (iH fw (e3 (U 1) T.lO T.ux ye av T.va .nil cT (ae (cD er (cD gI (U 3) aR) aR) aA)) (cD er (cD gI (U 3) aR) aR) (lc _))))))))))),?_⟩
 exists (fun aL I=>∃ bO bC,jN t I bO bC []/\Off [bC] I H/\Sc K a ns I/\aL=[~~~a,~~~bO,none,none,none,none,none,none,none,none,none,none,none,none,none]),3
 .nofun;intro x au ak n8 cf;have s1:aN H (upd (upd H au (.own x)) x (.ins t.gA au [])):=(a0 n8).trans (a0 (by rw [aX (c7 cf)];exact ak));refine ⟨x,au,rfl,aS,by rw [aX cf];exact aS,fun bC db d6 I k n aw az _ _ f1 _=>⟨rfl,?_⟩⟩;have s2:aN H I:=fun b u e=>k b u (Db e ak) (s1 _ _ e)
  exact cn _ _ ⟨x,bC,⟨⟨au,db,d6,aw⟩,az⟩,⟨s2,fun b ab=>by rw [fQ.mp ab];exact s1.free f1,fun b ab=>by rw [fQ.mp ab];exact ⟨[],az⟩⟩,RI.same s2 (n ((RI.bc.upd).upd)),rfl⟩
 rintro jt H1 ⟨bO,bC,kN,aZ,n4,rfl⟩;subst bM;exists (fun aL I=>I=H1/\∃ same:Bool,aL=[~~~a,~~~bO,some (.bp same),none,none,none,none,none,none,none,none,none,none,none,none]),3
 .nofun;exact .inl ⟨90,2,rfl,n4,by decide,by decide,rfl,cn _ _ ⟨rfl,_,rfl⟩⟩
 rintro c4 ay ⟨rfl,same,rfl⟩;subst bM;exists (fun aL I=>∃ b',gT t K a ns bO bC b' same 0 0 (fun j=>same=false\/j + 1=0) I [] H/\aL=[~~~a,~~~bO,some (.bp same),~~~b',none,none,none,none,none,none,none,none,none,none,none]),3
 .nofun;refine ⟨by decide,fun b' kO=>cn _ _ ⟨b',⟨n4.new kO,kN.same (a0 kO),aZ.same (a0 kO),bu _,aZ.ck.free kO,Db kN.aO kO |>.symm,[],aS,rfl,fun j q h=>by simp at h⟩,rfl⟩⟩
 rintro jF bA ⟨b',aea,rfl⟩;subst bM;exists (fun aL I=>∃ b1 off,gT t K a ns bO bC b' same 2 2 (fun j=>same=false\/j + 1=2) I b1 off/\∃ pk pD kP iX gG fW eM gy fM ht ic,aL=[~~~a,~~~bO,some (.bp same),~~~b',pk,pD,kP,iX,gG,fW,eM,gy,fM,ht,ic]),3
 .nofun;refine ⟨by decide,by decide,?_⟩;show ap (jJ 0 2) _ _ _ _ _;refine ap.range (fun i σ I=>∃ b1 off,gT t K a ns bO bC b' same i i (fun j=>same=false\/j + 1=i) I b1 off/\∃ pk pD kP iX gG fW eM gy fM ht ic,σ=[~~~a,~~~bO,some (.bp same),~~~b',pk,pD,kP,iX,gG,fW,eM,gy,fM,ht,ic]) ?_ ?_ ?_
  .exact ⟨_,_,aea,_,_,_,_,_,_,_,_,_,_,_,rfl⟩
  .rintro i σ fY aj bU;ac_rfl
   obtain ⟨b1,off,nq,pk,pD,kP,iX,gG,fW,eM,gy,fM,ht,ic,rfl⟩:=bU;subst bM;simp only [hX,ks,kv];rw [xM];simp only [di];exists (fun aL I=>gT t K a ns bO bC b' same i i (fun j=>same=false\/j + 1=i) I b1 off/\∃ bE ms,mP ms <= 64/\I bE=some (.lst (nf V.int ms))/\aL=[~~~a,~~~bO,some (.bp same),~~~b',some (.int i),~~~bE,kP,iX,gG,fW,eM,gy,fM,ht,ic]),0
   .obtain ⟨ys,agU,OP,_⟩:=Z8 V.int ns (some (i:Int)) none;nofun;refine ⟨_,nq.sc.seq,fun p ao=>⟨by decide,fun hc i8=>?_⟩⟩;have cf:p ≠ hc:=fun z=>by rw [<- z,aS] at i8;cases i8
    have s2:=(a0 (o:=.lst (hk (ns.map V.int) (some (i:Int)) none)) ao).trans (a0 (o:=.lst [V.int (7 + (i:Int))]) i8);rw [agU] at i8 s2 ⊢;refine ⟨_,by rw [aX cf];exact aS,_,aS,b8 (show _ <= 64 by rw [bb];show ys.length + 1 <= 64;omega) (by decide),fun dM c5=>cn _ _ ⟨nq.same (s2.trans (a0 c5)) (((nq.sc.bc.upd).upd).upd),dM,ys ++ [7 + (i:Int)],by rw [dq];show ys.length + 1 <= 64;omega,by rw [aS,eD];rfl,rfl⟩⟩
   rintro mw la ⟨zF,bE,ms,Ak,iY,rfl⟩;subst bM;simp only [di];exists (fun aL I=>I=la/\∃ n:Int,(4 <= n/\n <= 99)/\aL=[~~~a,~~~bO,some (.bp same),~~~b',some (.int i),~~~bE,some (.int n),iX,gG,fW,eM,gy,fM,ht,ic]),0
   .nofun;exact ⟨bE,ms,Ak,rfl,iY,zF.sc.bc,fun n aH=>cn _ _ ⟨rfl,n,aH,rfl⟩⟩
   rintro kC hb ⟨rfl,n,aH,rfl⟩;subst bM;simp only [di];exists (fun aL I=>gT t K a ns bO bC b' same i i (fun j=>same=false\/j + 1=i) I b1 off/\I bE=some (.lst (nf V.int ms))/\∃ wl ds,g5 I wl ds/\(1 <= ds.length/\ds.length <= 6)/\p6 n ds/\aL=[~~~a,~~~bO,some (.bp same),~~~b',some (.int i),~~~bE,some (.int n),~~~wl,gG,fW,eM,gy,fM,ht,ic]),0
   .have dv:=hv ms 2 (m:=6) (by decide);have dE:=hx ms 2 (m:=6) (by decide);obtain ⟨m,hm⟩:∃ m:Nat,1 + ee ms 2 6=(m:Int):=⟨(1 + ee ms 2 6).toNat,by omega⟩;nofun;refine .inr ⟨bE,ms,2,6,Ak,rfl,iY,zF.sc.bc,by decide,by decide,_,rfl,?_⟩;rw [hm];exact ⟨bE,ms,m,n,Ak,rfl,iY,zF.sc.bc,by omega,by omega,fun p ds I s2 bQ L ax D=>cn _ _ ⟨zF.same s2 bQ,s2 _ _ iY,p,ds,L,by omega,D,rfl⟩⟩
   rintro rG dI ⟨Ej,Iy,wl,ds,hh,ij,D,rfl⟩;have cB:=D.UL (show 2 <= n/\n <= 99 by omega) (show 1 <= ds.length/\ds.length <= 12 by omega);subst bM;simp only [di];exists (fun aL I=>I=dI/\aL=[~~~a,~~~bO,some (.bp same),~~~b',some (.int i),~~~bE,some (.int n),~~~wl,some (.str (f5 n ds)),fW,eM,gy,fM,ht,ic]),0
   .nofun;exact ⟨n,wl,ds,rfl,hh,D,by omega,by omega,Ej.sc.bc,cn _ _ ⟨rfl,rfl⟩⟩
   rintro alz hW ⟨rfl,rfl⟩;subst bM;simp only [di];exists (fun aL I=>gT t K a ns bO bC b' same i i (fun j=>same=false\/j + 1=i) I b1 off/\g5 I wl ds/\∃ ul ws,gh I ul (eN ws)/\(0 < ws.length/\ws.length <= 5)/\(∀ x ∈ ws,x.1 ∈ ds/\1 <= x.2/\x.2 <= 60)/\zx ds ws/\aL=[~~~a,~~~bO,some (.bp same),~~~b',some (.int i),~~~bE,some (.int n),~~~wl,some (.str (f5 n ds)),~~~ul,eM,gy,fM,ht,ic]),0
   .nofun;refine ⟨bE,ms,wl,ds,Ak,rfl,Iy,Ej.sc.bc,hh,by omega,fun p I ws s4 d8 L ax ak se=>?_⟩;obtain ⟨TY,cL,c_,gR⟩:=id L;have n':(TY.map V.ref).length=ws.length:=by rw [bb,c_]
    refine ⟨p,rfl,⟨_,aW.of cL⟩,?_⟩;refine cY.list (xs:=TY.map V.ref) (fun j ys d7=>aN I d7/\aY d7/\∃ kQ:List Addr,ys=kQ.map V.ref/\kQ.length=j/\∀ (k:Nat) (q:Addr) (p:a8 × Int),kQ[k]? = some q->ws[k]? = some p->d7 q=some (.tup [.str p.1.name,.int p.2])) (by rw [n'];exact b8 ax.2 (by decide)) ⟨aN.refl _,d8,[],rfl,rfl,fun j q p h=>by simp at h⟩ ?_ ?_ ?_
    .rintro j ys d7 bf bU;ac_rfl
     obtain ⟨s5,_,kQ,rfl,aB,_⟩:=bU;subst bM;exact ⟨aW.of (s5 _ _ cL),by rw [bb,aB];exact bu _⟩
    .rintro j v ys d7 aU bU;ac_rfl
     obtain ⟨s5,gc,kQ,rfl,aB,al⟩:=bU;obtain ⟨gD,f9,rfl⟩:=eU aU;have bf:j < ws.length:=by rw [<- c_];exact (cV.mp f9).1
     have fR:ws[j]? = some ws[j]:=cJ bf;obtain ⟨qK,aw,az⟩:=gR j gD _ f9 fR;subst bM;intro N bx;nofun;refine ⟨Sub.name,_,bY.of (s5 _ _ aw),_,dw (j:=0) rfl,_,rfl,_,bY.of (s5 _ _ az),_,dw (j:=1) rfl,_,bY.of (s5 _ _ aw),_,dw (j:=1) rfl,by decide,fun iu Md=>bx _ _ ⟨s5.trans (a0 Md),gc.upd,kQ ++ [iu],by rw [eD];rfl,by rw [dq,aB];rfl,fun k q x af ai=>?_⟩⟩;rcases jY af with ⟨g1,g2⟩ | ⟨g1,g2⟩
     .exact (a0 Md) _ _ (al k q x g2 ai)
     .rw [g1,aB,fR] at ai;cases ai;rw [g2];exact aS
    .rintro ys d7 ⟨s5,gc,kQ,rfl,aB,al⟩ ul Bw;have e5:=s4.trans (s5.trans (a0 (o:=.lst (kQ.map V.ref)) Bw));refine cn _ _ ⟨Ej.same e5 gc.upd,hh.same e5,ul,ws,⟨kQ,aS,?_,fun j q u af ai=>?_⟩,ax,ak,se,rfl⟩
     .unfold eN;rw [bb,aB,n']
     .obtain ⟨x,k4,rfl⟩:=eU ai;exact (a0 Bw) _ _ (al j q x af k4)
   rintro amq DO ⟨Du,V5,ul,ws,aiI,eR,zz,se,rfl⟩;subst bM;simp only [di];exists (fun aL I=>aN DO I/\aY I/\aL=[~~~a,~~~bO,some (.bp same),~~~b',some (.int i),~~~bE,some (.int n),~~~wl,some (.str (f5 n ds)),~~~ul,some (.str (ej same i)),gy,fM,ht,ic]),0
   .have jk:i=0\/i=1:=by omega
    have jo:i' [V.str (ag "one"),V.str (ej same 1)] (i:Int)=some (.str (ej same i)):=by
     rcases jk with e | e
     .rw [e];exact dw (j:=0) rfl
     .rw [e];exact dw (j:=1) rfl
    nofun;by_cases aG:same=true
    .rw [if_pos aG];rw [show ej same 1=ag "one" by unfold ej;rw [if_neg (by decide),if_pos aG]] at jo;exact ⟨by decide,fun p ao=>⟨_,aW.of aS,_,jo,cn _ _ ⟨a0 ao,Du.sc.bc.upd,rfl⟩⟩⟩
    .rw [if_neg aG];rw [show ej same 1=ag "other" by unfold ej;rw [if_neg (by decide),if_neg aG]] at jo;exact ⟨by decide,fun p ao=>⟨_,aW.of aS,_,jo,cn _ _ ⟨a0 ao,Du.sc.bc.upd,rfl⟩⟩⟩
   rintro amK Wn ⟨HM,M1,rfl⟩;have yd:=Du.same HM M1;have Xz:=aiI.same HM;have tH:i <= 1:=by omega
   have aic:=V5.same HM;obtain ⟨bm,bp⟩:=C3 same i;have m_:=aks (n:=n) D.aC se;have ok:=adY D eR zz m_;have ahE:∀ p ∈ ws,lE n p.1:=fun p ao=>(D.al _ (zz p ao).1).1
   have cj:jf n ws:=⟨fun p ao=>⟨ahE p ao,by have:=(zz p ao).2;omega⟩,by omega,yG.mp eR.1⟩;have ask:sH n ds ws:=⟨by omega,ij.1,fun p ao=>q1 (zz p ao).1,cj,ok⟩;subst bM;simp only [di];exists (fun aL I=>∃ c rZ fJ,gT t K a ns bO bC b' same i (i + 1) (fun _=>same=false) I rZ fJ/\dg rZ (.inr (ej same i))=some (.ref c)/\ff t fJ c n ds/\g5 I wl ds/\gh I ul (eN ws)/\aL=[~~~a,~~~bO,some (.bp same),~~~b',some (.int i),~~~bE,some (.int n),~~~wl,some (.str (f5 n ds)),~~~ul,some (.str (ej same i)),gy,fM,ht,ic]),0
   .refine lF (fun b I=>b=false/\∃ c rZ fJ,gT t K a ns bO bC b' same i (i + 1) (fun _=>same=false) I rZ fJ/\dg rZ (.inr (ej same i))=some (.ref c)/\ff t fJ c n ds/\g5 I wl ds/\gh I ul (eN ws)) (fun mU a5=>?_) (fun I r=>nomatch r.1) (fun I r=>?_)
    .obtain ⟨⟨au,db,d6,fB⟩,cP⟩:=id yd.kk;have aa3:=agC cB;have J6:(ag "crossing ").length=9:=by ac_nf
     have jj:(ag "\n").length=1:=by ac_nf
     have i6:∀ k:Nat,k <= 20000->k <= sizeLine:=fun k h=>b8 h (by decide)
     nofun;refine ⟨_,_,fB,l4 oO (pG ..) (by ac_nf),i6 _ (by rw [J6];omega),i6 _ (by rw [mD,J6,jj];omega),i6 _ (by rw [mD,mD,J6,jj];omega),bO,bC,b1,fH [bC] Wn,_,_,_,_,ej same i,[],rfl,yd.kk,⟨yO,fun b ab=>r1 ab,yd.ja.bO⟩,M1,afW bm aa3,.inl ⟨rfl,n,ds,rfl,cB,by have:=yd.ln;omega,fun c I fJ cM Kr h1 d' aaW=>⟨rfl,?_⟩⟩⟩;rw [decide_eq_true rfl];have LS:=yd.told tH cM Kr h1 d';obtain ⟨qs,g1,g2,g3⟩:=id LS.bh;exact a5 _ _ ⟨rfl,c,_,_,LS,by rw [QN,if_pos rfl],aha aaW cM.ck ij.1 g1 (fun q aB=>by
      obtain ⟨j,bf⟩:=q1 aB;obtain ⟨_,_,e,_⟩:=g3 j q bf;exact ⟨_,e⟩),(Xr aic cP).same (Kr.trans cM.ck),(acT Xz cP).same (Kr.trans cM.ck)⟩
    .obtain ⟨_,c,rZ,fJ,af,ai,br,cm,gK⟩:=r;simp only [ft];exact cn _ _ ⟨c,rZ,fJ,af,ai,br,cm,gK,rfl⟩
   rintro amR Sr ⟨c,Au,yF,NG,B9,zL,aao,Tb,rfl⟩;subst bM;simp only [di];exists (fun aL I=>aN Sr I/\aY I/\∃ z,Os (ac n ws) z/\aL=[~~~a,~~~bO,some (.bp same),~~~b',some (.int i),~~~bE,some (.int n),~~~wl,some (.str (f5 n ds)),~~~ul,some (.str (ej same i)),some (.str (num z)),fM,ht,ic]),0
   .nofun;refine ⟨n,ds,[],Sr,rfl,cB,NG.sc.bc,Off.nil,fun dT I fJ s1 bH wC amr adA=>?_⟩;obtain ⟨qs,fm,h7,yk⟩:=id Tb;refine ⟨_,.inl (aW.of (s1 _ _ fm)),fun l ax=>⟨n,ws,⟨dT,l,ds,rfl,(adA.same wC.ck).same (a0 ax),by omega,Nw ⟨qs,aS,h7,fun i q u af ai=>a0 ax _ _ (s1 _ _ (yk i q u af ai))⟩,ask.ek,cj,bH.upd⟩,fun r z fX cO b p ay s2 bQ az ou=>?_⟩⟩;have a1:=ou.d_;have a2:=ou.vl;exact ⟨r,rfl,_,bY.of az,_,dw (j:=0) rfl,_,rfl,FQ (by omega),cn _ _ ⟨(s1.trans (a0 ax)).trans s2,bQ,z,⟨a1,a2,⟨b,ou.T7⟩,fun y af ai c=>ou.least cj.ok af ai c⟩,rfl⟩⟩
   rintro amM R9 ⟨ES,TN,z,aD,rfl⟩;have Fo:=NG.same ES TN;have YY:=aao.same ES;have Ew:=Tb.same ES;subst bM;simp only [di];exists (fun aL I=>aN R9 I/\aY I/\aL=[~~~a,~~~bO,some (.bp same),~~~b',some (.int i),~~~bE,some (.int n),~~~wl,some (.str (f5 n ds)),~~~ul,some (.str (ej same i)),some (.str (num z)),fM,ht,ic]),0
   .refine lF (fun b I=>b=false/\aN R9 I/\aY I) (fun mU a5=>?_) (fun I r=>nomatch r.1) (fun I r=>?_)
    .nofun;obtain ⟨⟨au,db,d6,fB⟩,cP⟩:=id Fo.kk;refine ⟨_,_,fB,l4 oO (pG ..) (by ac_nf),_,ul,eN ws,rfl,Ew,ok,bp,TN,fun I s1 bH=>?_⟩;have K_:=Fo.same s1 bH;refine Bv K_ bm B9 zL ask (fun dk ay s2 bQ hA=>⟨rfl,?_⟩);obtain rfl:=Ia aD hA;rw [decide_eq_true rfl,if_neg (by decide)];have Rw:=K_.same s2 bQ;obtain ⟨⟨OG,akG,alX,agh⟩,_⟩:=id Rw.kk;obtain ⟨kM,ps,AA⟩:∃ kM ps,ws=kM :: ps:=by
      cases ws with
      | nil=>exact absurd eR.1 (by decide)
      | cons kM ps=>exact ⟨kM,ps,rfl⟩
     obtain ⟨qs,fm,h7,yk⟩:=id (Ew.same (s1.trans s2));obtain ⟨eW,gZ,eqs⟩:∃ eW gZ,qs=eW :: gZ:=by
      cases qs with
      | nil=>rw [AA] at h7;cases h7
      | cons eW gZ=>exact ⟨eW,gZ,rfl⟩
     have IF:gZ.length=ps.length:=by
      rw [eqs,AA] at h7;have RY:gZ.length + 1=(eN (kM :: ps)).length:=h7;unfold eN at RY;rw [bb,dr] at RY;omega
     have aw:hk (qs.map V.ref) (some 1) none=gZ.map V.ref:=by rw [eqs];exact U5 _ _
     have az:hk (qs.map V.ref) none (some 1)=[V.ref eW]:=by rw [eqs];exact XI _ _
     refine ⟨_,_,agh,l4 oO (pG ..) (by ac_nf),_,aW.of fm,fun p ao=>⟨_,aW.of (a0 ao _ _ fm),fun hc i8=>?_⟩⟩;rw [aw,az] at *;have cf:p ≠ hc:=fun z=>by rw [<- z,aS] at i8;cases i8
     have s3:=(a0 (o:=.lst (gZ.map V.ref)) ao).trans (a0 (o:=.lst [V.ref eW]) i8);refine ⟨_,by rw [aX cf];exact aS,_,aS,b8 (show _ <= 64 by rw [bb,IF];show ps.length + 1 <= 64;rw [AA] at eR;have:=eR.2;rw [dr] at this;omega) (by decide),fun dM c5=>?_⟩;have s4:=s3.trans (a0 (o:=.lst (gZ.map V.ref ++ [V.ref eW])) c5);have d8:aY (upd (upd (upd ay p (.lst (gZ.map V.ref))) hc (.lst [V.ref eW])) dM (.lst (gZ.map V.ref ++ [V.ref eW]))):=((bQ.upd).upd).upd;rw [AA] at ask aD yk;have TM:=ajc ask;refine ⟨_,dM,eN (ps ++ [kM]),rfl,⟨gZ ++ [eW],by rw [aS,eD];rfl,by unfold eN;rw [bb,dq,dq,IF];rfl,fun j q u af ai=>?_⟩,TM.BS,bp,d8,fun alx s5 gc=>?_⟩
     .refine s4 _ _ ?_;obtain ⟨x,ak,rfl⟩:=eU ai;rcases jY af with ⟨g1,g2⟩ | ⟨g1,g2⟩
      .rw [kq (by omega)] at ak;exact yk (j + 1) q _ (by rw [eqs];exact g2) (by unfold eN;rw [ec,AH,ak];rfl)
      .rw [g1,IF,kd (bu _),yZ] at ak;cases ak;rw [g2];exact yk 0 eW _ (by rw [eqs];rfl) rfl
     .refine Bv ((Rw.same s4 d8).same s5 gc) bm B9 zL TM (fun d5 amL e5 j_ xT=>⟨rfl,?_⟩);obtain rfl:=acg aD xT;rw [decide_eq_true rfl];exact a5 _ _ ⟨rfl,s1.trans (s2.trans (s4.trans (s5.trans e5))),j_⟩
    .obtain ⟨_,af,ai⟩:=r;simp only [ft];exact cn _ _ ⟨af,ai,rfl⟩
   rintro alV Yw ⟨Gp,QY,rfl⟩;have aiY:=Fo.same Gp QY;have Y_:=YY.same Gp;have aiX:=Ew.same Gp;subst bM;simp only [di];exists (fun aL I=>aN Yw I/\aY I/\∃ dp,I dp=some (.lst (cv (jw (ds.map (·.name)))))/\aL=[~~~a,~~~bO,some (.bp same),~~~b',some (.int i),~~~bE,some (.int n),~~~wl,some (.str (f5 n ds)),~~~ul,some (.str (ej same i)),some (.str (num z)),~~~dp,ht,ic]),0
   .obtain ⟨qs,g1,g2,g3⟩:=id Y_;nofun;refine ⟨⟨_,aW.of g1⟩,?_⟩;refine cY.As (xs:=qs.map V.ref) (zs:=cv (ds.map (·.name))) (aW.of g1) (b8 (show _ <= 12 by rw [bb,g2];omega) (by decide)) (by rw [qb,bb,bb,g2]) (fun j v Bn N aU gf bx=>?_) (fun p ao=>?_)
    .obtain ⟨cS,aB,rfl⟩:=eU aU;obtain ⟨y,aT,rfl⟩:=eU gf;obtain ⟨d,hd,rfl⟩:=eU aT;nofun;exact ⟨Sub.name,_,bY.of (g3 j cS d aB hd),_,dw (j:=1) rfl,bx⟩
    .exact ⟨p,ds.map (·.name),rfl,aS,QY.upd,fun r I s' h1 cy=>cn _ _ ⟨(a0 ao).trans s',h1,r,cy,rfl⟩⟩
   rintro amv PN ⟨Pg,NK,dp,Gh,rfl⟩;have GN:=aiY.same Pg NK;have GZ:=aiX.same Pg;have fE:=UW (xs:=ds.map (·.name)) (by rw [bb];omega);subst bM;simp only [di];exists (fun aL I=>aN PN I/\aY I/\∃ cb,PN cb=none/\gh I cb ((eN ws).take 3)/\aL=[~~~a,~~~bO,some (.bp same),~~~b',some (.int i),~~~cb,some (.int n),~~~wl,some (.str (f5 n ds)),~~~ul,some (.str (ej same i)),some (.str (num z)),~~~dp,ht,ic]),0
   .obtain ⟨qs,g1,g2,g3⟩:=id GZ;nofun;refine ⟨_,aW.of g1,fun p ao=>?_⟩;rw [aam];refine cn _ _ ⟨a0 ao,NK.upd,p,ao,⟨qs.take 3,aS,by rw [eX,eX,g2],fun j q u af ai=>?_⟩,rfl⟩;have bf:j < 3:=by have:=(cV.mp af).1;rw [eX] at this;omega
    rw [oK bf] at af ai;exact a0 ao _ _ (g3 j q u af ai)
   rintro amd Lf ⟨A8,YR,cb,qj,S_,rfl⟩;have aeP:=GN.same A8 YR;have aeJ:yF cb=none:=GN.ja.ck.free qj;have afu:cb ≠ b':=by
    obtain ⟨_,e,_⟩:=GN.bh;exact fun z=>by rw [z,e] at qj;cases qj
   have Sj:dp ≠ cb:=fun z=>by rw [<- z,Gh] at qj;cases qj
   subst bM;simp only [di];exists (fun aL I=>c3 cb Lf I/\gT t K a ns bO bC b' same i (i + 1) (fun _=>same=false) I Au yF/\∃ us,gh I cb us/\nz ds 2 us/\∃ ht,aL=[~~~a,~~~bO,some (.bp same),~~~b',some (.int i),~~~cb,some (.int n),~~~wl,some (.str (f5 n ds)),~~~ul,some (.str (ej same i)),some (.str (num z)),~~~dp,ht,ic]),0
   .nofun;refine ⟨by decide,by decide,?_⟩;show ap (jJ 0 2) _ _ _ _ _;refine ap.range (fun k σ I=>c3 cb Lf I/\gT t K a ns bO bC b' same i (i + 1) (fun _=>same=false) I Au yF/\∃ us,gh I cb us/\nz ds k us/\∃ ht,σ=[~~~a,~~~bO,some (.bp same),~~~b',some (.int i),~~~cb,some (.int n),~~~wl,some (.str (f5 n ds)),~~~ul,some (.str (ej same i)),some (.str (num z)),~~~dp,ht,ic]) ?_ ?_ ?_
    .exact ⟨fun _ _ _ e=>e,aeP,_,S_,KK ask,_,rfl⟩
    .rintro k σ tD aJ bU;ac_rfl
     obtain ⟨gi,u',us,Cp,M,Ib,rfl⟩:=bU;subst bM;simp only [hX,ks,kv];rw [xM];obtain ⟨qs,g1,g2,g3⟩:=id Cp;obtain ⟨y,aT⟩:∃ y,(jw (ds.map (·.name)))[k]? = some y:=⟨(jw (ds.map (·.name)))[k]'(by omega),cJ _⟩;have nP:=M.nP;have dv:=hv ns (91 + (k:Int)) (m:=((us.length:Int) + 1)) (by omega);have dE:=hx ns (91 + (k:Int)) (m:=((us.length:Int) + 1)) (by omega);nofun;refine ⟨.inl ⟨_,aW.of g1⟩,_,.inl (aW.of g1),?_⟩;rw [bb,g2];refine .inl ⟨_,_,rfl,u'.sc,by omega,by omega,?_⟩;generalize ee ns (91 + (k:Int)) ((us.length:Int) + 1)=NC at dv dE ⊢;refine ⟨_,aW.of (gi _ _ Sj (A8 _ _ Gh)),.str y,dw (Su aT),by decide,fun p ao=>?_⟩;have Gz:upd tD p (.tup [V.str y,V.int 5]) cb=some (.lst (qs.map V.ref)):=a0 ao _ _ g1;refine ⟨_,_,rfl,Gz,dv,by omega,by rw [bb,g2];omega,jV (show _ <= 6 by rw [bb,g2];omega) (by decide),fun b u ab e=>?_,(u'.same (a0 ao) u'.sc.bc.upd).set Gz aeJ afu,ins us NC.toNat (y,5),⟨ins qs NC.toNat p,by rw [aS,aiu];rfl,by rw [Se (by omega),Se (by omega),g2],fun j q u af ai=>?_⟩,M.put aT _,_,rfl⟩
     .rw [aX ab,aX (Db (gi b u ab e) ao)];exact gi b u ab e
     .have keep:∀ {b:Addr} {xs ys:List V},upd tD p (.tup [V.str y,V.int 5]) b=some (.tup xs)->upd (upd tD p (.tup [V.str y,V.int 5])) cb (.lst ys) b=some (.tup xs):=fun {b xs ys} e=>by rw [aX (fb e Gz (fun z=>nomatch z))];exact e
      rw [xF (by omega)] at af ai;split at af
      .rename_i bf;rw [if_pos bf] at ai;exact keep (a0 ao _ _ (g3 j q u af ai))
      .rename_i bf;rw [if_neg bf] at ai;split at af
       .rename_i xZ;rw [if_pos xZ] at ai;cases af;cases ai;exact keep aS
       .rename_i xZ;rw [if_neg xZ] at ai;exact keep (a0 ao _ _ (g3 _ q u af ai))
    .rintro σ I h;exact cn _ _ h
   rintro alh tD ⟨J_,u',us,Cp,M,Ib,rfl⟩;obtain ⟨x,n6,r,ag2⟩:=M.first
   have abV:=J_ _ _ Sj (A8 _ _ Gh);subst bM;simp only [di];exists (fun aL I=>aN tD I/\aY I/\aL=[~~~a,~~~bO,some (.bp same),~~~b',some (.int i),~~~cb,some (.int n),~~~wl,some (.str (f5 n ds)),~~~ul,some (.str (ej same i)),some (.str (num z)),~~~dp,Ib,some (.str x)]),0
   .obtain ⟨qs,g1,g2,g3⟩:=id Cp;nofun;refine ⟨⟨_,aW.of g1⟩,?_⟩;refine cY.Nq (xs:=qs.map V.ref) (ss:=us.map fun u=>if decide (u.1 ∈ jw (ds.map (·.name)))=true then some (V.str u.1) else none) (aW.of g1) (b8 (show _ <= 5 by rw [bb,g2];exact M.ok.mJ) (by decide)) (by rw [bb,bb,g2]) (fun j v o ys N aU aZ bx=>?_) (fun p ao=>?_)
    .obtain ⟨cS,aB,rfl⟩:=eU aU;obtain ⟨u,rI,rfl⟩:=eU aZ;refine ox (bY.of (g3 j cS u aB rI)) ?_;nofun;refine ⟨Sub.r2,_,.inl (aW.of abV),rfl,xI _,?_⟩;rw [sT];by_cases B5:u.1 ∈ jw (ds.map (·.name))
     .rw [if_pos (decide_eq_true B5)] at bx;rw [if_pos (decide_eq_true B5)];exact bx
     .rw [if_neg (by simpa using B5)] at bx;rw [if_neg (by simpa using B5)];simpa using bx
    .rw [N4 (fun u=>decide (u.1 ∈ jw (ds.map (·.name)))),ag2];exact ⟨p,rfl,_,aW.of aS,_,dw (j:=0) rfl,cn _ _ ⟨a0 ao,u'.sc.bc.upd,rfl⟩⟩
   rintro al9 Qa ⟨KC,Ul,rfl⟩;have DU:=u'.same KC Ul;have ajy:=Cp.same KC;subst bM;simp only [di];exists (fun aL I=>aN Qa I/\aY I/\aL=[~~~a,~~~bO,some (.bp same),~~~b',some (.int i),~~~cb,some (.int n),~~~wl,some (.str (f5 n ds)),~~~ul,some (.str (ej same i)),some (.str (num z)),~~~dp,Ib,some (.str x)]),0
   .refine lF (fun b I=>b=false/\aN Qa I/\aY I) (fun mU a5=>?_) (fun I r=>nomatch r.1) (fun I r=>?_)
    .nofun;refine ⟨_,cb,us,rfl,ajy,M.ok,bp,Ul,fun I s1 bH=>⟨bO,bC,Au,yF,_,_,_,ej same i,us,c,n,ds,x,rfl,(DU.same s1 bH).kk,(DU.same s1 bH).ja,bH,S0 bm M.ok,B9,zL,n6,fun ay s2 bQ=>⟨rfl,?_⟩⟩⟩;rw [decide_eq_true rfl];exact a5 _ _ ⟨rfl,s1.trans s2,bQ⟩
    .obtain ⟨_,af,ai⟩:=r;simp only [ft];exact cn _ _ ⟨af,ai,rfl⟩
   rintro akM adV ⟨L7,Sx,rfl⟩;have NU:=DU.same L7 Sx;have ajt:ul ≠ cb:=by
    obtain ⟨_,e,_⟩:=GZ;exact fun z=>by rw [z,qj] at e;cases e
   have Vs:gh adV ul (eN ws):=by
    obtain ⟨qs,g1,g2,g3⟩:=GZ.same A8;obtain ⟨amA,f1,_⟩:=S_;exact (show gh tD ul (eN ws) from ⟨qs,J_ _ _ ajt g1,g2,fun j q u af ai=>J_ _ _ (fb (g3 j q u af ai) f1 (fun z=>nomatch z)) (g3 j q u af ai)⟩).same (KC.trans L7)
   obtain ⟨wH,Rt,Y7,alq⟩:=id NU.bh;subst bM;nofun;refine ⟨.inl ⟨_,aW.of Rt⟩,_,ul,eN ws,rfl,Vs,ok,bp,Sx,fun I s1 bH=>⟨by decide,fun p ao=>?_⟩⟩;have MG:=s1 _ _ Rt;exact ⟨_,a0 ao _ _ MG,jV (show _ <= 6 by rw [bb,Y7];omega) (by decide),Au,yF,(NU.same s1 bH).add ao MG ⟨n,ds,c,B9,zL,ask,aD⟩,_,rfl⟩
  .rintro σ I bU;ac_rfl
   obtain ⟨b1,off,nq,ak⟩:=bU;subst bM;exact cn _ _ ⟨b1,off,nq,ak⟩
 rintro ac1 dH ⟨b1,off,Bx,pk,pD,kP,iX,gG,fW,eM,gy,fM,ht,ic,rfl⟩;obtain ⟨qs,g1,g2,g3⟩:=id Bx.bh;obtain ⟨eW,bF,rfl⟩:∃ eW bF,qs=[eW,bF]:=by
  match qs,g2 with
  | [eW,bF],_=>exact ⟨eW,bF,rfl⟩
 obtain ⟨cL,d_,f1,sA⟩:=g3 1 bF rfl;obtain ⟨hY,LD,f0,B_⟩:=g3 0 eW rfl;subst bM;exists (fun aL I=>aN dH I/\aY I/\aL=[~~~a,~~~bO,some (.bp same),~~~b',pk,pD,kP,iX,gG,fW,eM,gy,fM,ht,ic]),3
 .refine lF (fun b I=>b=false/\aN dH I/\aY I) (fun mU a5=>?_) (fun I r=>nomatch r.1) (fun I r=>?_)
  .obtain ⟨n,ds,c,v1,v2,v7,v4⟩:=sA (.inr rfl);obtain ⟨⟨au,db,d6,fB⟩,cP⟩:=id Bx.kk;nofun;refine ⟨_,_,fB,l4 oO (pG ..) (by ac_nf),_,aW.of g1,_,dw (j:=1) rfl,_,rfl,_,bY.of f1,_,dw (j:=0) rfl,Bv Bx (C3 same 1).1 v1 v2 v7 (fun dk I s' h1 aD=>⟨_,aW.of (s' _ _ g1),_,dw (j:=1) rfl,_,rfl,_,bY.of (s' _ _ f1),_,dw (j:=1) rfl,rfl,?_⟩)⟩;obtain rfl:=Ia v4 aD;rw [decide_eq_true rfl];exact a5 _ _ ⟨rfl,s',h1⟩
  .obtain ⟨_,af,ai⟩:=r;simp only [ft];exact cn _ _ ⟨af,ai,rfl⟩
 rintro Qq fY ⟨s5,gc,rfl⟩;have nq:=Bx.same s5 gc;subst bM;nofun;by_cases aG:same=true
 .rw [if_pos aG];exact q _
 .rw [if_neg aG];obtain ⟨n,ds,c,v1,v2,v7,v4⟩:=B_ (.inl (by simpa using aG));obtain ⟨⟨au,db,d6,fB⟩,cP⟩:=id nq.kk;refine ⟨_,_,fB,l4 oO (pG ..) (by ac_nf),_,aW.of (s5 _ _ g1),_,dw (j:=0) rfl,_,rfl,_,bY.of (s5 _ _ f0),_,dw (j:=0) rfl,Bv nq (C3 same 0).1 v1 v2 v7 (fun dk I s' h1 aD=>⟨_,aW.of (s' _ _ (s5 _ _ g1)),_,dw (j:=0) rfl,_,rfl,_,bY.of (s' _ _ (s5 _ _ f0)),_,dw (j:=1) rfl,rfl,?_⟩)⟩;obtain rfl:=Ia v4 aD;rw [decide_eq_true rfl];exact q _
end My
open PySem PySem.W PyProof.Rows
set_option maxRecDepth 100000 in
set_option maxHeartbeats 0 in
theorem PySem.Challenge.cw_lampway_k84_shortest_at_a_desk_holds : PySem.Challenge.rw_lampway_k84_shortest_at_a_desk.Holds := by
 refine hd84 ?_
 k_fill
 refine L2.acH (l:=PySem.Challenge.rw_lampway_k84_shortest_at_a_desk) (n:=63) (k:=19) (x := "_law_script") (CX:=L2.b7) (sp:=L2.Q4) rfl (by decide) rfl ⟨rfl,by decide,by decide⟩ (fun w h Y=>L2.s_in_of Y) ?F ?S ?C
 case F=>
  intro w ah fF h eS G vX;have T:∃ t,My.Txt w (L2.UT eS) ah t:=by
   dsimp only [L2.UT];refine' ⟨My.bJ.mk,⟨⟨?mqaa,?Fqab,?mqac,?Fqad,?mqae,?Fqaf,?mqag,?Fqah,?mqai,?Fqaj,?mqak,?Fqal,?mqam,?Fqan,?mqao,?Fqap,?mqaq,?Fqar,?mqas,?Fqat⟩,⟨?mqau,?Fqav,?mqaw,?Fqax,?mqay,?Fqaz,?mqba,?Fqbb,?mqbc,?Fqbd,?mqbe,?Fqbf,?mqbg,?Fqbh,?mqbi,?Fqbj,?mqbk,?Fqbl,?mqbm,?Fqbn⟩,⟨?mqbo,?Fqbp,?mqbq,?Fqbr,?mqbs,?Fqbt,?mqbu,?Fqbv,?mqbw,?Fqbx,?mqby,?Fqbz,?mqca,?Fqcb,?mqcc,?Fqcd,?mqce,?Fqcf,?mqcg,?Fqch⟩,⟨?mqci,?Fqcj,?mqck,?Fqcl,?mqcm,?Fqcn,?mqco,?Fqcp,?mqcq,?Fqcr,?mqcs,?Fqct,?mqcu,?Fqcv,?mqcw,?Fqcx,?mqcy,?Fqcz,?mqda,?Fqdb⟩,⟨?mqdc,?Fqdd,?mqde,?Fqdf,?mqdg,?Fqdh,?mqdi,?Fqdj,?mqdk,?Fqdl,?mqdm,?Fqdn,?mqdo,?Fqdp,?mqdq,?eqdr,?Fqds,?mqdt,?eqdu,?Fqdv⟩,⟨?eqdw,?Fqdx,?eqdy,?Fqdz,?eqea,?Fqeb,?eqec,?Fqed,?eqee,?Fqef,?eqeg,?Fqeh,?mqei,?eqej,?Fqek,?mqel,?eqem,?Fqen,?eqeo,?Fqep⟩,⟨?eqeq,?Fqer,?mqes,?eqet,?Fqeu,?eqev,?Fqew,?eqex,?Fqey,?mqez,?eqfa,?Fqfb,?eqfc,?Fqfd,?eqfe,?Fqff,?mqfg,?eqfh,?Fqfi,?eqfj⟩,⟨?Fqfk,?eqfl,?Fqfm,?mqfn,?eqfo,?Fqfp,?mqfq,?eqfr,?Fqfs,?eqft,?Fqfu,?eqfv,?Fqfw,?sqfx,?sqfy,?sqfz,?sqga,?sqgb,?sqgc,?sqgd⟩,⟨?sqge,?nqgf,?nqgg,?nqgh,?sqgi,?nqgj,?nqgk,?nqgl,?nqgm,?nqgn,?nqgo,?nqgp,?sqgq,?sqgr,?sqgs,?sqgt,?nqgu,?nqgv,?nqgw,?nqgx⟩,⟨?nqgy,?nqgz,?nqha,?sqhb,?sqhc,?sqhd,?sqhe,?nqhf,?nqhg,?nqhh,?nqhi,?nqhj,?nqhk,?nqhl,?sqhm,?sqhn,?sqho,?sqhp,?nqhq,?nqhr⟩,⟨?nqhs,?nqht,?nqhu,?nqhv,?nqhw,?sqhx,?sqhy,?sqhz,?sqia,?nqib,?nqic,?nqid,?mqie,?sqif,?nqig,?nqih,?nqii,?nqij,?nqik,?nqil⟩,⟨?nqim,?nqin,?mqio,?sqip,?nqiq,?nqir,?nqis,?nqit,?nqiu,?nqiv,?nqiw,?nqix,?mqiy,?sqiz,?nqja,?nqjb,?nqjc,?nqjd,?nqje,?sqjf⟩,⟨?sqjg,?nqjh,?nqji,?nqjj,?sqjk,?sqjl,?sqjm,?sqjn,?nqjo,?nqjp,?nqjq,?mqjr,?sqjs,?xqjt,?Xqju,?nqjv,?rqjw,?rqjx,?dqjy,?dqjz⟩,⟨?dqka,?dqkb,?dqkc,?dqkd,?sqke,?mqkf,?vqkg,?mqkh,?tqki,?yqkj,?uqkk,?uqkl,?uqkm,?uqkn,?uqko,?uqkp,?uqkq,?uqkr,?uqks,?uqkt⟩,⟨?mqku,?vqkv,?mqkw,?vqkx,?mqky,?vqkz,?mqla,?vqlb,?mqlc,?vqld,?mqle,?vqlf,?mqlg,?vqlh,?mqli,?vqlj,?mqlk,?vqll,?mqlm,?vqln⟩,⟨?mqlo,?vqlp,?mqlq,?vqlr,?mqls,?uqlt,?bqlu,?bqlv,?bqlw,?bqlx,?bqly,?bqlz,?bqma,?bqmb,?bqmc,?bqmd,?bqme,?bqmf,?bqmg,?lqmh⟩⟩⟩
   case mqaa | mqac | mqae | mqag | mqai | mqak | mqam | mqao | mqaq | mqas | mqau | mqaw | mqay | mqba | mqbc | mqbe | mqbg | mqbi | mqbk | mqbm | mqbo | mqbq | mqbs | mqbu | mqbw | mqby | mqca | mqcc | mqce | mqcg | mqci | mqck | mqcm | mqco | mqcq | mqcs | mqcu | mqcw | mqcy | mqda | mqdc | mqde | mqdg | mqdi | mqdk | mqdm | mqdo | mqdq | mqdt | mqei | mqel | mqes | mqez | mqfg | mqfn | mqfq | mqie | mqio | mqiy | mqjr | mqkf | mqkh | mqku | mqkw | mqky | mqla | mqlc | mqle | mqlg | mqli | mqlk | mqlm | mqlo | mqlq | mqls=>(try dsimp only);refine' PySem.W.mg_of eS G ?z;case z=>k_is
   case eqdr | eqdu | eqdw | eqdy | eqea | eqec | eqee | eqeg | eqej | eqem | eqeo | eqeq | eqet | eqev | eqex | eqfa | eqfc | eqfe | eqfh | eqfj | eqfl | eqfo | eqfr | eqft | eqfv=>(try dsimp only);k_is
   case sqfx | sqfy | sqfz | sqga | sqgb | sqgc | sqgd | sqge | sqgi | sqgq | sqgr | sqgs | sqgt | sqhb | sqhc | sqhd | sqhe | sqhm | sqhn | sqho | sqhp | sqhx | sqhy | sqhz | sqia | sqif | sqip | sqiz | sqjf | sqjg | sqjk | sqjl | sqjm | sqjn | sqjs | sqke=>(try dsimp only);constructor <;> k_is
   case Fqab | Fqad | Fqaf | Fqah | Fqaj | Fqal | Fqan | Fqap | Fqar | Fqat | Fqav | Fqax | Fqaz | Fqbb | Fqbd | Fqbf | Fqbh | Fqbj | Fqbl | Fqbn | Fqbp | Fqbr | Fqbt | Fqbv | Fqbx | Fqbz | Fqcb | Fqcd | Fqcf | Fqch | Fqcj | Fqcl | Fqcn | Fqcp | Fqcr | Fqct | Fqcv | Fqcx | Fqcz | Fqdb | Fqdd | Fqdf | Fqdh | Fqdj | Fqdl | Fqdn | Fqdp | Fqds | Fqdv | Fqdx | Fqdz | Fqeb | Fqed | Fqef | Fqeh | Fqek | Fqen | Fqep | Fqer | Fqeu | Fqew | Fqey | Fqfb | Fqfd | Fqff | Fqfi | Fqfk | Fqfm | Fqfp | Fqfs | Fqfu | Fqfw=>(try dsimp only);refine' L2.ad0 ?x ?y ?z;(case x=>k_is);(case y=>k_is);(case z=>k_is)
   case nqgf | nqgg | nqgh | nqgj | nqgk | nqgl | nqgm | nqgn | nqgo | nqgp | nqgu | nqgv | nqgw | nqgx | nqgy | nqgz | nqha | nqhf | nqhg | nqhh | nqhi | nqhj | nqhk | nqhl | nqhq | nqhr | nqhs | nqht | nqhu | nqhv | nqhw | nqib | nqic | nqid | nqig | nqih | nqii | nqij | nqik | nqil | nqim | nqin | nqiq | nqir | nqis | nqit | nqiu | nqiv | nqiw | nqix | nqja | nqjb | nqjc | nqjd | nqje | nqjh | nqji | nqjj | nqjo | nqjp | nqjq | nqjv=>(try dsimp only);unfold L2.bz;k_is
   case rqjw | rqjx=>(try dsimp only);kernel_rfl
   case xqjt=>(try dsimp only);refine' ⟨?_,by kernel_rfl,?_,?_,?_⟩ <;> k_is
   case Xqju=>(try dsimp only);refine' L2.Xa ?x (by kernel_rfl) ?y;(case x=>k_is);(case y=>k_is)
   case dqjy | dqjz | dqka | dqkb | dqkc | dqkd=>(try dsimp only);decide
   case vqkg | vqkv | vqkx | vqkz | vqlb | vqld | vqlf | vqlh | vqlj | vqll | vqln | vqlp | vqlr=>(try dsimp only);exact ⟨_,rfl⟩
   case bqlu | bqlv | bqlw | bqlx | bqly | bqlz | bqma | bqmb | bqmc | bqmd | bqme | bqmf | bqmg=>(try dsimp only);refine' PySem.W.mg_none_of eS G ?z;case z=>k_is
   case tqki=>(try dsimp only);refine' L2.afE ?x ?y ?z;(case x=>k_is);(case y=>k_keys);(case z=>intro x v h;simp only [cX,gP,or_false,MS] at h;rcases h with ⟨rfl,rfl⟩ | ⟨rfl,rfl⟩ | ⟨rfl,rfl⟩ | ⟨rfl,rfl⟩ | ⟨rfl,rfl⟩ | ⟨rfl,rfl⟩ | ⟨rfl,rfl⟩ | ⟨rfl,rfl⟩ | ⟨rfl,rfl⟩ | ⟨rfl,rfl⟩;all_goals (refine' L2.X1 ?px0 ?rx0;(case px0=>k_is);(case rx0=>first | exact ⟨_,rfl⟩ | rfl)))
   case uqkk | uqkl | uqkm | uqkn | uqko | uqkp | uqkq | uqkr | uqks | uqkt | uqlt=>(try dsimp only);refine' My.abt ?x ?y ?z;(case x=>k_is);(case y=>decide);(case z=>(repeat (first | exact .nil | refine' .cons ⟨_,rfl⟩ ?_)))
   case yqkj=>(try dsimp only);refine' My.aaY ?x ?y ?u ?z;(case x=>k_is);(case y=>k_keys);(case u=>decide);(case z=>(repeat (first | exact .nil | refine' .cons ⟨_,rfl⟩ ?_)))
   case lqmh=>(try dsimp only);exact fun _ _=>.of_eq rfl
  obtain ⟨t,T⟩:=T;have eu:=vX.symm.trans T.XU;cases eu;exact ⟨t.tb,T.adh,fun base amb nb=>My.Y2 T⟩
 case S=>exact fun K H a ns ax nW gW=>⟨a,ns,rfl,L2.Sc.akB nW gW,ax,fun _=>rfl⟩
 case C=>exact fun _ _ _ _ z=>z
