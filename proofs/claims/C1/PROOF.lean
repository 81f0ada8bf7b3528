import PyProof.Rows.All
import Wide.All
import OpenK.AllK
import Wide.FinOn
import PyProof.EqAt
import PyProof.EqKinds
import PyProof.TupleCall
import KE.BitLaws
import Open.SpecLaws
import KE.OsHead
import KE.OsGo
import PySem.Challenge.RW_turnsteps_s01_answers
set_option Elab.async false
set_option linter.all false
set_option maxRecDepth 100000
set_option maxHeartbeats 4000000
section
theorem PySem.W.Fast.tw16832001136075341774 : True := trivial
theorem PySem.W.Fast.tw4055031650533748641 : True := trivial
theorem PySem.W.Fast.tw6473605535974917228 : True := trivial
theorem PySem.W.Fast.tw16055916140852984956 : True := trivial
theorem PySem.W.Fast.tw12940342967303960046 : True := trivial
theorem PySem.W.Fast.tw4764885924421909029 : True := trivial
theorem PySem.W.Fast.tw5727097197652421480 : True := trivial
theorem PySem.W.Fast.tw8851794506523332846 : True := trivial
theorem PySem.W.Fast.tw2679481776414223146 : True := trivial
theorem PySem.W.Fast.tw2592996123608211861 : True := trivial
theorem PySem.W.Fast.tw7956443198776591003 : True := trivial
theorem PySem.W.Fast.tw14013624508137012409 : True := trivial
theorem PySem.W.Fast.tw9972411557612634360 : True := trivial
theorem PySem.W.Fast.tw8019047616926512761 : True := trivial
theorem PySem.W.Fast.tw9484170603864581758 : True := trivial
theorem PySem.W.Fast.tw14263274312504687417 : True := trivial
theorem PySem.W.Fast.tw18381413897731597256 : True := trivial
theorem PySem.W.Fast.tw1067251846027686391 : True := trivial
theorem PySem.W.Fast.tw10175376914486503958 : True := trivial
theorem PySem.W.Fast.tw2632552433879959479 : True := trivial
theorem PySem.W.Fast.tw4517351726767613349 : True := trivial
theorem PySem.W.Fast.tw8877423584102684188 : True := trivial
theorem PySem.W.Fast.tw18352663026652950223 : True := trivial
theorem PySem.W.Fast.tw6667807196979091585 : True := trivial
theorem PySem.W.Fast.tw5879379365259493183 : True := trivial
theorem PySem.W.Fast.tw629769647682683783 : True := trivial
theorem PySem.W.Fast.tw1140932088547898267 : True := trivial
theorem PySem.W.Fast.tw18374480537168175088 : True := trivial
theorem PySem.W.Fast.tw9451273533692820869 : True := trivial
theorem PySem.W.Fast.tw16826621685354130882 : True := trivial
theorem PySem.W.Fast.tw10514299071562204643 : True := trivial
theorem PySem.W.Fast.tw14364840692569527006 : True := trivial
theorem PySem.W.Fast.tw8914956810134436072 : True := trivial
theorem PySem.W.Fast.tw17133050985795864693 : True := trivial
theorem PySem.W.Fast.tw16630501685250721405 : True := trivial
theorem PySem.W.Fast.tw10750915044434930266 : True := trivial
theorem PySem.W.Fast.tw9618974890518009501 : True := trivial
theorem PySem.W.Fast.tw203651243090241449 : True := trivial
theorem PySem.W.Fast.tw1684017160393750263 : True := trivial
theorem PySem.W.Fast.tw9359675611161867797 : True := trivial
theorem PySem.W.Fast.tw2609800556490951568 : True := trivial
theorem PySem.W.Fast.tw1918280373694178893 : True := trivial
theorem PySem.W.Fast.tw9496777892100798814 : True := trivial
theorem PySem.W.Fast.tw11229384813771560405 : True := trivial
theorem PySem.W.Fast.tw12934003696091122693 : True := trivial
theorem PySem.W.Fast.tw6819123452166367576 : True := trivial
theorem PySem.W.Fast.tw17615677053415119668 : True := trivial
theorem PySem.W.Fast.tw12033369538153283722 : True := trivial
theorem PySem.W.Fast.tw8618747103050434376 : True := trivial
theorem PySem.W.Fast.tw7162201916118513449 : True := trivial
theorem PySem.W.Fast.tw4632948890006229241 : True := trivial
theorem PySem.W.Fast.tw10134591444761390119 : True := trivial
theorem PySem.W.Fast.tw16890507325170920360 : True := trivial
theorem PySem.W.Fast.tw16825382979673999902 : True := trivial
theorem PySem.W.Fast.tw7752861531936763582 : True := trivial
theorem PySem.W.Fast.tw10896538833927449883 : True := trivial
theorem PySem.W.Fast.tw10920315530119801150 : True := trivial
theorem PySem.W.Fast.tw9806470408254673208 : True := trivial
theorem PySem.W.Fast.tw9173664849978877895 : True := trivial
theorem PySem.W.Fast.tw3503106942117855071 : True := trivial
theorem PySem.W.Fast.tw6523775680824256132 : True := trivial
theorem PySem.W.Fast.tw7386097213216425933 : True := trivial
theorem PySem.W.Fast.tw17399759941180615438 : True := trivial
theorem PySem.W.Fast.tw11417668466032214247 : True := trivial
theorem PySem.W.Fast.tw16601325809881988995 : True := trivial
theorem PySem.W.Fast.tw2562970181557040518 : True := trivial
theorem PySem.W.Fast.tw3994900406759475277 : True := trivial
theorem PySem.W.Fast.tw15851801537909038739 : True := trivial
theorem PySem.W.Fast.tw14800625539966665119 : True := trivial
theorem PySem.W.Fast.tw14343873304726312856 : True := trivial
theorem PySem.W.Fast.tw17236948936864366738 : True := trivial
theorem PySem.W.Fast.tw7080764318153452448 : True := trivial
theorem PySem.W.Fast.tw1594781397473782784 : True := trivial
theorem PySem.W.Fast.tw9082828578521974558 : True := trivial
theorem PySem.W.Fast.tw3518289837031081118 : True := trivial
theorem PySem.W.Fast.tw5674576842578275846 : True := trivial
theorem PySem.W.Fast.tw10357107416146140520 : True := trivial
theorem PySem.W.Fast.tw9415430745636716446 : True := trivial
theorem PySem.W.Fast.tw12220265242897750128 : True := trivial
theorem PySem.W.Fast.tw9970251778303996912 : True := trivial
theorem PySem.W.Fast.tw8965477882407309516 : True := trivial
theorem PySem.W.Fast.tw4474393276640057032 : True := trivial
theorem PySem.W.Fast.tw1890460118310953277 : True := trivial
theorem PySem.W.Fast.tw6475201222254166643 : True := trivial
theorem PySem.W.Fast.tw15998332165622926685 : True := trivial
theorem PySem.W.Fast.tw13045155137222925709 : True := trivial
theorem PySem.W.Fast.tw8942796533372794933 : True := trivial
theorem PySem.W.Fast.tw13905140530882580612 : True := trivial
theorem PySem.W.Fast.tw1219266449572363978 : True := trivial
theorem PySem.W.Fast.tw12708246348472945351 : True := trivial
theorem PySem.W.Fast.tw6827851951015564425 : True := trivial
theorem PySem.W.Fast.tw6479333098471276839 : True := trivial
theorem PySem.W.Fast.tw7934371198977574981 : True := trivial
theorem PySem.W.Fast.tw1516457164807636262 : True := trivial
theorem PySem.W.Fast.tw3273098109082072558 : True := trivial
theorem PySem.W.Fast.tw14958353289780580381 : True := trivial
theorem PySem.W.Fast.tw14609125953134761091 : True := trivial
theorem PySem.W.Fast.tw9223082924750120780 : True := trivial
theorem PySem.W.Fast.tw11485652817582190526 : True := trivial
theorem PySem.W.Fast.tw12562193531489887591 : True := trivial
theorem PySem.W.Fast.tw15704299925250833578 : True := trivial
theorem PySem.W.Fast.tw8416711002348934247 : True := trivial
theorem PySem.W.Fast.tw5956506042733603425 : True := trivial
theorem PySem.W.Fast.tw18356488332015657459 : True := trivial
theorem PySem.W.Fast.tw13003417571787843473 : True := trivial
theorem PySem.W.Fast.tw4938007924294026641 : True := trivial
theorem PySem.W.Fast.tw4322914963176974985 : True := trivial
theorem PySem.W.Fast.tw17247795262008430208 : True := trivial
theorem PySem.W.Fast.tw2435815919012653744 : True := trivial
theorem PySem.W.Fast.tw7036217122995606887 : True := trivial
theorem PySem.W.Fast.tw2938270188682048045 : True := trivial
theorem PySem.W.Fast.tw10757281604451550503 : True := trivial
theorem PySem.W.Fast.tw15931811645412479682 : True := trivial
theorem PySem.W.Fast.tw14129009050377864836 : True := trivial
theorem PySem.W.Fast.tw3534226830220200025 : True := trivial
theorem PySem.W.Fast.tw15048126084838570674 : True := trivial
theorem PySem.W.Fast.tw7643638437060553966 : True := trivial
theorem PySem.W.Fast.tw13198366013445345042 : True := trivial
theorem PySem.W.Fast.tw467799750645462556 : True := trivial
theorem PySem.W.Fast.tw6740949089988387191 : True := trivial
theorem PySem.W.Fast.tw2969357235490118662 : True := trivial
theorem PySem.W.Fast.tw15430037669967548658 : True := trivial
theorem PySem.W.Fast.tw1077894715314794944 : True := trivial
theorem PySem.W.Fast.tw10644498660970297521 : True := trivial
theorem PySem.W.Fast.tw6274729327074036746 : True := trivial
theorem PySem.W.Fast.tw12717031137983968329 : True := trivial
theorem PySem.W.Fast.tw16713135893842071816 : True := trivial
theorem PySem.W.Fast.tw17567773818654854539 : True := trivial
theorem PySem.W.Fast.tw6948257725342339077 : True := trivial
theorem PySem.W.Fast.tw2083002199051902196 : True := trivial
theorem PySem.W.Fast.tw10346244378987151729 : True := trivial
theorem PySem.W.Fast.tw17697520871261576363 : True := trivial
theorem PySem.W.Fast.tw8493538784085907951 : True := trivial
theorem PySem.W.Fast.tw14150448763029618914 : True := trivial
theorem PySem.W.Fast.tw7877654364366589171 : True := trivial
theorem PySem.W.Fast.tw7766342317189429085 : True := trivial
theorem PySem.W.Fast.tw9005281534732768653 : True := trivial
theorem PySem.W.Fast.tw11883922212053559605 : True := trivial
theorem PySem.W.Fast.tw5200524148390511248 : True := trivial
theorem PySem.W.Fast.tw6700264614586571022 : True := trivial
theorem PySem.W.Fast.tw13010585980674184801 : True := trivial
theorem PySem.W.Fast.tw15392472659403366115 : True := trivial
theorem PySem.W.Fast.tw15704002867608035056 : True := trivial
theorem PySem.W.Fast.tw14093082274635704713 : True := trivial
theorem PySem.W.Fast.tw13186569039044215875 : True := trivial
theorem PySem.W.Fast.tw16625664716995708068 : True := trivial
theorem PySem.W.Fast.tw3426491326600214865 : True := trivial
theorem PySem.W.Fast.tw11423735770284648921 : True := trivial
theorem PySem.W.Fast.tw12954562829051557413 : True := trivial
theorem PySem.W.Fast.tw287383716286187417 : True := trivial
theorem PySem.W.Fast.tw5888912109927267853 : True := trivial
theorem PySem.W.Fast.tw9582274846061754214 : True := trivial
theorem PySem.W.Fast.tw1395665908074555098 : True := trivial
theorem PySem.W.Fast.tw17067242145230253677 : True := trivial
theorem PySem.W.Fast.tw1231808130548490947 : True := trivial
theorem PySem.W.Fast.tw15962960564384796358 : True := trivial
theorem PySem.W.Fast.tw3120775623470445624 : True := trivial
theorem PySem.W.Fast.tw9353329115983710340 : True := trivial
theorem PySem.W.Fast.tw15955480321057760206 : True := trivial
theorem PySem.W.Fast.tw2631915171790189377 : True := trivial
theorem PySem.W.Fast.tw3867807838171860929 : True := trivial
theorem PySem.W.Fast.tw2106567788421086281 : True := trivial
theorem PySem.W.Fast.tw7428093333923681640 : True := trivial
theorem PySem.W.Fast.tw15402401930608086037 : True := trivial
theorem PySem.W.Fast.tw15325302635468135438 : True := trivial
theorem PySem.W.Fast.tw6837378263000923653 : True := trivial
theorem PySem.W.Fast.tw10341979704199080373 : True := trivial
theorem PySem.W.Fast.tw8187609164277327487 : True := trivial
theorem PySem.W.Fast.tw14527887144609726397 : True := trivial
theorem PySem.W.Fast.tw18350215988698724697 : True := trivial
theorem PySem.W.Fast.tw12016145604032826601 : True := trivial
theorem PySem.W.Fast.tw16805047995875465474 : True := trivial
theorem PySem.W.Fast.tw8926153549703246540 : True := trivial
theorem PySem.W.Fast.tw11669740795626244748 : True := trivial
theorem PySem.W.Fast.tw11928803193309314994 : True := trivial
theorem PySem.W.Fast.tw5206479567021001445 : True := trivial
theorem PySem.W.Fast.tw10397709273240534903 : True := trivial
theorem PySem.W.Fast.tw16056847185343784808 : True := trivial
theorem PySem.W.Fast.tw2303365773555681273 : True := trivial
theorem PySem.W.Fast.tw3271934352645767986 : True := trivial
theorem PySem.W.Fast.tw443212101796397710 : True := trivial
theorem PySem.W.Fast.tw15415261312190955623 : True := trivial
theorem PySem.W.Fast.tw2768131747871622400 : True := trivial
theorem PySem.W.Fast.tw6444529433901754352 : True := trivial
theorem PySem.W.Fast.tw14231952705981128767 : True := trivial
theorem PySem.W.Fast.tw9568013158890518515 : True := trivial
theorem PySem.W.Fast.tw1487883535876789712 : True := trivial
theorem PySem.W.Fast.tw17331046631615132528 : True := trivial
theorem PySem.W.Fast.tw12420216070986214721 : True := trivial
theorem PySem.W.Fast.tw3186973395990122116 : True := trivial
theorem PySem.W.Fast.tw14956928872856216927 : True := trivial
theorem PySem.W.Fast.tw16936566953447302367 : True := trivial
theorem PySem.W.Fast.tw1467086063572755547 : True := trivial
theorem PySem.W.Fast.tw17213375766494467926 : True := trivial
theorem PySem.W.Fast.tw17517041347056113566 : True := trivial
theorem PySem.W.Fast.tw807124181544064132 : True := trivial
theorem PySem.W.Fast.tw11116784331394935638 : True := trivial
theorem PySem.W.Fast.tw5586648770218568030 : True := trivial
theorem PySem.W.Fast.tw3558963748904248156 : True := trivial
theorem PySem.W.Fast.tw4047945298288334494 : True := trivial
theorem PySem.W.Fast.tw11086371276027541877 : True := trivial
theorem PySem.W.Fast.tw10311499964527886097 : True := trivial
theorem PySem.W.Fast.tw5112000564183624203 : True := trivial
theorem PySem.W.Fast.tw16939576344920345344 : True := trivial
theorem PySem.W.Fast.tw11145052384645866776 : True := trivial
theorem PySem.W.Fast.tw5574456814992222729 : True := trivial
theorem PySem.W.Fast.tw15834061579494758379 : True := trivial
theorem PySem.W.Fast.tw16683511895105560648 : True := trivial
theorem PySem.W.Fast.tw13719129760075511361 : True := trivial
theorem PySem.W.Fast.tw6084477494552072725 : True := trivial
theorem PySem.W.Fast.tw17522585320967837689 : True := trivial
theorem PySem.W.Fast.tw8851501475854522480 : True := trivial
theorem PySem.W.Fast.tw10210650813668095304 : True := trivial
theorem PySem.W.Fast.tw9882050560825735957 : True := trivial
theorem PySem.W.Fast.tw11252872543748037003 : True := trivial
theorem PySem.W.Fast.tw10537365301772810612 : True := trivial
theorem PySem.W.Fast.tw13699413330541111875 : True := trivial
theorem PySem.W.Fast.tw16806938065161215302 : True := trivial
theorem PySem.W.Fast.tw5576100221676309340 : True := trivial
theorem PySem.W.Fast.tw7230394735945443538 : True := trivial
theorem PySem.W.Fast.tw2640210821576425352 : True := trivial
theorem PySem.W.Fast.tw6437752900702278237 : True := trivial
theorem PySem.W.Fast.tw8696732240006253325 : True := trivial
theorem PySem.W.Fast.tw17352330951673623136 : True := trivial
theorem PySem.W.Fast.tw2578143205669745771 : True := trivial
theorem PySem.W.Fast.tw5403703837295104919 : True := trivial
theorem PySem.W.Fast.tw12747732039001045916 : True := trivial
theorem PySem.W.Fast.tw4059865688303320568 : True := trivial
theorem PySem.W.Fast.tw8136809477028797223 : True := trivial
theorem PySem.W.Fast.tw14026279451161908468 : True := trivial
theorem PySem.W.Fast.tw18221820743166668986 : True := trivial
theorem PySem.W.Fast.tw8111358365181770296 : True := trivial
theorem PySem.W.Fast.tw8843750959455584101 : True := trivial
theorem PySem.W.Fast.tw2360336447315666689 : True := trivial
theorem PySem.W.Fast.tw15285689621482327126 : True := trivial
theorem PySem.W.Fast.tw5916648829663731718 : True := trivial
theorem PySem.W.Fast.tw8736318117639859100 : True := trivial
theorem PySem.W.Fast.tw752551729359745796 : True := trivial
theorem PySem.W.Fast.tw16938869321416388041 : True := trivial
theorem PySem.W.Fast.tw13665382857289522738 : True := trivial
theorem PySem.W.Fast.tw15503305454525800412 : True := trivial
theorem PySem.W.Fast.tw9754934397169218072 : True := trivial
theorem PySem.W.Fast.tw4121738844198312209 : True := trivial
theorem PySem.W.Fast.tw10031402151926344930 : True := trivial
theorem PySem.W.Fast.tw1757201675675335000 : True := trivial
theorem PySem.W.Fast.tw7860162458137028509 : True := trivial
theorem PySem.W.Fast.tw7365968451343190644 : True := trivial
theorem PySem.W.Fast.tw2224182727353370067 : True := trivial
theorem PySem.W.Fast.tw11085940332603812005 : True := trivial
theorem PySem.W.Fast.tw15056570588519143279 : True := trivial
theorem PySem.W.Fast.tw416465224067892176 : True := trivial
theorem PySem.W.Fast.tw2703781952717280935 : True := trivial
theorem PySem.W.Fast.tw4000957060840807425 : True := trivial
theorem PySem.W.Fast.tw5144691524057226505 : True := trivial
theorem PySem.W.Fast.tw10013512550589804287 : True := trivial
theorem PySem.W.Fast.tw5228428107956647006 : True := trivial
theorem PySem.W.Fast.tw4192689093118285360 : True := trivial
theorem PySem.W.Fast.tw17933222681217930988 : True := trivial
theorem PySem.W.Fast.tw16293957150230301510 : True := trivial
theorem PySem.W.Fast.tw15402280720933288312 : True := trivial
theorem PySem.W.Fast.tw5784469784999020523 : True := trivial
theorem PySem.W.Fast.tw14778679608378654452 : True := trivial
theorem PySem.W.Fast.tw5146347453994056840 : True := trivial
theorem PySem.W.Fast.tw10115132179514146410 : True := trivial
theorem PySem.W.Fast.tw12249551890801310363 : True := trivial
theorem PySem.W.Fast.tw1488952646704904492 : True := trivial
theorem PySem.W.Fast.tw1988450707419014099 : True := trivial
theorem PySem.W.Fast.tw420603093317460270 : True := trivial
theorem PySem.W.Fast.tw2193190505289232999 : True := trivial
theorem PySem.W.Fast.tw10649716268903777029 : True := trivial
theorem PySem.W.Fast.tw9864783166006012120 : True := trivial
theorem PySem.W.Fast.tw7710252647248245236 : True := trivial
theorem PySem.W.Fast.tw3960428369361633635 : True := trivial
theorem PySem.W.Fast.tw7068333433026287022 : True := trivial
theorem PySem.W.Fast.tw13926855878027267003 : True := trivial
theorem PySem.W.Fast.tw5888372740947891575 : True := trivial
theorem PySem.W.Fast.tw11238057429744435173 : True := trivial
theorem PySem.W.Fast.tw6883203718589629569 : True := trivial
theorem PySem.W.Fast.tw2079703665066164860 : True := trivial
theorem PySem.W.Fast.tw2979711578490395162 : True := trivial
theorem PySem.W.Fast.tw11845396723528271759 : True := trivial
theorem PySem.W.Fast.tw2213881498024187845 : True := trivial
theorem PySem.W.Fast.tw13530167776001046203 : True := trivial
theorem PySem.W.Fast.tw16747881353411600772 : True := trivial
theorem PySem.W.Fast.tw4610154914059509673 : True := trivial
theorem PySem.W.Fast.tw17465452338498764671 : True := trivial
theorem PySem.W.Fast.tw10766510155329317560 : True := trivial
theorem PySem.W.Fast.tw853989597866407378 : True := trivial
theorem PySem.W.Fast.tw3194572743902531196 : True := trivial
theorem PySem.W.Fast.tw9590513278858399398 : True := trivial
theorem PySem.W.Fast.tw10939012361680579739 : True := trivial
theorem PySem.W.Fast.tw4878036837537761415 : True := trivial
theorem PySem.W.Fast.tw7638876900913004615 : True := trivial
theorem PySem.W.Fast.tw9530167553354292245 : True := trivial
theorem PySem.W.Fast.tw5617654533281348685 : True := trivial
theorem PySem.W.Fast.tw3712136403095424369 : True := trivial
theorem PySem.W.Fast.tw6252579768238449608 : True := trivial
theorem PySem.W.Fast.tw17146088830754779274 : True := trivial
theorem PySem.W.Fast.tw8689399660798186044 : True := trivial
theorem PySem.W.Fast.tw9531175307466042534 : True := trivial
theorem PySem.W.Fast.tw9103650951912150631 : True := trivial
theorem PySem.W.Fast.tw16737957005336568341 : True := trivial
theorem PySem.W.Fast.tw14295654011948241838 : True := trivial
theorem PySem.W.Fast.tw2491708063651826679 : True := trivial
theorem PySem.W.Fast.tw14835155468059156576 : True := trivial
theorem PySem.W.Fast.tw13969902946823950055 : True := trivial
theorem PySem.W.Fast.tw4522193275069911521 : True := trivial
theorem PySem.W.Fast.tw858233873565929568 : True := trivial
theorem PySem.W.Fast.tw15373141983345947492 : True := trivial
theorem PySem.W.Fast.tw9644525976671925288 : True := trivial
theorem PySem.W.Fast.tw11953262711014788133 : True := trivial
theorem PySem.W.Fast.tw3851669987046809691 : True := trivial
theorem PySem.W.Fast.tw473569104336232739 : True := trivial
theorem PySem.W.Fast.tw13529166840787254662 : True := trivial
theorem PySem.W.Fast.tw15478659024188143029 : True := trivial
theorem PySem.W.Fast.tw7321369787681491810 : True := trivial
theorem PySem.W.Fast.tw17548798282740674294 : True := trivial
theorem PySem.W.Fast.tw4533917061605814203 : True := trivial
theorem PySem.W.Fast.tw373976192009412120 : True := trivial
theorem PySem.W.Fast.tw9432635506817590814 : True := trivial
theorem PySem.W.Fast.tw2231056265219022534 : True := trivial
theorem PySem.W.Fast.tw7153372623180623935 : True := trivial
theorem PySem.W.Fast.tw10371796315493948142 : True := trivial
theorem PySem.W.Fast.tw234191258595983956 : True := trivial
theorem PySem.W.Fast.tw542662395686632080 : True := trivial
theorem PySem.W.Fast.tw16322690751978453470 : True := trivial
theorem PySem.W.Fast.tw10786680416967909519 : True := trivial
theorem PySem.W.Fast.tw5681122795703843769 : True := trivial
theorem PySem.W.Fast.tw426776751877482209 : True := trivial
theorem PySem.W.Fast.tw14011792912541927583 : True := trivial
theorem PySem.W.Fast.tw8078544140697066176 : True := trivial
theorem PySem.W.Fast.tw16466318814009153977 : True := trivial
theorem PySem.W.Fast.tw13281930472393508797 : True := trivial
theorem PySem.W.Fast.tw6607311135228473353 : True := trivial
theorem PySem.W.Fast.tw4855243944062879426 : True := trivial
theorem PySem.W.Fast.tw11392314672628671806 : True := trivial
theorem PySem.W.Fast.tw12331338740345156086 : True := trivial
theorem PySem.W.Fast.tw5322848111115354307 : True := trivial
theorem PySem.W.Fast.tw5630104544021563458 : True := trivial
theorem PySem.W.Fast.tw16431180432251912991 : True := trivial
theorem PySem.W.Fast.tw6748992827423504863 : True := trivial
theorem PySem.W.Fast.tw1239669767302778693 : True := trivial
theorem PySem.W.Fast.tw17741131294760411332 : True := trivial
theorem PySem.W.Fast.tw17468198838488861764 : True := trivial
theorem PySem.W.Fast.tw3787729773978306148 : True := trivial
theorem PySem.W.Fast.tw7665858662345610376 : True := trivial
theorem PySem.W.Fast.tw3521771244548225957 : True := trivial
theorem PySem.W.Fast.tw8577126940010529529 : True := trivial
theorem PySem.W.Fast.tw6976766173748848488 : True := trivial
theorem PySem.W.Fast.tw13088198899482411171 : True := trivial
theorem PySem.W.Fast.tw13273595270618005917 : True := trivial
theorem PySem.W.Fast.tw3108707364181020901 : True := trivial
theorem PySem.W.Fast.tw6504804655043632720 : True := trivial
theorem PySem.W.Fast.tw8984339707855093176 : True := trivial
theorem PySem.W.Fast.tw7740517328409534981 : True := trivial
theorem PySem.W.Fast.tw2612238148794604129 : True := trivial
theorem PySem.W.Fast.tw14140175644676469539 : True := trivial
theorem PySem.W.Fast.tw14713871653256541006 : True := trivial
theorem PySem.W.Fast.tw2971568132179975828 : True := trivial
theorem PySem.W.Fast.tw10722612898630213517 : True := trivial
theorem PySem.W.Fast.tw8562074590335763746 : True := trivial
theorem PySem.W.Fast.tw12695771713867433971 : True := trivial
theorem PySem.W.Fast.tw799864766501373167 : True := trivial
theorem PySem.W.Fast.tw16319219011043307688 : True := trivial
theorem PySem.W.Fast.tw9352226411280664120 : True := trivial
theorem PySem.W.Fast.tw6890974031423861239 : True := trivial
theorem PySem.W.Fast.tw3209426117772977389 : True := trivial
theorem PySem.W.Fast.tw6278991483475627632 : True := trivial
theorem PySem.W.Fast.tw14669247020525132004 : True := trivial
theorem PySem.W.Fast.tw13154062274629178084 : True := trivial
theorem PySem.W.Fast.tw504902117392881346 : True := trivial
theorem PySem.W.Fast.tw10741124435022869193 : True := trivial
theorem PySem.W.Fast.tw11457389736052777242 : True := trivial
theorem PySem.W.Fast.tw4012383012005332542 : True := trivial
theorem PySem.W.Fast.tw13600795418268367982 : True := trivial
theorem PySem.W.Fast.tw17556871419344125829 : True := trivial
theorem PySem.W.Fast.tw16761251967517820562 : True := trivial
theorem PySem.W.Fast.tw2695462417502268098 : True := trivial
theorem PySem.W.Fast.tw13259537408496278913 : True := trivial
theorem PySem.W.Fast.tw4561888036466654888 : True := trivial
theorem PySem.W.Fast.tw13251851636783488572 : True := trivial
theorem PySem.W.Fast.tw9422427691599202080 : True := trivial
theorem PySem.W.Fast.tw495627261520670513 : True := trivial
theorem PySem.W.Fast.tw6474623531823451716 : True := trivial
theorem PySem.W.Fast.tw17287651579020454842 : True := trivial
theorem PySem.W.Fast.tw7423643047523142299 : True := trivial
theorem PySem.W.Fast.tw3313205471990042674 : True := trivial
theorem PySem.W.Fast.tw11644632610683346670 : True := trivial
theorem PySem.W.Fast.tw2057251359354647786 : True := trivial
theorem PySem.W.Fast.tw15893347047093304660 : True := trivial
theorem PySem.W.Fast.tw6082665950182108275 : True := trivial
theorem PySem.W.Fast.tw6581859178573410685 : True := trivial
theorem PySem.W.Fast.tw2883877707839893739 : True := trivial
theorem PySem.W.Fast.tw18043537244779266553 : True := trivial
theorem PySem.W.Fast.tw10821381057337176253 : True := trivial
theorem PySem.W.Fast.tw12266469815836402269 : True := trivial
theorem PySem.W.Fast.tw3788593873577002846 : True := trivial
theorem PySem.W.Fast.tw4166572594667166578 : True := trivial
theorem PySem.W.Fast.tw10111930229675153369 : True := trivial
theorem PySem.W.Fast.tw9845362391478424665 : True := trivial
theorem PySem.W.Fast.tw6051569441998660932 : True := trivial
theorem PySem.W.Fast.tw15002443054943834990 : True := trivial
theorem PySem.W.Fast.tw16592069301371135994 : True := trivial
theorem PySem.W.Fast.tw15229872431303780185 : True := trivial
theorem PySem.W.Fast.tw15110427118196871082 : True := trivial
theorem PySem.W.Fast.tw10975353162149190295 : True := trivial
theorem PySem.W.Fast.tw5899324996253933 : True := trivial
theorem PySem.W.Fast.tw18362488337585708535 : True := trivial
theorem PySem.W.Fast.tw5696400245263458200 : True := trivial
theorem PySem.W.Fast.tw12050631218763974523 : True := trivial
theorem PySem.W.Fast.tw9608905486108158659 : True := trivial
theorem PySem.W.Fast.tw16751276344982128371 : True := trivial
theorem PySem.W.Fast.tw9587296267950025987 : True := trivial
theorem PySem.W.Fast.tw14463618657666895249 : True := trivial
theorem PySem.W.Fast.tw3270881850645227532 : True := trivial
theorem PySem.W.Fast.tw13355062174122130313 : True := trivial
theorem PySem.W.Fast.tw480009664670865845 : True := trivial
theorem PySem.W.Fast.tw98278383829670134 : True := trivial
theorem PySem.W.Fast.tw1092569914879659792 : True := trivial
theorem PySem.W.Fast.tw10066065031565710889 : True := trivial
theorem PySem.W.Fast.tw14350553807063372882 : True := trivial
theorem PySem.W.Fast.tw935446152972895413 : True := trivial
theorem PySem.W.Fast.tw10962114715339267798 : True := trivial
theorem PySem.W.Fast.tw2306362720336054137 : True := trivial
theorem PySem.W.Fast.tw12014441154742008001 : True := trivial
theorem PySem.W.Fast.tw8286554943721610250 : True := trivial
theorem PySem.W.Fast.tw2093755947936610282 : True := trivial
theorem PySem.W.Fast.tw16186996003636016900 : True := trivial
theorem PySem.W.Fast.tw3285413305049931159 : True := trivial
theorem PySem.W.Fast.tw5253165242464909073 : True := trivial
theorem PySem.W.Fast.tw4673673158214786321 : True := trivial
theorem PySem.W.Fast.tw9986009525586131968 : True := trivial
theorem PySem.W.Fast.tw3619730758922947937 : True := trivial
theorem PySem.W.Fast.tw18091474890778996646 : True := trivial
theorem PySem.W.Fast.tw12516327879546516210 : True := trivial
theorem PySem.W.Fast.tw11808003836958540201 : True := trivial
theorem PySem.W.Fast.tw1895074077181129691 : True := trivial
theorem PySem.W.Fast.tw1335562015212709325 : True := trivial
theorem PySem.W.Fast.tw17609669296826137193 : True := trivial
theorem PySem.W.Fast.tw143707493230441583 : True := trivial
theorem PySem.W.Fast.tw815538824639174224 : True := trivial
theorem PySem.W.Fast.tw7831866675975580652 : True := trivial
theorem PySem.W.Fast.tw4178978932480304900 : True := trivial
theorem PySem.W.Fast.tw15109201645810399907 : True := trivial
theorem PySem.W.Fast.tw11710573120830230793 : True := trivial
theorem PySem.W.Fast.tw10992492187447808131 : True := trivial
theorem PySem.W.Fast.tw17239334974419781263 : True := trivial
theorem PySem.W.Fast.tw9885375305187795602 : True := trivial
theorem PySem.W.Fast.tw14957028996297164998 : True := trivial
theorem PySem.W.Fast.tw9660431443436048877 : True := trivial
theorem PySem.W.Fast.tw5750072788172331080 : True := trivial
theorem PySem.W.Fast.tw11659291447343456203 : True := trivial
theorem PySem.W.Fast.tw18365973183600802853 : True := trivial
theorem PySem.W.Fast.tw11290236688518067041 : True := trivial
theorem PySem.W.Fast.tw12736287295134707873 : True := trivial
theorem PySem.W.Fast.tw8586365766514685255 : True := trivial
theorem PySem.W.Fast.tw16608216757706026093 : True := trivial
theorem PySem.W.Fast.tw8704016250991139717 : True := trivial
theorem PySem.W.Fast.tw18376841166066491556 : True := trivial
theorem PySem.W.Fast.tw18100413959483421528 : True := trivial
theorem PySem.W.Fast.tw15675877932321341288 : True := trivial
theorem PySem.W.Fast.tw16424186314906905758 : True := trivial
theorem PySem.W.Fast.tw151838288399494994 : True := trivial
theorem PySem.W.Fast.tw4641843671338268140 : True := trivial
theorem PySem.W.Fast.tw4357031051625919011 : True := trivial
theorem PySem.W.Fast.tw15470776979636220767 : True := trivial
theorem PySem.W.Fast.tw9269422969947684749 : True := trivial
theorem PySem.W.Fast.tw14732293805033428832 : True := trivial
theorem PySem.W.Fast.tw6346578017331669539 : True := trivial
theorem PySem.W.Fast.tw4571446379640587676 : True := trivial
theorem PySem.W.Fast.tw293914946118734213 : True := trivial
theorem PySem.W.Fast.tw8582678269273279148 : True := trivial
theorem PySem.W.Fast.tw8184392185451359344 : True := trivial
theorem PySem.W.Fast.tw18056809388601587531 : True := trivial
theorem PySem.W.Fast.tw17779837638039431896 : True := trivial
theorem PySem.W.Fast.tw10488937233526303904 : True := trivial
theorem PySem.W.Fast.tw12388853076510634936 : True := trivial
theorem PySem.W.Fast.tw6845574024593799436 : True := trivial
theorem PySem.W.Fast.tw15380333748944123859 : True := trivial
theorem PySem.W.Fast.tw15317232728652571793 : True := trivial
theorem PySem.W.Fast.tw387774814670054841 : True := trivial
theorem PySem.W.Fast.tw3844459988148945040 : True := trivial
section
open PySem PySem.W PyProof.Rows
local macro_rules | `(tactic| o_law) => `(tactic| skip)
local macro_rules | `(tactic| k_head) => `(tactic| k_headS)
local macro_rules | `(tactic| w_witness2) => `(tactic| exact ⟨[.list [.int 20]], by decide +kernel, by decide +kernel⟩)
set_option maxRecDepth 100000 in
set_option maxHeartbeats 0 in
open_top D.hd for PySem.Challenge.rw_turnsteps_s01_answers
end
end
section
set_option Elab.async false
set_option linter.all false
set_option maxRecDepth 100000
namespace L2
open PySem PySem.Spec PyProof.Rows
abbrev Key := Sum Int Str
def keyIs : Key → Value → Bool
  | .inl k, v => Value.isInt k v
  | .inr x, v => Value.isStrOf x v
def keyH (w : World) : Key → Int
  | .inl k => hashInt k
  | .inr x => hashStr w x
theorem keyIs_shape : ∀ {k : Key} {v : Value}, keyIs k v = true → (∃ i t, k = Sum.inl i ∧ v = Value.int i t) ∨ (∃ x t, k = Sum.inr x ∧ v = Value.str x t)
  | .inl i, v, h => by
    obtain ⟨t, e⟩ := Value.isInt_shape (k := i) (v := v) h
    exact .inl ⟨i, t, rfl, e⟩
  | .inr x, v, h => by
    obtain ⟨t, e⟩ := Value.isStrOf_shape (x := x) (v := v) h
    exact .inr ⟨x, t, rfl, e⟩
theorem keyIs_int (i : Int) (t : Tok) : keyIs (.inl i) (.int i t) = true := by simp [keyIs, Value.isInt]
theorem keyIs_str (x : Str) (t : Tok) : keyIs (.inr x) (.str x t) = true := by simp [keyIs, Value.isStrOf]
theorem key_ll (a b : Int) : decide ((Sum.inl a : Key) = Sum.inl b) = (a == b) := by
  by_cases e : a = b
  · subst e; simp
  · have h : ¬ (Sum.inl a : Key) = Sum.inl b := fun q => e (Sum.inl.inj q)
    rw [decide_eq_false h]
    exact (beq_eq_false_iff_ne.mpr e).symm
theorem key_rr (a b : Str) : decide ((Sum.inr a : Key) = Sum.inr b) = decide (a = b) := by
  by_cases e : a = b
  · subst e; simp
  · have h : ¬ (Sum.inr a : Key) = Sum.inr b := fun q => e (Sum.inr.inj q)
    rw [decide_eq_false h, decide_eq_false e]
theorem key_lr (a : Int) (b : Str) : decide ((Sum.inl a : Key) = Sum.inr b) = false := decide_eq_false (fun q => nomatch q)
theorem key_rl (a : Str) (b : Int) : decide ((Sum.inr a : Key) = Sum.inl b) = false := decide_eq_false (fun q => nomatch q)
def mixKind (prog : Program) (w : World) : PySem.KeyKind prog w Key where
  is := keyIs
  hash := keyH w
  inj := fun v a b ha hb => by
    rcases keyIs_shape ha with ⟨i, t, rfl, rfl⟩ | ⟨x, t, rfl, rfl⟩
    · rcases keyIs_shape hb with ⟨j, u, rfl, e⟩ | ⟨y, u, rfl, e⟩
      · injection e with e1 _; rw [e1]
      · exact nomatch e
    · rcases keyIs_shape hb with ⟨j, u, rfl, e⟩ | ⟨y, u, rfl, e⟩
      · exact nomatch e
      · injection e with e1 _; rw [e1]
  byValue := fun k v h => by
    rcases keyIs_shape h with ⟨i, t, rfl, rfl⟩ | ⟨x, t, rfl, rfl⟩ <;> rfl
  pyHash := fun hv h => by
    rcases keyIs_shape hv with ⟨i, t, rfl, rfl⟩ | ⟨x, t, rfl, rfl⟩
    · exact wpAny_pyHash_int h
    · exact wpAny_pyHash_str h
  eqBool := fun hu hv h => by
    rcases keyIs_shape hu with ⟨i, t, rfl, rfl⟩ | ⟨x, t, rfl, rfl⟩
    · rcases keyIs_shape hv with ⟨j, u, rfl, rfl⟩ | ⟨y, u, rfl, rfl⟩
      · rw [key_ll] at h; exact wpAny_eqBool_int h
      · rw [key_lr] at h; exact SeqAt.EqAt.int_str i t y u _ _ _ _ h
    · rcases keyIs_shape hv with ⟨j, u, rfl, rfl⟩ | ⟨y, u, rfl, rfl⟩
      · rw [key_rl] at h; exact SeqAt.EqAt.str_int x t j u _ _ _ _ h
      · rw [key_rr] at h; exact wpAny_eqBool_str h
  «strs» := fun k x t v h => by
    rcases keyIs_shape h with ⟨i, u, rfl, e⟩ | ⟨y, u, rfl, e⟩
    · exact nomatch e
    · injection e with e1 _
      subst e1
      cases v <;> rfl
theorem mixKind_int (prog : Program) (w : World) (i : Int) (t : Tok) : (mixKind prog w).is (.inl i) (.int i t) = true := keyIs_int i t
theorem mixKind_str (prog : Program) (w : World) (x : Str) (t : Tok) : (mixKind prog w).is (.inr x) (.str x t) = true := keyIs_str x t
end L2
namespace L2
open PySem PySem.Spec PyProof.Rows
inductive V where
  | non | bl (b : Bool) | int (i : Int) | str (x : Str) | byt (b : Array UInt8) | flt (b : UInt64) | ref (a : Addr) | ty (n : String)
  deriving DecidableEq
def RelV : V → Value → Prop
  | .non, u => u = Value.none
  | .bl b, u => u = Value.bool b
  | .int i, u => ∃ t, u = Value.int i t
  | .str x, u => ∃ t, u = Value.str x t
  | .byt b, u => ∃ t, u = Value.bytes b t
  | .flt b, u => ∃ t, u = Value.float b t
  | .ref a, u => u = Value.ref a
  | .ty n, u => u = Value.type n
abbrev Vals : List V → List Value → Prop := Paired RelV
theorem Vals.length {xs : List V} {us : List Value} (r : Vals xs us) : xs.length = us.length := Paired.length r
theorem Vals.get : ∀ {xs : List V} {us : List Value} {i : Nat} {x : V}, Vals xs us → xs[i]? = some x → ∃ u, us[i]? = some u ∧ RelV x u
  | _, _, _, _, .nil, e => by simp at e
  | _, _, 0, _, .cons r _, e => by simp at e; subst e; exact ⟨_, rfl, r⟩
  | _, _, i + 1, x, .cons _ t, e => by
    obtain ⟨u, h1, h2⟩ := Vals.get (i := i) (x := x) t (by simpa using e)
    exact ⟨u, by simpa using h1, h2⟩
theorem Vals.set {x : V} {u : Value} (r : RelV x u) : ∀ {xs : List V} {us : List Value} (i : Nat), Vals xs us → Vals (xs.set i x) (us.set i u)
  | _, _, _, .nil => .nil
  | _, _, 0, .cons _ t => .cons r t
  | _, _, i + 1, .cons q t => .cons q (Vals.set r i t)
theorem Vals.append : ∀ {xs ys : List V} {us ws : List Value}, Vals xs us → Vals ys ws → Vals (xs ++ ys) (us ++ ws)
  | _, _, _, _, .nil, s => s
  | _, _, _, _, .cons r t, s => .cons r (Vals.append t s)
theorem Vals.take : ∀ {xs : List V} {us : List Value} (n : Nat), Vals xs us → Vals (xs.take n) (us.take n)
  | _, _, 0, _ => .nil
  | _, _, _ + 1, .nil => .nil
  | _, _, n + 1, .cons r t => .cons r (Vals.take n t)
theorem Vals.drop : ∀ {xs : List V} {us : List Value} (n : Nat), Vals xs us → Vals (xs.drop n) (us.drop n)
  | _, _, 0, r => r
  | _, _, _ + 1, .nil => .nil
  | _, _, n + 1, .cons _ t => Vals.drop n t
def RelO : Option V → Option Value → Prop
  | some v, some u => RelV v u
  | none, none => True
  | _, _ => False
def KV {κ : Type} : List (κ × V) → List (κ × Value) → Prop := Paired fun (p : κ × V) (q : κ × Value) => p.1 = q.1 ∧ RelV p.2 q.2
def kV : Key → V
  | .inl i => .int i
  | .inr x => .str x
inductive HO where
    | lst (xs : List V)
    | tup (xs : List V)
    | dK (kvs : List (Key × V)) | dT (kvs : List (List Key × V))
    | set (S : Int → Bool) (n : Nat)
    | ins (C dx : Addr) (fs : List (Str × V))
    | own (x : Addr)
    | xd (fs : List (Str × V))
    | met (f x : Addr)
    | rng (lo hi : Int)
    | frz (o : Obj) (u : HO)
    | tbl (ps : Array Value)
    | ext (φ : Heap → Prop)
abbrev Hp := Addr → Option HO
def upd (H : Hp) (a : Addr) (o : HO) : Hp := fun b => if b = a then some o else H b
theorem upd_same {H : Hp} {a : Addr} {o : HO} : upd H a o a = some o := by unfold upd; rw [if_pos rfl]
theorem upd_ne {H : Hp} {a b : Addr} {o : HO} (h : b ≠ a) : upd H a o b = H b := by unfold upd; rw [if_neg h]
theorem ne_of {H : Hp} {a b : Addr} {o u : HO} (h : H a = some o) (h' : H b = some u) (d : o ≠ u) : a ≠ b := by
  intro e; subst e; rw [h] at h'; exact d (Option.some.inj h')
theorem ne_of_none {H : Hp} {a b : Addr} {o : HO} (h : H a = some o) (h' : H b = none) : a ≠ b := by
  intro e; subst e; rw [h] at h'; cases h'
section
variable (P : Program) (w : World)
def ObjOk (H : Hp) (h : Heap) (a : Addr) : HO → Prop
  | .lst xs => xs.length ≤ sizeLine ∧ ∃ (its : List Value) (n : Nat), Vals xs its ∧ h.get? a = some { cls := .type "list", data := .seq its.toArray n }
  | .tup xs => xs.length ≤ sizeLine ∧ ∃ its : List Value, Vals xs its ∧ IsTup h a its.toArray
  | .dK kvs => kvs.length ≤ sizeLine ∧ (a == sysModules) = false ∧ ∃ vs, KV kvs vs ∧ h.DictOf (mixKind P w) a vs
  | .dT kvs => kvs.length ≤ sizeLine ∧ (a == sysModules) = false ∧ ∃ xs : List (List Key × Addr × Value),
      Paired (fun (p : List Key × V) (q : List Key × Addr × Value) => p.1 = q.1 ∧ H q.2.1 = some (.tup (p.1.map kV)) ∧ RelV p.2 q.2.2) kvs xs ∧
      ∃ o es ep, h.get? a = some o ∧ o.ExactDict ∧ o.data = .dict es ep ∧ es.toList = xs.map (entryOfKey (tupleKind (mixKind P w))) ∧ (xs.map (·.1)).Nodup
  | .set S n => h.SetOf (intKind P w) a S n
  | .ins C dx fs => H dx = some (.own a) ∧ fs.length ≤ 1000 ∧ dx ≠ a ∧ h.get? a = some (PySem.W.instObj C dx) ∧
      ∃ mA, h.Ns1 dx mA ∧ (∀ f, RelO (fs.lookup f) (mA f)) ∧ PySem.Within mA (fs.map (·.1))
  | .own _ => ∃ o, h.get? a = some o
  | .xd fs => ∃ mA, h.Ns1 a mA ∧ ∀ f, RelO (fs.lookup f) (mA f)
  | .rng lo hi => ∃ t u v, h.get? a = some { cls := .type "range", data := .fields #[.int lo t, .int hi u, .int 1 v] }
  | .frz o u => h.get? a = some o ∧ ObjOk H h a u
  | .tbl ps => h.get? a = some { cls := .none, data := .fields ps }
  | .met f x => h.get? a = some (PySem.W.methodObj (.ref f) (.ref x))
  | .ext φ => φ h ∧ (∃ o, h.get? a = some o) ∧ ∀ h1 h2 : Heap, φ h1 → (∀ o, h1.get? a = some o → h2.get? a = some o) → φ h2
def HOk (H : Hp) (h : Heap) : Prop := ∀ a o, H a = some o → ObjOk P w H h a o
end
section
variable {P : Program} {w : World} {H H' : Hp} {h h' : Heap} {a : Addr} {o : HO}
theorem ObjOk.lt (x : ObjOk P w H h a o) : a < h.objs.size := by
  cases o with
  | lst xs => obtain ⟨_, _, _, _, e⟩ := x; exact Heap.lt_size e
  | tup xs => obtain ⟨_, _, _, p⟩ := x; exact p.lt
  | dK kvs => obtain ⟨_, _, _, _, o, _, _, e, _⟩ := x; exact Heap.lt_size e
  | dT kvs => obtain ⟨_, _, _, _, o, _, _, e, _⟩ := x; exact Heap.lt_size e
  | set S n => obtain ⟨o, _, _, _, e, _⟩ := x; exact Heap.lt_size e
  | ins C dx fs => obtain ⟨_, _, _, e, _⟩ := x; exact Heap.lt_size e
  | own y => obtain ⟨_, e⟩ := x; exact Heap.lt_size e
  | xd fs => obtain ⟨_, ⟨_, _, _, e, _⟩, _⟩ := x; exact Heap.lt_size e
  | rng lo hi => obtain ⟨_, _, _, e⟩ := x; exact Heap.lt_size e
  | frz ob u => obtain ⟨e, _⟩ := x; exact Heap.lt_size e
  | tbl ps => exact Heap.lt_size (show h.get? a = some _ from x)
  | met f y => exact Heap.lt_size (show h.get? a = some _ from x)
  | ext φ => obtain ⟨_, ⟨_, e⟩, _⟩ := x; exact Heap.lt_size e
theorem Paired.mapP {α β : Type} {F G : α → β → Prop} : ∀ {l₁ : List α} {l₂ : List β}, Paired F l₁ l₂ → (∀ a b, F a b → G a b) → Paired G l₁ l₂
  | _, _, .nil, _ => .nil
  | _, _, .cons r t, f => .cons (f _ _ r) (Paired.mapP t f)
theorem ObjOk.stay (x : ObjOk P w H h a o) (k : ∀ b u, (b = a ∨ H b = some (.own a)) → h.get? b = some u → h'.get? b = some u)
    (ho : ∀ b, H b = some (.own a) → H' b = some (.own a)) (ht : ∀ b xs, H b = some (.tup xs) → H' b = some (.tup xs)) : ObjOk P w H' h' a o := by
  induction o with
  | lst xs => obtain ⟨z, its, n, r, e⟩ := x; exact ⟨z, its, n, r, k _ _ (.inl rfl) e⟩
  | tup xs => obtain ⟨z, its, r, ob, e, c⟩ := x; exact ⟨z, its, r, ob, k _ _ (.inl rfl) e, c⟩
  | dK kvs => obtain ⟨z, y, vs, r, ob, es, ep, e, c⟩ := x; exact ⟨z, y, vs, r, ob, es, ep, k _ _ (.inl rfl) e, c⟩
  | dT kvs =>
    obtain ⟨z, y, xs, r, ob, es, ep, e, c⟩ := x
    exact ⟨z, y, xs, Paired.mapP r fun p q z => ⟨z.1, ht _ _ z.2.1, z.2.2⟩, ob, es, ep, k _ _ (.inl rfl) e, c⟩
  | set S n => obtain ⟨ob, es, ep, t, e, c⟩ := x; exact ⟨ob, es, ep, t, k _ _ (.inl rfl) e, c⟩
  | ins C dx fs =>
    obtain ⟨d, z, ne, e, mA, ⟨od, es, ep, e2, c⟩, r⟩ := x
    exact ⟨ho _ d, z, ne, k _ _ (.inl rfl) e, mA, ⟨od, es, ep, k _ _ (.inr d) e2, c⟩, r⟩
  | own y => obtain ⟨ob, e⟩ := x; exact ⟨ob, k _ _ (.inl rfl) e⟩
  | xd fs => obtain ⟨mA, ⟨od, es, ep, e, c⟩, r⟩ := x; exact ⟨mA, ⟨od, es, ep, k _ _ (.inl rfl) e, c⟩, r⟩
  | rng lo hi => obtain ⟨t, u, v, e⟩ := x; exact ⟨t, u, v, k _ _ (.inl rfl) e⟩
  | frz ob u ih => obtain ⟨e, q⟩ := x; exact ⟨k _ _ (.inl rfl) e, ih q⟩
  | tbl ps =>
    have e : h.get? a = some { cls := .none, data := .fields ps } := x
    show h'.get? a = some { cls := .none, data := .fields ps }
    exact k a _ (.inl rfl) e
  | met f y =>
    have e : h.get? a = some (PySem.W.methodObj (.ref f) (.ref y)) := x
    show h'.get? a = some (PySem.W.methodObj (.ref f) (.ref y))
    exact k a _ (.inl rfl) e
  | ext φ => obtain ⟨p, ⟨o, e⟩, st⟩ := x; exact ⟨st _ _ p fun o q => k _ _ (.inl rfl) q, ⟨o, k _ _ (.inl rfl) e⟩, st⟩
theorem HOk.lt (x : HOk P w H h) (e : H a = some o) : a < h.objs.size := (x a o e).lt
theorem HOk.fresh (x : HOk P w H h) (e : h.objs.size ≤ a) : H a = none := by
  cases q : H a with
  | none => rfl
  | some u => exact absurd (Nat.lt_of_lt_of_le (x.lt q) e) (Nat.lt_irrefl _)
theorem HOk.kept (x : HOk P w H h) (k : ∀ b u, h.get? b = some u → h'.get? b = some u) : HOk P w H h' := fun a o e =>
  (x a o e).stay (fun b u _ q => k b u q) (fun _ q => q) fun _ _ q => q
theorem HOk.laid (x : HOk P w H h) (k : ∀ b u, h.get? b = some u → h'.get? b = some u) (hp : h.objs.size ≤ a) (new : ObjOk P w (upd H a o) h' a o) : HOk P w (upd H a o) h' := fun b u e => by
  have hn := x.fresh hp
  by_cases hb : b = a
  · subst hb; rw [upd_same] at e; cases e; exact new
  · rw [upd_ne hb] at e
    exact (x b u e).stay (fun c v _ q => k c v q) (fun c q => by rw [upd_ne (ne_of_none q hn)]; exact q) fun c xs q => by rw [upd_ne (ne_of_none q hn)]; exact q
end
def Rd (H : Hp) (a : Addr) (u : HO) : Prop := H a = some u ∨ ∃ o, H a = some (.frz o u)
theorem Rd.ok {P : Program} {w : World} {H : Hp} {h : Heap} {a : Addr} {u : HO} (r : Rd H a u) (x : HOk P w H h) : ObjOk P w H h a u := by
  rcases r with r | ⟨o, r⟩
  · exact x a u r
  · obtain ⟨_, q⟩ := x a _ r
    exact q
def Mut : Option HO → Prop
  | some (.lst _) => True
  | some (.dK _) => True
  | some (.dT _) => True
  | some (.set _ _) => True
  | some (.ins _ _ _) => True
  | some (.ext _) => True
  | _ => False
section
variable {P : Program} {w : World} {H : Hp} {h h' : Heap} {x e : Addr} {o' : HO}
theorem HOk.write (ok : HOk P w H h) (mu : Mut (H x)) (he : e = x ∨ H e = some (.own x)) (k : ∀ b u, b ≠ e → h.get? b = some u → h'.get? b = some u) (heo : ∃ u, h'.get? e = some u)
    (new : ObjOk P w (upd H x o') h' x o') : HOk P w (upd H x o') h' := fun b u q => by
  have nown : ∀ c y, H c = some (.own y) → c ≠ x := fun c y r z => by subst z; rw [r] at mu; exact mu
  have ntup : ∀ c xs, H c = some (.tup xs) → c ≠ x := fun c xs r z => by subst z; rw [r] at mu; exact mu
  by_cases hb : b = x
  · subst hb; rw [upd_same] at q; cases q; exact new
  · rw [upd_ne hb] at q
    by_cases hbe : b = e
    · have q' : H b = some (.own x) := by
        rcases he with z | z
        · exact absurd (hbe.trans z) hb
        · rw [hbe]; exact z
      rw [q] at q'; cases q'
      obtain ⟨v, hv⟩ := heo
      exact ⟨v, by rw [hbe]; exact hv⟩
    · refine (ok b u q).stay (fun c v hc r => k c v ?_ r) (fun c r => by rw [upd_ne (nown c b r)]; exact r) fun c xs r => by rw [upd_ne (ntup c xs r)]; exact r
      rcases hc with rfl | hc
      · exact hbe
      · rintro rfl
        rcases he with z | z
        · exact nown c b hc z
        · rw [hc] at z; cases z; exact hb rfl
end
structure Un (fs ex : List Addr) (H H' : Hp) (h h' : Heap) : Prop where
  keep : ∀ b o, h.get? b = some o → H b = none → b ∉ fs → b ∉ ex → h'.get? b = some o
  slot : ∀ b o, h.get? b = some o → H b = none → b ∈ fs → b ∉ ex → ∃ sl, h'.get? b = some { o with slots := sl }
  free : ∀ b o, h.get? b = some o → H b = none → b ∉ ex → H' b = none
  there : ∀ b o, h.get? b = some o → b ∉ ex → ∃ o', h'.get? b = some o'
  tups : ∀ b xs, H b = some (.tup xs) → H' b = some (.tup xs)
  frzs : ∀ b o u, H b = some (.frz o u) → H' b = some (.frz o u)
  tbls : ∀ b ps, H b = some (.tbl ps) → ∃ more, H' b = some (.tbl (ps ++ more))
section
variable {fs fs' ex ex' : List Addr} {H H1 H2 : Hp} {h h1 h2 h' : Heap} {a x e : Addr} {o : HO}
theorem Un.any (u : Un fs ex H H1 h h1) {b : Addr} {ob : Obj} (q : h.get? b = some ob) (n : H b = none) (hx : b ∉ ex) : ∃ sl, h1.get? b = some { ob with slots := sl } := by
  by_cases hb : b ∈ fs
  · exact u.slot b ob q n hb hx
  · exact ⟨ob.slots, u.keep b ob q n hb hx⟩
theorem Un.kept (k : ∀ b u, h.get? b = some u → h'.get? b = some u) : Un fs ex H H h h' :=
  ⟨fun b ob q _ _ _ => k b ob q, fun b ob q _ _ _ => ⟨ob.slots, k b ob q⟩, fun _ _ _ n _ => n, fun b ob q _ => ⟨ob, k b ob q⟩, fun _ _ q => q, fun _ _ _ q => q, fun _ ps q => ⟨#[], by rw [q]; simp⟩⟩
theorem Un.refl : Un fs ex H H h h := Un.kept fun _ _ q => q
theorem Un.laid (k : ∀ b u, h.get? b = some u → h'.get? b = some u) (hp : h.objs.size ≤ a) (hn : H a = none) : Un fs ex H (upd H a o) h h' where
  keep := fun b u q _ _ _ => k b u q
  slot := fun b u q _ _ _ => ⟨u.slots, k b u q⟩
  free := fun b u q n _ => by rw [upd_ne (Nat.ne_of_lt (Nat.lt_of_lt_of_le (Heap.lt_size q) hp))]; exact n
  there := fun b u q _ => ⟨u, k b u q⟩
  tups := fun b xs q => by rw [upd_ne (ne_of_none q hn)]; exact q
  frzs := fun b u xs q => by rw [upd_ne (ne_of_none q hn)]; exact q
  tbls := fun b ps q => ⟨#[], by rw [upd_ne (ne_of_none q hn), q]; simp⟩
theorem Un.write (mu : Mut (H x)) (he : e = x ∨ H e = some (.own x)) (k : ∀ b u, b ≠ e → h.get? b = some u → h'.get? b = some u) (heo : ∃ u, h'.get? e = some u) : Un fs ex H (upd H x o) h h' := by
  have hx : ∀ b, H b = none → b ≠ x := fun b n z => by subst z; rw [n] at mu; exact mu
  have hb : ∀ b, H b = none → b ≠ e := fun b n z => by
    subst z
    rcases he with r | r
    · exact hx b n r
    · rw [n] at r; cases r
  have hm : ∀ b u, H b = some u → ¬ Mut (some u) → b ≠ x := fun b u q nm z => by subst z; rw [q] at mu; exact nm mu
  refine ⟨fun b u q n _ _ => k b u (hb b n) q, fun b u q n _ _ => ⟨u.slots, k b u (hb b n) q⟩, fun b u q n _ => by rw [upd_ne (hx b n)]; exact n, fun b u q _ => ?_,
    fun b xs q => by rw [upd_ne (hm b _ q fun z => z)]; exact q, fun b u xs q => by rw [upd_ne (hm b _ q fun z => z)]; exact q, fun b ps q => ⟨#[], by rw [upd_ne (hm b _ q fun z => z), q]; simp⟩⟩
  by_cases hbe : b = e
  · subst hbe; exact heo
  · exact ⟨u, k b u hbe q⟩
end
def trk (h : Heap) (H : Hp) : List Addr := (List.range h.objs.size).filter fun a => (H a).isSome
def hidT (h : Heap) (H : Hp) : Heap := PySem.W.hideAll h (trk h H)
theorem hidT_size (h : Heap) (H : Hp) : (hidT h H).objs.size = h.objs.size := PySem.W.hideAll_size _ _
theorem hidT_get {h : Heap} {H : Hp} {b : Addr} {o : Obj} (e : h.get? b = some o) (n : H b = none) : (hidT h H).get? b = some o :=
  PySem.W.hideAll_get _ e fun hm => by
    have q : (H b).isSome = true := (List.mem_filter.mp hm).2
    rw [n] at q; simp at q
theorem of_hidT {h : Heap} {H : Hp} {b : Addr} {o : Obj} (e : (hidT h H).get? b = some o) : h.get? b = some o ∧ H b = none := by
  have e' : h.get? b = some o := PySem.W.of_hideAll (trk h H) e
  refine ⟨e', ?_⟩
  cases q : H b with
  | none => rfl
  | some x =>
    have hm : b ∈ trk h H := List.mem_filter.mpr ⟨List.mem_range.mpr (Heap.lt_size e'), by simp [q]⟩
    have z : (hidT h H).get? b = none := PySem.W.hideAll_none (trk h H) hm
    rw [z] at e; cases e
end L2
namespace L2
open PySem PySem.Spec PyProof.Rows
structure Mod (K : PySem.W.Frag) (mg : Str → Option Value) (base : Heap) : Prop where
  kin : K.In base
  glob : base.Ns mainGlobals mg
  blt : ∃ mb, base.Ns builtinsNs mb ∧ ∀ x : Str, x ≠ "__name__" → mb x = bootBuiltins x
  nolimit : base.NoLimit
structure Cx where
  prog : Program
  w : World
  K : PySem.W.Frag
  mg : Str → Option Value
  base : Heap
  A : Around
  N : List Str
  s_0 : Shared
  H_0 : Hp
  env : Env
  outer : List Env
  stack : List Env
  ex : List Addr
  fn : Str → Bool
  calm : Bool
  pn : List (Addr × Obj)
  xe : Value → Shared → Prop
def frs (l : List Env) : List Addr := l.filterMap (·.frame)
abbrev Cx.fs (X : Cx) : List Addr := frs X.outer
def Vis (sc : Scope) (x : Str) : Prop := sc.names.lookup x = some .local ∨ sc.names.lookup x = some .cell ∨ sc.names.lookup x = some .free
def Loc (sc : Scope) (x : Str) : Prop := sc.names.lookup x = some .local ∨ sc.names.lookup x = some .cell
def Look (env : Env) (h : Heap) (m : Str → Option Value) (x : Str) (u : Value) : Prop :=
  (env.kindOf x = some .local ∧ m x = some u) ∨ ((env.kindOf x = some .cell ∨ env.kindOf x = some .free) ∧ ∃ c, env.cells.lookup x = some c ∧ h.IsCell c (some u))
structure Cx.Ok (X : Cx) : Prop where
  mod : Mod X.K X.mg X.base
  kind : X.env.scope.kind = .function
  glob : X.env.globals = mainGlobals
  blt : X.env.builtins = builtinsNs
  above : X.s_0.heap.objs.size ≤ X.env.locals
  inj : ∀ x y c, X.env.cells.lookup x = some c → X.env.cells.lookup y = some c → x = y
  has : ∀ x, (X.env.kindOf x = some .cell ∨ X.env.kindOf x = some .free) → ∃ c, X.env.cells.lookup x = some c
  cab : ∀ x c, X.fn x = true → X.env.cells.lookup x = some c → X.s_0.heap.objs.size ≤ c
  hd : X.calm = true → X.A.handled = none
  frames : X.A.frames = some X.stack
  stk : X.stack = X.outer ∨ (X.stack = X.env :: X.outer ∧ X.env.frame = some X.env.locals)
  exf : ∀ b ∈ X.ex, b ≠ X.env.locals ∧ ∀ x c, X.env.cells.lookup x = some c → c ≠ b
  bs : ∀ b o, X.base.get? b = some o → X.s_0.heap.get? b = some o ∧ X.H_0 b = none
  bsz : X.base.objs.size ≤ X.s_0.heap.objs.size
  noex : ∀ b o, X.base.get? b = some o → b ∉ X.ex
  exfs : ∀ b ∈ X.ex, b ∉ X.fs
  funs : X.s_0.heap.FunFrames X.base X.outer
  frf : ∀ b ∈ X.fs, X.H_0 b = none
structure Inv (X : Cx) (pins : List (Addr × Obj)) (σ : List (Option V)) (H : Hp) (s : Shared) : Prop where
  ok : X.Ok
  os : s.os = X.s_0.os
  bare : AllBare s.gens
  base : Un X.fs X.ex X.H_0 H X.s_0.heap s.heap
  loc : ∃ m, s.heap.Ns X.env.locals m ∧ ∀ (i : Nat) (x : Str) (v : V), X.N[i]? = some x → σ[i]? = some (some v) → Vis X.env.scope x → ∃ u, RelV v u ∧ Look X.env s.heap m x u
  cell : ∀ x c, X.env.cells.lookup x = some c → ∃ v, s.heap.IsCell c v
  free : H X.env.locals = none
  freeC : ∀ x c, X.env.cells.lookup x = some c → H c = none
  pin : ∀ p ∈ X.pn ++ pins, s.heap.get? p.1 = some p.2 ∧ H p.1 = none ∧ p.1 ≠ X.env.locals ∧ p.1 ∉ X.fs ∧ ∀ v, p.2.data ≠ .cell v
  hok : HOk X.prog X.w H s.heap
  len : σ.length = X.N.length
section
variable {X : Cx} {pins : List (Addr × Obj)} {σ : List (Option V)} {H H' : Hp} {s : Shared} {h' : Heap}
theorem Cx.Ok.nofr (ok : X.Ok) {b : Addr} {o : Obj} (e : X.base.get? b = some o) : b ∉ X.fs := fun hb => by
  have := (ok.funs.mem hb).1
  rw [e] at this; cases this
theorem Inv.bs (I : Inv X pins σ H s) : ∀ b o, X.base.get? b = some o → s.heap.get? b = some o ∧ H b = none := fun b o e =>
  ⟨I.base.keep b o (I.ok.bs b o e).1 (I.ok.bs b o e).2 (I.ok.nofr e) (I.ok.noex b o e), I.base.free b o (I.ok.bs b o e).1 (I.ok.bs b o e).2 (I.ok.noex b o e)⟩
theorem Inv.bk (I : Inv X pins σ H s) : ∀ b o, X.base.get? b = some o → s.heap.get? b = some o := fun b o e => (I.bs b o e).1
theorem Inv.mod (I : Inv X pins σ H s) : Mod X.K X.mg X.base := I.ok.mod
theorem Inv.kIn (I : Inv X pins σ H s) : X.K.In s.heap := I.ok.mod.kin.keeps I.bk
theorem Inv.lt (I : Inv X pins σ H s) : X.env.locals < s.heap.objs.size := let ⟨_, hn, _⟩ := I.loc; hn.lt
theorem Inv.sz (I : Inv X pins σ H s) : X.s_0.heap.objs.size ≤ s.heap.objs.size := Nat.le_trans I.ok.above (Nat.le_of_lt I.lt)
theorem Inv.nofs (I : Inv X pins σ H s) {a : Addr} (h : s.heap.objs.size ≤ a) : a ∉ X.fs := fun hb => by
  obtain ⟨_, o, ho, _⟩ := I.ok.funs.mem hb
  exact absurd (Nat.lt_of_lt_of_le (Heap.lt_size ho) (Nat.le_trans I.sz h)) (Nat.lt_irrefl _)
theorem Inv.cne (I : Inv X pins σ H s) : ∀ x c, X.env.cells.lookup x = some c → c ≠ X.env.locals := fun x c e z => by
  obtain ⟨v, o, ho, hd⟩ := I.cell x c e
  obtain ⟨m, ⟨o', es, ep, ho', hd', _⟩, _⟩ := I.loc
  rw [z, ho'] at ho; cases ho; rw [hd'] at hd; cases hd
theorem Inv.funs (I : Inv X pins σ H s) : s.heap.FunFrames X.base X.outer := by
  have all : ∀ (l : List Env), (∀ b ∈ frs l, b ∈ X.fs) → X.s_0.heap.FunFrames X.base l → s.heap.FunFrames X.base l := by
    intro l
    induction l with
    | nil => intro _ _; trivial
    | cons env r ih =>
      intro hs hl
      obtain ⟨hk, ⟨L, o, hf, hn, ho, hd⟩, hr⟩ := hl
      have hL : L ∈ X.fs := hs L (by unfold frs; rw [List.filterMap_cons, hf]; exact List.mem_cons_self)
      obtain ⟨sl, e⟩ := I.base.slot L o ho (I.ok.frf L hL) hL fun z => I.ok.exfs L z hL
      exact ⟨hk, ⟨L, _, hf, hn, e, hd⟩, ih (fun b hb => hs b (by unfold frs; rw [List.filterMap_cons, hf]; exact List.mem_cons_of_mem _ hb)) hr⟩
  exact all X.outer (fun _ hb => hb) I.ok.funs
theorem Inv.stack (I : Inv X pins σ H s) : s.heap.FunFrames X.base X.stack := by
  rcases I.ok.stk with e | ⟨e, hf⟩
  · rw [e]; exact I.funs
  · rw [e]
    obtain ⟨m, hn, _⟩ := I.loc
    refine .cons (by rw [I.ok.kind]; decide) hf hn ?_ I.funs
    exact Heap.get?_none_of_le (Nat.le_trans I.ok.bsz I.ok.above)
theorem Inv.stkSub (I : Inv X pins σ H s) : ∀ b ∈ frs X.stack, b ∈ X.env.locals :: X.fs := fun b hb => by
  rcases I.ok.stk with e | ⟨e, hf⟩
  · rw [e] at hb; exact List.mem_cons_of_mem _ hb
  · rw [e] at hb
    unfold frs at hb
    rw [List.filterMap_cons, hf] at hb
    exact hb
theorem Inv.stkFree (I : Inv X pins σ H s) : ∀ b ∈ frs X.stack, H b = none := fun b hb => by
  rcases List.mem_cons.mp (I.stkSub b hb) with e | hb
  · rw [e]; exact I.free
  · obtain ⟨_, o, ho, _⟩ := I.ok.funs.mem hb
    exact I.base.free b o ho (I.ok.frf b hb) fun z => I.ok.exfs b z hb
theorem Inv.step {g' : Array GenState} {t' : Nat} {d' : Drawn} {ch : List Addr} (I : Inv X pins σ H s)
    (hch : ∀ b ∈ ch, (b ∈ X.ex ∨ X.s_0.heap.objs.size ≤ b) ∧ b ≠ X.env.locals ∧ (∀ x c, X.env.cells.lookup x = some c → c ≠ b) ∧ ∀ p ∈ X.pn ++ pins, p.1 ≠ b)
    (keep : ∀ b o, b ≠ X.env.locals → b ∉ X.fs → b ∉ ch → s.heap.get? b = some o → H b = none → h'.get? b = some o)
    (slot : ∀ b o, b ≠ X.env.locals → b ∈ X.fs → b ∉ ch → s.heap.get? b = some o → H b = none → ∃ sl, h'.get? b = some { o with slots := sl }) (free : ∀ b o, b ∉ ch → s.heap.get? b = some o → H b = none → H' b = none)
    (there : ∀ b o, b ∉ ch → s.heap.get? b = some o → ∃ o', h'.get? b = some o')
    (tups : ∀ b xs, H b = some (.tup xs) → H' b = some (.tup xs)) (frzs : ∀ b o u, H b = some (.frz o u) → H' b = some (.frz o u)) (tbls : ∀ b ps, H b = some (.tbl ps) → ∃ more, H' b = some (.tbl (ps ++ more)))
    (ns : ∀ m, s.heap.Ns X.env.locals m → h'.Ns X.env.locals m) (hok : HOk X.prog X.w H' h') (hg : AllBare g') :
    Inv X pins σ H' { s with heap := h', gens := g', drawn := d', toks := t' } := by
  have neL : ∀ b o, X.s_0.heap.get? b = some o → b ≠ X.env.locals := fun b o e => Nat.ne_of_lt (Nat.lt_of_lt_of_le (Heap.lt_size e) I.ok.above)
  have neC : ∀ b o, X.s_0.heap.get? b = some o → b ∉ X.ex → b ∉ ch := fun b o e hx hb => by
    rcases (hch b hb).1 with z | z
    · exact hx z
    · exact absurd (Nat.lt_of_lt_of_le (Heap.lt_size e) z) (Nat.lt_irrefl _)
  have cellK : ∀ x c, X.env.cells.lookup x = some c → ∀ v, s.heap.IsCell c v → h'.IsCell c v := fun x c e v ⟨o, ho, hd⟩ => by
    have nch : c ∉ ch := fun z => (hch c z).2.2.1 x c e rfl
    by_cases hc : c ∈ X.fs
    · obtain ⟨sl, q⟩ := slot c o (I.cne x c e) hc nch ho (I.freeC x c e)
      exact ⟨_, q, hd⟩
    · exact ⟨o, keep c o (I.cne x c e) hc nch ho (I.freeC x c e), hd⟩
  refine ⟨I.ok, I.os, hg, ⟨fun b o e n hb hx => ?_, fun b o e n hb hx => ?_, fun b o e n hx => ?_, fun b o e hx => ?_, fun b xs e => tups b xs (I.base.tups b xs e), fun b o xs e => frzs b o xs (I.base.frzs b o xs e), fun b ps e => ?_⟩, ?_, fun x c e => ?_, ?_, fun x c e => ?_, fun p hp => ?_, hok, I.len⟩
  · exact keep b o (neL b o e) hb (neC b o e hx) (I.base.keep b o e n hb hx) (I.base.free b o e n hx)
  · obtain ⟨sl, e1⟩ := I.base.slot b o e n hb hx
    obtain ⟨sl', e2⟩ := slot b _ (neL b o e) hb (neC b o e hx) e1 (I.base.free b o e n hx)
    exact ⟨sl', e2⟩
  · obtain ⟨o', e1⟩ := I.base.there b o e hx
    exact free b o' (neC b o e hx) e1 (I.base.free b o e n hx)
  · obtain ⟨o', e1⟩ := I.base.there b o e hx
    exact there b o' (neC b o e hx) e1
  · obtain ⟨m1, e1⟩ := I.base.tbls b ps e
    obtain ⟨m2, e2⟩ := tbls b _ e1
    exact ⟨m1 ++ m2, by rw [e2, Array.append_assoc]⟩
  · obtain ⟨m, hn, hl⟩ := I.loc
    refine ⟨m, ns m hn, fun i x v e1 e2 e3 => ?_⟩
    obtain ⟨u, r, l⟩ := hl i x v e1 e2 e3
    refine ⟨u, r, ?_⟩
    rcases l with l | ⟨k, c, e, z⟩
    · exact .inl l
    · exact .inr ⟨k, c, e, cellK x c e _ z⟩
  · obtain ⟨v, z⟩ := I.cell x c e
    exact ⟨v, cellK x c e v z⟩
  · obtain ⟨m, ⟨o, _, _, ho, _⟩, _⟩ := I.loc
    exact free _ o (fun z => (hch _ z).2.1 rfl) ho I.free
  · obtain ⟨v, o, ho, hd⟩ := I.cell x c e
    exact free c o (fun z => (hch c z).2.2.1 x c e rfl) ho (I.freeC x c e)
  · obtain ⟨e, n, ne, nf, d⟩ := I.pin p hp
    have nch : p.1 ∉ ch := fun z => (hch p.1 z).2.2.2 p hp rfl
    exact ⟨keep p.1 p.2 ne nf nch e n, free p.1 p.2 nch e n, ne, nf, d⟩
theorem Inv.un {t' : Nat} (I : Inv X pins σ H s) (u : Un X.fs [] H H' s.heap h') (hok : HOk X.prog X.w H' h') : Inv X pins σ H' { s with heap := h', toks := t' } := by
  obtain ⟨m, ⟨o, es, ep, ho, r⟩, _⟩ := id I.loc
  obtain ⟨sl, hL⟩ := u.any ho I.free (by simp)
  exact I.step (g' := s.gens) (d' := s.drawn) (ch := []) (fun _ z => nomatch z) (fun b o _ hb _ e n => u.keep b o e n hb (by simp)) (fun b o _ hb _ e n => u.slot b o e n hb (by simp)) (fun b o _ e n => u.free b o e n (by simp)) (fun b o _ e => u.there b o e (by simp)) u.tups u.frzs u.tbls (fun m' hm => by
    obtain ⟨o', es', ep', ho', r'⟩ := hm
    rw [ho] at ho'; cases ho'
    exact ⟨_, es', ep', hL, r'⟩) hok I.bare
theorem Inv.call {g' : Array GenState} {t' : Nat} {d' : Drawn} {ch : List Addr} (I : Inv X pins σ H s) (u : Un (frs X.stack) ch H H' s.heap h') (hok : HOk X.prog X.w H' h') (hg : AllBare g')
    (hch : ∀ b ∈ ch, (b ∈ X.ex ∨ X.s_0.heap.objs.size ≤ b) ∧ b ≠ X.env.locals ∧ (∀ x c, X.env.cells.lookup x = some c → c ≠ b) ∧ ∀ p ∈ X.pn ++ pins, p.1 ≠ b) :
    Inv X pins σ H' { s with heap := h', gens := g', drawn := d', toks := t' } := by
  obtain ⟨m, ⟨o, es, ep, ho, r⟩, _⟩ := id I.loc
  obtain ⟨sl, hL⟩ := u.any ho I.free fun z => (hch _ z).2.1 rfl
  exact I.step (ch := ch) hch (fun b o hL hb hc e n => u.keep b o e n (fun z => (List.mem_cons.mp (I.stkSub b z)).elim hL hb) hc) (fun b o _ _ hc e n => u.any e n hc) (fun b o hc e n => u.free b o e n hc) (fun b o hc e => u.there b o e hc) u.tups u.frzs u.tbls (fun m' hm => by
    obtain ⟨o', es', ep', ho', r'⟩ := hm
    rw [ho] at ho'; cases ho'
    exact ⟨_, es', ep', hL, r'⟩) hok hg
theorem Inv.turned {t' : Nat} {it : Addr} (I : Inv X pins σ H s) (k : ∀ b o, b ≠ it → s.heap.get? b = some o → h'.get? b = some o) (hn : H it = none) (hL : it ≠ X.env.locals)
    (h1 : it ∈ X.ex ∨ X.s_0.heap.objs.size ≤ it) (h2 : ∀ x c, X.env.cells.lookup x = some c → c ≠ it) (h3 : ∀ p ∈ X.pn ++ pins, p.1 ≠ it) : Inv X pins σ H { s with heap := h', toks := t' } := by
  have nit : ∀ b u, H b = some u → b ≠ it := fun b u e z => by rw [z, hn] at e; cases e
  refine I.step (g' := s.gens) (d' := s.drawn) (ch := [it]) (fun b hb => ?_) (fun b o _ _ hc e _ => k b o (fun z => hc (by simp [z])) e) (fun b o _ _ hc e _ => ⟨o.slots, k b o (fun z => hc (by simp [z])) e⟩) (fun _ _ _ _ n => n)
    (fun b o hc e => ⟨o, k b o (fun z => hc (by simp [z])) e⟩) (fun _ _ e => e) (fun _ _ _ e => e) (fun b ps e => ⟨#[], by rw [e]; simp⟩) (fun m hm => ?_) (fun b u e => ?_) I.bare
  · have e : b = it := by simpa using hb
    subst e
    exact ⟨h1, hL, h2, h3⟩
  · obtain ⟨o, es, ep, ho, r⟩ := hm
    exact ⟨o, es, ep, k _ o (Ne.symm hL) ho, r⟩
  · refine (I.hok b u e).stay (fun c v hc q => k c v ?_ q) (fun _ q => q) fun _ _ q => q
    rcases hc with z | z
    · rw [z]; exact nit b u e
    · exact nit c _ z
theorem Inv.tok (I : Inv X pins σ H s) (t : Nat) : Inv X pins σ H { s with toks := t } := I.un (h' := s.heap) (t' := t) Un.refl I.hok
theorem Inv.kept {t' : Nat} (I : Inv X pins σ H s) (k : ∀ b u, s.heap.get? b = some u → h'.get? b = some u) : Inv X pins σ H { s with heap := h', toks := t' } := I.un (Un.kept k) (I.hok.kept k)
theorem Inv.laid {a : Addr} {o : HO} {t' : Nat} (I : Inv X pins σ H s) (k : ∀ b u, s.heap.get? b = some u → h'.get? b = some u) (hp : s.heap.objs.size ≤ a) (new : ObjOk X.prog X.w (upd H a o) h' a o) :
    Inv X pins σ (upd H a o) { s with heap := h', toks := t' } := I.un (Un.laid k hp (I.hok.fresh hp)) (I.hok.laid k hp new)
theorem Inv.write {x e : Addr} {o : HO} {t' : Nat} (I : Inv X pins σ H s) (mu : Mut (H x)) (he : e = x ∨ H e = some (.own x)) (k : ∀ b u, b ≠ e → s.heap.get? b = some u → h'.get? b = some u) (heo : ∃ u, h'.get? e = some u)
    (new : ObjOk X.prog X.w (upd H x o) h' x o) : Inv X pins σ (upd H x o) { s with heap := h', toks := t' } := I.un (Un.write mu he k heo) (I.hok.write mu he k heo new)
theorem Inv.weak {σ' : List (Option V)} (I : Inv X pins σ H s) (hl : σ'.length = σ.length) (w : ∀ (i : Nat) v, σ'[i]? = some (some v) → σ[i]? = some (some v)) : Inv X pins σ' H s :=
  ⟨I.ok, I.os, I.bare, I.base, let ⟨m, hn, hl'⟩ := I.loc; ⟨m, hn, fun i x v e1 e2 e3 => hl' i x v e1 (w i v e2) e3⟩, I.cell, I.free, I.freeC, I.pin, I.hok, hl.trans I.len⟩
theorem Inv.pins_of {pins' : List (Addr × Obj)} (I : Inv X pins σ H s) (h : ∀ p ∈ pins', s.heap.get? p.1 = some p.2 ∧ H p.1 = none ∧ p.1 ≠ X.env.locals ∧ p.1 ∉ X.fs ∧ ∀ v, p.2.data ≠ .cell v) : Inv X pins' σ H s :=
  ⟨I.ok, I.os, I.bare, I.base, I.loc, I.cell, I.free, I.freeC, fun p hp => (List.mem_append.mp hp).elim (fun z => I.pin p (List.mem_append_left _ z)) (h p), I.hok, I.len⟩
theorem nodup_ix {N : List Str} (hN : N.Nodup) {i j : Nat} {x : Str} (a : N[i]? = some x) (b : N[j]? = some x) : i = j := by
  obtain ⟨h1, e1⟩ := List.getElem?_eq_some_iff.mp a
  obtain ⟨h2, e2⟩ := List.getElem?_eq_some_iff.mp b
  exact (List.getElem_inj hN).mp (e1.trans e2.symm)
theorem store_ok2 {M : Model} {A : Around} {E : Value → Shared → Prop} {i : Nat} {x : Str} {v : V} {u : Value} {Q : Unit → Shared → Prop} (I : Inv X pins σ H s) (hN : X.N.Nodup) (hi : X.N[i]? = some x) (hx : Loc X.env.scope x) (r : RelV v u)
    (h : ∀ s', Inv X pins (σ.set i (some v)) H s' → (∃ a, Heap.SameBut a s.heap s'.heap ∧ (a = X.env.locals ∨ X.env.cells.lookup x = some a)) → Q () s') (hf : X.fn x = true ∨ X.env.scope.names.lookup x = some .local := by first | exact .inl rfl | exact .inr rfl | assumption) : wpAny M A (storeName X.env x u) Q E s := by
  obtain ⟨m, hn, hl⟩ := id I.loc
  have hcls : (X.env.scope.kind == .class || (X.env.scope.kind == .module && X.env.locals != X.env.globals)) = false := by rw [I.ok.kind]; rfl
  have hiσ : i < σ.length := by rw [I.len]; exact (List.getElem?_eq_some_iff.mp hi).1
  have cne := I.cne
  have tracked : ∀ {a : Addr} {h' : Heap}, (∃ o, s.heap.get? a = some o ∧ H a = none) → Heap.SameBut a s.heap h' → HOk X.prog X.w H h' := fun {a h'} ha hs b ob e => by
    obtain ⟨_, _, hfree⟩ := ha
    refine (I.hok b ob e).stay (fun c w' hc q => (hs.2 c ?_).trans q) (fun _ q => q) fun _ _ q => q
    rintro rfl
    rcases hc with rfl | hc
    · rw [hfree] at e; cases e
    · rw [hfree] at hc; cases hc
  rcases hx with hk | hk
  · refine wpAny_storeName_local hk hn (fun h' hn' hs => ?_) hcls
    obtain ⟨oL, _, _, hoL, _⟩ := id hn
    refine h _ ⟨I.ok, I.os, I.bare, ⟨fun b o e n hb hx => ?_, fun b o e n hb hx => ?_, I.base.free, fun b o e hx => ?_, I.base.tups, I.base.frzs, I.base.tbls⟩, ⟨_, hn', fun j y v' e1 e2 e3 => ?_⟩, fun y c e => ?_, I.free, I.freeC, fun p hp => ?_, tracked ⟨oL, hoL, I.free⟩ hs, by simpa using I.len⟩ ⟨_, hs, .inl rfl⟩
    · exact (hs.2 b (Nat.ne_of_lt (Nat.lt_of_lt_of_le (Heap.lt_size e) I.ok.above))).trans (I.base.keep b o e n hb hx)
    · obtain ⟨sl, e1⟩ := I.base.slot b o e n hb hx
      exact ⟨sl, (hs.2 b (Nat.ne_of_lt (Nat.lt_of_lt_of_le (Heap.lt_size e) I.ok.above))).trans e1⟩
    · obtain ⟨o', e1⟩ := I.base.there b o e hx
      exact ⟨o', (hs.2 b (Nat.ne_of_lt (Nat.lt_of_lt_of_le (Heap.lt_size e) I.ok.above))).trans e1⟩
    · by_cases hj : j = i
      · subst hj
        rw [hi] at e1; cases e1
        rw [List.getElem?_set_self hiσ] at e2
        cases e2
        exact ⟨u, r, .inl ⟨hk, by simp⟩⟩
      · rw [List.getElem?_set_ne (Ne.symm hj)] at e2
        obtain ⟨u', r', q⟩ := hl j y v' e1 e2 e3
        refine ⟨u', r', ?_⟩
        rcases q with ⟨k, e⟩ | ⟨k, c, e, z⟩
        · refine .inl ⟨k, ?_⟩
          have : y ≠ x := fun e => hj (nodup_ix hN e1 (e ▸ hi))
          simp [this, e]
        · exact .inr ⟨k, c, e, z.sameBut hs (cne y c e)⟩
    · obtain ⟨w', z⟩ := I.cell y c e
      exact ⟨w', z.sameBut hs (cne y c e)⟩
    · obtain ⟨e, n, ne, nf, d⟩ := I.pin p hp
      exact ⟨(hs.2 p.1 ne).trans e, n, ne, nf, d⟩
  · have hfn : X.fn x = true := by
      rcases hf with z | z
      · exact z
      · rw [z] at hk; cases hk
    obtain ⟨c, hc⟩ := I.ok.has x (.inl hk)
    obtain ⟨w', z⟩ := I.cell x c hc
    refine wpAny_storeName_cell I.ok.kind hk hc z (fun h' hc' hs => ?_)
    obtain ⟨oc, hoc, hocd⟩ := id z
    refine h { s with heap := h' } ⟨I.ok, I.os, I.bare, ⟨fun b o e n hb hx => ?_, fun b o e n hb hx => ?_, I.base.free, fun b o e hx => ?_, I.base.tups, I.base.frzs, I.base.tbls⟩, ⟨m, hn.sameBut hs (Ne.symm (cne x c hc)), fun j y v' e1 e2 e3 => ?_⟩, fun y c' e => ?_, I.free, I.freeC, fun p hp => ?_, tracked ⟨oc, hoc, I.freeC x c hc⟩ hs, by simpa using I.len⟩ ⟨c, hs, .inr hc⟩
    · exact (hs.2 b (Nat.ne_of_lt (Nat.lt_of_lt_of_le (Heap.lt_size e) (I.ok.cab x c hfn hc)))).trans (I.base.keep b o e n hb hx)
    · obtain ⟨sl, e1⟩ := I.base.slot b o e n hb hx
      exact ⟨sl, (hs.2 b (Nat.ne_of_lt (Nat.lt_of_lt_of_le (Heap.lt_size e) (I.ok.cab x c hfn hc)))).trans e1⟩
    · obtain ⟨o', e1⟩ := I.base.there b o e hx
      exact ⟨o', (hs.2 b (Nat.ne_of_lt (Nat.lt_of_lt_of_le (Heap.lt_size e) (I.ok.cab x c hfn hc)))).trans e1⟩
    · by_cases hj : j = i
      · subst hj
        rw [hi] at e1; cases e1
        rw [List.getElem?_set_self hiσ] at e2
        cases e2
        exact ⟨u, r, .inr ⟨.inl hk, c, hc, hc'⟩⟩
      · rw [List.getElem?_set_ne (Ne.symm hj)] at e2
        obtain ⟨u', r', q⟩ := hl j y v' e1 e2 e3
        refine ⟨u', r', ?_⟩
        rcases q with q | ⟨k, c', e, z'⟩
        · exact .inl q
        · refine .inr ⟨k, c', e, z'.sameBut hs ?_⟩
          rintro rfl
          exact hj (nodup_ix hN e1 (I.ok.inj _ _ _ e hc ▸ hi))
    · by_cases hcc : c' = c
      · subst hcc; exact ⟨_, hc'⟩
      · obtain ⟨w2, z2⟩ := I.cell y c' e
        exact ⟨w2, z2.sameBut hs hcc⟩
    · obtain ⟨e, n, ne, nf, d⟩ := I.pin p hp
      refine ⟨(hs.2 p.1 ?_).trans e, n, ne, nf, d⟩
      intro q
      rw [q, hoc] at e
      have q' : oc = p.2 := Option.some.inj e
      exact d w' (by rw [← q']; exact hocd)
theorem store_ok {M : Model} {A : Around} {E : Value → Shared → Prop} {i : Nat} {x : Str} {v : V} {u : Value} {Q : Unit → Shared → Prop} (I : Inv X pins σ H s) (hN : X.N.Nodup) (hi : X.N[i]? = some x) (hx : Loc X.env.scope x) (r : RelV v u)
    (h : ∀ s', Inv X pins (σ.set i (some v)) H s' → Q () s') (hf : X.fn x = true ∨ X.env.scope.names.lookup x = some .local := by first | exact .inl rfl | exact .inr rfl | assumption) : wpAny M A (storeName X.env x u) Q E s :=
  store_ok2 I hN hi hx r (fun s' I' _ => h s' I') hf
theorem Inv.call' {s' : Shared} {ch : List Addr} (I : Inv X pins σ H s) (ho : s'.os = s.os) (u : Un (frs X.stack) ch H H' s.heap s'.heap) (hok : HOk X.prog X.w H' s'.heap) (hg : AllBare s'.gens)
    (hch : ∀ b ∈ ch, (b ∈ X.ex ∨ X.s_0.heap.objs.size ≤ b) ∧ b ≠ X.env.locals ∧ (∀ x c, X.env.cells.lookup x = some c → c ≠ b) ∧ ∀ p ∈ X.pn ++ pins, p.1 ≠ b) : Inv X pins σ H' s' := by
  obtain ⟨h', g', d', t', o'⟩ := s'
  have e : o' = s.os := ho
  subst e
  exact I.call (g' := g') (t' := t') (d' := d') u hok hg hch
end
abbrev XK := Value → Option Addr → Hp → Prop
abbrev St := List (Option V)
abbrev VK := V → Hp → Prop
abbrev TE := St → Hp → VK → Prop
abbrev TT := St → Hp → (Bool → Hp → Prop) → Prop
abbrev TA := St → Hp → (List V → Hp → Prop) → Prop
structure Ends where
  nx : St → Hp → Prop
  rt : VK
  bk : St → Hp → Prop := fun _ _ => False
  ct : St → Hp → Prop := fun _ _ => False
abbrev TS := Ends → St → Hp → Prop
def EP (X : Cx) (pins : List (Addr × Obj)) (σ : St) (Q : VK) (u : Value) (s' : Shared) : Prop := ∃ v H', Inv X pins σ H' s' ∧ RelV v u ∧ Q v H'
def TP (X : Cx) (pins : List (Addr × Obj)) (σ : St) (Q : Bool → Hp → Prop) (b : Bool) (s' : Shared) : Prop := ∃ H', Inv X pins σ H' s' ∧ Q b H'
def AP (X : Cx) (pins : List (Addr × Obj)) (σ : St) (Q : List V → Hp → Prop) (us : List Value) (s' : Shared) : Prop := ∃ vs H', Inv X pins σ H' s' ∧ Vals vs us ∧ Q vs H'
def SP (X : Cx) (pins : List (Addr × Obj)) (D : Ends) (f : Flow) (s' : Shared) : Prop :=
  match f with
  | .next => ∃ σ' H', Inv X pins σ' H' s' ∧ D.nx σ' H'
  | .brk => ∃ σ' H', Inv X pins σ' H' s' ∧ D.bk σ' H'
  | .cont => ∃ σ' H', Inv X pins σ' H' s' ∧ D.ct σ' H'
  | .ret u => ∃ v σ' H', Inv X pins σ' H' s' ∧ RelV v u ∧ D.rt v H'
def PE (X : Cx) (e : Expr) (t : TE) : Prop :=
  ∀ (pins : List (Addr × Obj)) (s : Shared) (σ : St) (H : Hp) (Q : VK), Inv X pins σ H s → t σ H Q → wpAny (model X.prog X.w) X.A (eval e X.env) (EP X pins σ Q) X.xe s
def PT (X : Cx) (e : Expr) (t : TT) : Prop :=
  ∀ (pins : List (Addr × Obj)) (s : Shared) (σ : St) (H : Hp) (Q : Bool → Hp → Prop), Inv X pins σ H s → t σ H Q → wpAny (model X.prog X.w) X.A (isTrue e X.env (eval e X.env)) (TP X pins σ Q) X.xe s
def PW (X : Cx) (e : Expr) (t : TT) : Prop :=
  ∀ (whole : Sem Value) (pins : List (Addr × Obj)) (s : Shared) (σ : St) (H : Hp) (Q : Bool → Hp → Prop), Inv X pins σ H s → t σ H Q → wpAny (model X.prog X.w) X.A (isTrue e X.env whole) (TP X pins σ Q) X.xe s
theorem PW.pt {X : Cx} {e : Expr} {t : TT} (h : PW X e t) : PT X e t := h _
def PA (X : Cx) (es : List Expr) (t : TA) : Prop :=
  ∀ (pos : Pos) (pins : List (Addr × Obj)) (s : Shared) (σ : St) (H : Hp) (Q : List V → Hp → Prop), Inv X pins σ H s → t σ H Q → wpAny (model X.prog X.w) X.A (spliced (backTo pos (starEach es X.env))) (AP X pins σ Q) X.xe s
def PS (X : Cx) (st : Stmt) (t : TS) : Prop :=
  ∀ (pins : List (Addr × Obj)) (s : Shared) (σ : St) (H : Hp) (D : Ends), Inv X pins σ H s → t D σ H → wpAny (model X.prog X.w) X.A (exec st X.env) (SP X pins D) X.xe s
def PSs (X : Cx) (st : List Stmt) (t : TS) : Prop :=
  ∀ (pins : List (Addr × Obj)) (s : Shared) (σ : St) (H : Hp) (D : Ends), Inv X pins σ H s → t D σ H → wpAny (model X.prog X.w) X.A (execs st X.env) (SP X pins D) X.xe s
theorem thn {α : Type} {t : Sem α} {Q Q' : α → Shared → Prop} {M : Model} {A : Around} {E : Value → Shared → Prop} {s : Shared} (h : wpAny M A t Q E s) (hQ : ∀ a s, Q a s → Q' a s) : wpAny M A t Q' E s := wpAny_mono h hQ fun _ _ x => x
end L2
namespace L2
open PySem PySem.Spec PyProof.Rows
section
variable {X : Cx}
def tVar (i : Nat) : TE := fun σ H Q => ∃ v, σ[i]? = some (some v) ∧ Q v H
def tC (v : V) : TE := fun _ H Q => Q v H
theorem pe_var {i : Nat} {x : Str} {pos : Pos} (hN : X.N[i]? = some x) (hv : Vis X.env.scope x) (hd : (x == ("__debug__" : Str)) = false := by decide) (hcd : (x == ("__classdict__" : Str)) = false := by decide) : PE X (.Name x pos) (tVar i) := by
  intro pins s σ H Q I h
  obtain ⟨v, e, h⟩ := h
  obtain ⟨m, hn, hl⟩ := I.loc
  obtain ⟨u, r, l⟩ := hl i x v hN e hv
  have fin : EP X pins σ Q u s := ⟨v, H, I, r, h⟩
  rcases l with ⟨hk, hm⟩ | ⟨hk, c, hc, hcell⟩
  · exact wpAny_Name (wpAny_loadName_local I.ok.kind hk hn hm fin) hd
  · rcases hk with hk | hk
    · exact wpAny_Name (wpAny_loadName_cell I.ok.kind hk hc hcell fin) hd
    · exact wpAny_Name (wpAny_loadName_free I.ok.kind hk hc hcell fin hcd) hd
theorem pe_int {i j pos} : PE X (.Constant (.int i) j pos) (tC (.int i)) := fun _ _ _ H _ I h => wpAny_Constant_int ⟨.int i, H, I.tok _, ⟨_, rfl⟩, h⟩
theorem pe_bl {b j pos} : PE X (.Constant (.bool b) j pos) (tC (.bl b)) := fun _ _ _ H _ I h => Constant_bool ⟨.bl b, H, I, rfl, h⟩
def Gl (X : Cx) (x : Str) : Prop := X.env.kindOf x = some .globalImplicit
theorem ld_glob {E : Value → Shared → Prop} {pins : List (Addr × Obj)} {s : Shared} {σ : St} {H : Hp} {x : Str} {u : Value} {pos : Pos} {Q : Value → Shared → Prop} (I : Inv X pins σ H s) (hg : Gl X x) (hm : X.mg x = some u) (h : Q u s)
    (hd : (x == ("__debug__" : Str)) = false := by decide) : wpAny (model X.prog X.w) X.A (eval (.Name x pos) X.env) Q E s :=
  Calls.Name_function_global I.ok.kind hg (Calls.loadGlobal_global (by rw [I.ok.glob]; exact I.mod.glob.keeps I.bk) hm h) hd
theorem ld_blt {E : Value → Shared → Prop} {pins : List (Addr × Obj)} {s : Shared} {σ : St} {H : Hp} {x : Str} {u : Value} {pos : Pos} {Q : Value → Shared → Prop} (I : Inv X pins σ H s) (hg : Gl X x) (hm : X.mg x = none) (hv : bootBuiltins x = some u) (h : Q u s)
    (hn : x ≠ "__name__" := by decide) (hd : (x == ("__debug__" : Str)) = false := by decide) : wpAny (model X.prog X.w) X.A (eval (.Name x pos) X.env) Q E s := by
  obtain ⟨mb, h1, h2⟩ := I.mod.blt
  exact Calls.Name_function_global I.ok.kind hg (Calls.loadGlobal_builtin (by rw [I.ok.glob]; exact I.mod.glob.keeps I.bk) hm (by rw [I.ok.blt]; exact h1.keeps I.bk) ((h2 x hn).trans hv) h) hd
theorem pe_glob {x : Str} {v : V} {u : Value} {pos : Pos} (hg : Gl X x) (hm : X.mg x = some u) (r : RelV v u) (hd : (x == ("__debug__" : Str)) = false := by decide) : PE X (.Name x pos) (tC v) :=
  fun _ _ _ H _ I h => ld_glob I hg hm ⟨v, H, I, r, h⟩ hd
variable {a b : Expr} {ta tb : TE} {pos : Pos}
def tB (t : TE) : TT := fun σ H Q => t σ H fun x H1 => ∃ c, x = .bl c ∧ Q c H1
theorem pt_val {e : Expr} {t : TE} (h : PE X e t) (he : ∀ whole, isTrue e X.env whole = (do let v ← whole; standAt e.pos; holding [v] (truthy v)) := by intro _; rfl) : PT X e (tB t) := by
  intro pins s σ H Q I hw
  refine isTrue_plain (thn (h pins s σ H _ I hw) fun v s1 ⟨x, H1, I1, r1, q1⟩ => ?_) (he _)
  obtain ⟨d, rfl, q⟩ := q1
  cases r1
  exact wpAny_truthy_bool ⟨H1, I1, q⟩
variable {tA tB' : TT} {rest : List Expr}
def tAnd (t u : TT) : TT := fun σ H Q => t σ H fun c H1 => if c = true then u σ H1 Q else Q false H1
def tOr (t u : TT) : TT := fun σ H Q => t σ H fun c H1 => if c = true then Q true H1 else u σ H1 Q
def tNot (t : TT) : TT := fun σ H Q => t σ H fun c H1 => Q (!c) H1
theorem pw_and1 (ha : PT X a tA) : PW X (.BoolOp .And [a] pos) tA := by
  intro wh pins s σ H Q I h
  refine isTrue_and (thn (ha pins s σ H Q I h) fun c s1 e => ?_)
  cases c with
  | true => exact isTrue_and_nil e
  | false => exact e
theorem pw_or1 (ha : PT X a tA) : PW X (.BoolOp .Or [a] pos) tA := by
  intro wh pins s σ H Q I h
  refine isTrue_or (thn (ha pins s σ H Q I h) fun c s1 e => ?_)
  cases c with
  | false => exact isTrue_or_nil e
  | true => exact e
theorem pw_and (ha : PT X a tA) (hb : PW X (.BoolOp .And (b :: rest) pos) tB') : PW X (.BoolOp .And (a :: b :: rest) pos) (tAnd tA tB') := by
  intro wh pins s σ H Q I h
  refine isTrue_and (thn (ha pins s σ H _ I h) fun c s1 ⟨H1, I1, q1⟩ => ?_)
  cases c with
  | true => exact hb wh pins s1 σ H1 Q I1 q1
  | false => exact ⟨H1, I1, q1⟩
theorem pw_or (ha : PT X a tA) (hb : PW X (.BoolOp .Or (b :: rest) pos) tB') : PW X (.BoolOp .Or (a :: b :: rest) pos) (tOr tA tB') := by
  intro wh pins s σ H Q I h
  refine isTrue_or (thn (ha pins s σ H _ I h) fun c s1 ⟨H1, I1, q1⟩ => ?_)
  cases c with
  | true => exact ⟨H1, I1, q1⟩
  | false => exact hb wh pins s1 σ H1 Q I1 q1
theorem pt_not (ha : PT X a tA) : PT X (.UnaryOp .Not a pos) (tNot tA) := by
  intro pins s σ H Q I h
  exact isTrue_not (ha pins s σ H (fun c H1 => Q (!c) H1) I h)
def tAndV (ta tb : TE) : TE := fun σ H Q => ta σ H fun x H1 => ∃ c, x = .bl c ∧ if c = true then tb σ H1 Q else Q (.bl false) H1
def tOrV (ta tb : TE) : TE := fun σ H Q => ta σ H fun x H1 => ∃ c, x = .bl c ∧ if c = true then Q (.bl true) H1 else tb σ H1 Q
def tNotV (ta : TE) : TE := fun σ H Q => ta σ H fun x H1 => ∃ c, x = .bl c ∧ Q (.bl (!c)) H1
theorem pe_one {op} {t : TE} (h : PE X a t) : PE X (.BoolOp op [a] pos) t := fun pins s σ H Q I hw => BoolOp_one (h pins s σ H Q I hw)
theorem pe_and (ha : PE X a ta) (hb : PE X (.BoolOp .And (b :: rest) pos) tb) : PE X (.BoolOp .And (a :: b :: rest) pos) (tAndV ta tb) := by
  intro pins s σ H Q I h
  refine BoolOp_and (thn (ha pins s σ H _ I h) fun v s1 ⟨x, H1, I1, r1, q1⟩ => ?_)
  obtain ⟨c, rfl, q1⟩ := q1
  cases r1
  refine wpAny_truthy_bool ?_
  cases c with
  | true => exact hb pins s1 σ H1 Q I1 q1
  | false => exact ⟨.bl false, H1, I1, rfl, q1⟩
theorem pe_or (ha : PE X a ta) (hb : PE X (.BoolOp .Or (b :: rest) pos) tb) : PE X (.BoolOp .Or (a :: b :: rest) pos) (tOrV ta tb) := by
  intro pins s σ H Q I h
  refine BoolOp_or (thn (ha pins s σ H _ I h) fun v s1 ⟨x, H1, I1, r1, q1⟩ => ?_)
  obtain ⟨c, rfl, q1⟩ := q1
  cases r1
  refine wpAny_truthy_bool ?_
  cases c with
  | false => exact hb pins s1 σ H1 Q I1 q1
  | true => exact ⟨.bl true, H1, I1, rfl, q1⟩
theorem pe_not (ha : PE X a ta) : PE X (.UnaryOp .Not a pos) (tNotV ta) := by
  intro pins s σ H Q I h
  refine UnaryOp_ (thn (ha pins s σ H _ I h) fun v s1 ⟨x, H1, I1, r1, q1⟩ => ?_)
  obtain ⟨c, rfl, q1⟩ := q1
  cases r1
  exact not_of (wpAny_truthy_bool ⟨.bl (!c), H1, I1, rfl, q1⟩)
def tIf (t : TT) (ta tb : TE) : TE := fun σ H Q => t σ H fun c H1 => if c = true then ta σ H1 Q else tb σ H1 Q
theorem pe_ifExp {c : Expr} (hc : PT X c tA) (ha : PE X a ta) (hb : PE X b tb) : PE X (.IfExp c a b pos) (tIf tA ta tb) := by
  intro pins s σ H Q I h
  refine wpAny_IfExp (thn (hc pins s σ H _ I h) fun d s1 ⟨H1, I1, q1⟩ => ?_)
  cases d with
  | true => exact ha pins s1 σ H1 Q I1 q1
  | false => exact hb pins s1 σ H1 Q I1 q1
end
end L2
namespace L2
open PySem PySem.Spec PyProof.Rows
def SqL (K : PySem.W.Frag) (H : Hp) (a : Addr) (xs : List V) : Prop :=
  Rd H a (.lst xs) ∨
    ∃ (o : Obj) (its : Array Value) (n : Nat), K.lookup a = some o ∧ o.cls = .type "list" ∧ o.dict = none ∧ o.data = .seq its n ∧ its.size ≤ sizeLine ∧ Vals xs its.toList
def SqT (K : PySem.W.Frag) (H : Hp) (a : Addr) (xs : List V) : Prop :=
  Rd H a (.tup xs) ∨
    ∃ (o : Obj) (its : Array Value) (n : Nat), K.lookup a = some o ∧ o.cls = .type "tuple" ∧ o.data = .seq its n ∧ its.size ≤ sizeLine ∧ Vals xs its.toList
def absV : Value → Option V
  | .none => some .non
  | .bool b => some (.bl b)
  | .int i _ => some (.int i)
  | .str x _ => some (.str x)
  | .bytes b _ => some (.byt b)
  | .float b _ => some (.flt b)
  | .ref a => some (.ref a)
  | .type n => some (.ty n)
  | _ => none
theorem RelV.abs {x : V} {u : Value} (r : RelV x u) : absV u = some x := by
  cases x with
  | non => cases r; rfl
  | bl _ => cases r; rfl
  | int _ => obtain ⟨t, rfl⟩ := r; rfl
  | str _ => obtain ⟨t, rfl⟩ := r; rfl
  | byt _ => obtain ⟨t, rfl⟩ := r; rfl
  | flt _ => obtain ⟨t, rfl⟩ := r; rfl
  | ref _ => cases r; rfl
  | ty _ => cases r; rfl
theorem RelV.inj {x y : V} {u : Value} (r : RelV x u) (q : RelV y u) : x = y := Option.some.inj (r.abs.symm.trans q.abs)
theorem Vals.inj : ∀ {xs ys : List V} {us : List Value}, Vals xs us → Vals ys us → xs = ys
  | _, _, _, .nil, .nil => rfl
  | _, _, _, .cons r t, .cons r' t' => by rw [r.inj r', Vals.inj t t']
section
variable {X : Cx} {pins : List (Addr × Obj)} {σ : St} {H : Hp} {s : Shared} {a : Addr} {xs ys : List V}
theorem SqL.of {K : PySem.W.Frag} (h : H a = some (.lst xs)) : SqL K H a xs := .inl (.inl h)
theorem SqT.of {K : PySem.W.Frag} (h : H a = some (.tup xs)) : SqT K H a xs := .inl (.inl h)
theorem Inv.list (I : Inv X pins σ H s) (h : SqL X.K H a xs) : ∃ its : List Value, Vals xs its ∧ PlainL s.heap a its.toArray ∧ xs.length ≤ sizeLine := by
  rcases h with h | ⟨o, its, n, hk, hc, hd, hs, hz, r⟩
  · obtain ⟨z, its, n, r, e⟩ := h.ok I.hok
    exact ⟨its, r, ⟨_, n, e, rfl, rfl, rfl⟩, z⟩
  · refine ⟨its.toList, r, ⟨o, n, I.kIn a o hk, hc, hd, by simpa using hs⟩, ?_⟩
    have e := r.length
    simp only [Array.length_toList] at e
    omega
theorem Inv.tuple (I : Inv X pins σ H s) (h : SqT X.K H a xs) : ∃ its : List Value, Vals xs its ∧ IsTup s.heap a its.toArray ∧ xs.length ≤ sizeLine := by
  rcases h with h | ⟨o, its, n, hk, hc, hs, hz, r⟩
  · obtain ⟨z, its, r, p⟩ := h.ok I.hok
    exact ⟨its, r, p, z⟩
  · refine ⟨its.toList, r, ⟨o, I.kIn a o hk, hc, n, by simpa using hs⟩, ?_⟩
    have e := r.length
    simp only [Array.length_toList] at e
    omega
theorem Inv.list_inj (I : Inv X pins σ H s) (h : SqL X.K H a xs) (h' : SqL X.K H a ys) : xs = ys := by
  obtain ⟨its, r, ⟨o, n, e, _, _, d⟩, _⟩ := I.list h
  obtain ⟨its', r', ⟨o', n', e', _, _, d'⟩, _⟩ := I.list h'
  rw [e] at e'; cases e'
  rw [d] at d'
  injection d' with d1 _
  have : its = its' := by simpa using congrArg Array.toList d1
  subst this
  exact r.inj r'
theorem Inv.tuple_inj (I : Inv X pins σ H s) (h : SqT X.K H a xs) (h' : SqT X.K H a ys) : xs = ys := by
  obtain ⟨its, r, ⟨o, e, _, n, d⟩, _⟩ := I.tuple h
  obtain ⟨its', r', ⟨o', e', _, n', d'⟩, _⟩ := I.tuple h'
  rw [e] at e'; cases e'
  rw [d] at d'
  injection d' with d1 _
  have : its = its' := by simpa using congrArg Array.toList d1
  subst this
  exact r.inj r'
end
abbrev Cx.wish (X : Cx) (E : Value → Shared → Prop) : Cx := { X with xe := E }
abbrev Cx.nox (X : Cx) : Cx := X.wish fun _ _ => False
theorem Cx.Ok.wish {X : Cx} (ok : X.Ok) (E : Value → Shared → Prop) : (X.wish E).Ok :=
  ⟨ok.mod, ok.kind, ok.glob, ok.blt, ok.above, ok.inj, ok.has, ok.cab, ok.hd, ok.frames, ok.stk, ok.exf, ok.bs, ok.bsz, ok.noex, ok.exfs, ok.funs, ok.frf⟩
theorem Cx.Ok.unwish {X : Cx} {E : Value → Shared → Prop} (ok : (X.wish E).Ok) : X.Ok :=
  ⟨ok.mod, ok.kind, ok.glob, ok.blt, ok.above, ok.inj, ok.has, ok.cab, ok.hd, ok.frames, ok.stk, ok.exf, ok.bs, ok.bsz, ok.noex, ok.exfs, ok.funs, ok.frf⟩
section
variable {X : Cx} {pins : List (Addr × Obj)} {σ : St} {H : Hp} {s : Shared} {E : Value → Shared → Prop}
theorem Inv.wish (I : Inv X pins σ H s) (E : Value → Shared → Prop) : Inv (X.wish E) pins σ H s := ⟨I.ok.wish E, I.os, I.bare, I.base, I.loc, I.cell, I.free, I.freeC, I.pin, I.hok, I.len⟩
theorem Inv.unwish (I : Inv (X.wish E) pins σ H s) : Inv X pins σ H s := ⟨I.ok.unwish, I.os, I.bare, I.base, I.loc, I.cell, I.free, I.freeC, I.pin, I.hok, I.len⟩
theorem SP.unwish {D : Ends} {f : Flow} {s' : Shared} (h : SP (X.wish E) pins D f s') : SP X pins D f s' := by
  cases f with
  | next => obtain ⟨σ', H', I, q⟩ := h; exact ⟨σ', H', I.unwish, q⟩
  | brk => obtain ⟨σ', H', I, q⟩ := h; exact ⟨σ', H', I.unwish, q⟩
  | cont => obtain ⟨σ', H', I, q⟩ := h; exact ⟨σ', H', I.unwish, q⟩
  | ret u => obtain ⟨v, σ', H', I, r, q⟩ := h; exact ⟨v, σ', H', I.unwish, r, q⟩
theorem PSs.nox {st : List Stmt} {t : TS} (h : PSs X.nox st t) : PSs X st t := fun pins s σ H D I hw =>
  wpAny_mono (h pins s σ H D (I.wish _) hw) (fun _ _ q => q.unwish) fun _ _ z => False.elim z
end
section
variable {X : Cx} {st : Stmt} {rest : List Stmt} {t u : TS} {e : Expr} {te : TE} {pos : Pos}
def tNext : TS := fun D σ H => D.nx σ H
def tSeq (t u : TS) : TS := fun D σ H => t { D with nx := u D } σ H
theorem pss_nil : PSs X [] tNext := fun _ _ σ H _ I h => wpAny_execs_nil ⟨σ, H, I, h⟩
theorem pss_cons (h1 : PS X st t) (h2 : PSs X rest u) : PSs X (st :: rest) (tSeq t u) := by
  intro pins s σ H D I h
  refine wpAny_execs_cons (thn (h1 pins s σ H { D with nx := u D } I h) fun f s1 q => ?_)
  cases f with
  | next =>
    obtain ⟨σ', H', I', q⟩ := q
    exact h2 pins s1 σ' H' D I' q
  | ret v => exact q
  | brk => exact q
  | cont => exact q
theorem pss_one (h1 : PS X st t) : PSs X [st] t := by
  intro pins s σ H D I h
  refine wpAny_execs_cons (thn (h1 pins s σ H D I h) fun f s1 q => ?_)
  cases f with
  | next => exact wpAny_execs_nil q
  | ret v => exact q
  | brk => exact q
  | cont => exact q
theorem Inv.quiet {pins : List (Addr × Obj)} {σ : St} {H : Hp} {s : Shared} (I : Inv X pins σ H s) : interactive X.env = false := by simp [interactive, I.ok.kind]
def tDrop (te : TE) : TS := fun D σ H => te σ H fun _ H1 => D.nx σ H1
theorem ps_expr (he : PE X e te) (hs : swapsWith e none pos.line X.env = pure false := by rfl) : PS X (.Expr e pos) (tDrop te) := by
  intro pins s σ H D I h
  exact wpAny_Expr_any (thn (he pins s σ H _ I h) fun v s1 ⟨x, H1, I1, r1, q1⟩ => ⟨σ, H1, I1, q1⟩) I.quiet hs
def tRet (te : TE) : TS := fun D σ H => te σ H D.rt
theorem ps_ret (he : PE X e te) : PS X (.Return (some e) pos) (tRet te) := by
  intro pins s σ H D I h
  exact wpAny_Return_some (thn (he pins s σ H _ I h) fun v s1 ⟨x, H1, I1, r1, q1⟩ => ⟨x, σ, H1, I1, r1, q1⟩)
def tRetN : TS := fun D _ H => D.rt .non H
def tIfS (c : TT) (t u : TS) : TS := fun D σ H => c σ H fun b H1 => if b = true then t D σ H1 else u D σ H1
theorem ps_if {c : Expr} {a b : List Stmt} {tc : TT} (hc : PT X c tc) (ha : PSs X a t) (hb : PSs X b u) : PS X (.If c a b pos) (tIfS tc t u) := by
  intro pins s σ H D I h
  refine wpAny_If (thn (hc pins s σ H _ I h) fun d s1 ⟨H1, I1, q1⟩ => ?_)
  cases d with
  | true => exact ha pins s1 σ H1 D I1 q1
  | false => exact hb pins s1 σ H1 D I1 q1
end
abbrev TG := V → St → Hp → (St → Hp → Prop) → Prop
def PG (X : Cx) (target : Expr) (t : TG) : Prop :=
  ∀ (pins : List (Addr × Obj)) (s : Shared) (σ : St) (H : Hp) (v : V) (u : Value) (Q : St → Hp → Prop), Inv X pins σ H s → RelV v u → t v σ H Q →
    wpAny (model X.prog X.w) X.A (assign target X.env u) (fun _ s' => ∃ σ' H', Inv X pins σ' H' s' ∧ Q σ' H') X.xe s
abbrev TSet := V → V → V → Hp → (Hp → Prop) → Prop
def PSet (X : Cx) (t : TSet) : Prop :=
  ∀ (pins : List (Addr × Obj)) (s : Shared) (σ : St) (H : Hp) (o i v : V) (ov iv u : Value) (Q : Hp → Prop), Inv X pins σ H s → RelV o ov → RelV i iv → RelV v u → t o i v H Q →
    wpAny (model X.prog X.w) X.A (setItem ov iv u) (fun _ s' => ∃ H', Inv X pins σ H' s' ∧ Q H') X.xe s
abbrev TIp := V → V → Hp → VK → Prop
def PIp (X : Cx) (op : Operator) (t : TIp) : Prop :=
  ∀ (pins : List (Addr × Obj)) (s : Shared) (σ : St) (H : Hp) (x y : V) (v u : Value) (Q : VK), Inv X pins σ H s → RelV x v → RelV y u → t x y H Q →
    wpAny (model X.prog X.w) X.A (inplaceOp op v u) (EP X pins σ Q) X.xe s
section
variable {X : Cx} {pos : Pos}
def gName (i : Nat) : TG := fun v σ H Q => Q (σ.set i (some v)) H
theorem pg_name {i : Nat} {x : Str} (hN : X.N.Nodup) (hi : X.N[i]? = some x) (hx : Loc X.env.scope x) (hf : X.fn x = true ∨ X.env.scope.names.lookup x = some .local := by first | exact .inl rfl | exact .inr rfl | assumption) : PG X (.Name x pos) (gName i) := by
  intro pins s σ H v u Q I r h
  exact wpAny_assign_Name (store_ok I hN hi hx r (fun s' I' => ⟨_, H, I', h⟩) hf)
def tAsg (te : TE) (g : TG) : TS := fun D σ H => te σ H fun x H1 => g x σ H1 D.nx
theorem ps_set {i : Nat} {x : Str} {e : Expr} {te : TE} {pos' : Pos} (hN : X.N.Nodup) (hi : X.N[i]? = some x) (hx : Loc X.env.scope x) (he : PE X e te) (hs : swapsWith e (some (.Name x pos')) pos.line X.env = pure false := by rfl) (hf : X.fn x = true ∨ X.env.scope.names.lookup x = some .local := by first | exact .inl rfl | exact .inr rfl | assumption) :
    PS X (.Assign [.Name x pos'] e pos) (tAsg te (gName i)) := by
  intro pins s σ H D I h
  refine wpAny_Assign_Name (thn (he pins s σ H _ I h) fun v s1 ⟨y, H1, I1, r1, q1⟩ => ?_) hs
  exact store_ok I1 hN hi hx r1 (fun s2 I2 => ⟨_, H1, I2, q1⟩) hf
def tAug (i : Nat) (te : TE) (ti : TIp) : TS := fun D σ H => ∃ x, σ[i]? = some (some x) ∧ te σ H fun y H1 => ti x y H1 fun z H2 => D.nx (σ.set i (some z)) H2
def tAugS (to ti te : TE) (tget : V → V → Hp → VK → Prop) (tip : TIp) (tset : TSet) : TS := fun D σ H => to σ H fun o H1 => ti σ H1 fun i H2 => tget o i H2 fun x H3 => te σ H3 fun y H4 => tip x y H4 fun z H5 => tset o i z H5 fun H6 => D.nx σ H6
def PGet (X : Cx) (t : V → V → Hp → VK → Prop) : Prop :=
  ∀ (pins : List (Addr × Obj)) (s : Shared) (σ : St) (H : Hp) (o i : V) (ov iv : Value) (Q : VK), Inv X pins σ H s → RelV o ov → RelV i iv → t o i H Q →
    wpAny (model X.prog X.w) X.A (getItem ov iv) (EP X pins σ Q) X.xe s
theorem ps_augS {o i e : Expr} {to ti te : TE} {tget : V → V → Hp → VK → Prop} {tip : TIp} {tset : TSet} {op : Operator} {tpos : Pos} (ho : PE X o to) (hi : PE X i ti) (hg : PGet X tget) (he : PE X e te) (hp : PIp X op tip) (hs : PSet X tset)
    (ha : ∀ ov iv new, augStore i ov iv new = (do holding [new, ov, iv] (setItem ov iv new); release [new, ov, iv] []; pure .next) := by intros; rfl) : PS X (.AugAssign (.Subscript o i tpos) op e pos) (tAugS to ti te tget tip tset) := by
  intro pins s σ H D I h
  refine wpAny_AugAssign_SubscriptAny (thn (ho pins s σ H _ I h) fun ov s1 ⟨x1, H1, I1, r1, q1⟩ => ?_) ha
  refine thn (hi pins s1 σ H1 _ I1 q1) fun iv s2 ⟨x2, H2, I2, r2, q2⟩ => ?_
  refine thn (hg pins s2 σ H2 x1 x2 ov iv _ I2 r1 r2 q2) fun old s3 ⟨x3, H3, I3, r3, q3⟩ => ?_
  refine thn (he pins s3 σ H3 _ I3 q3) fun v s4 ⟨x4, H4, I4, r4, q4⟩ => ?_
  refine thn (hp pins s4 σ H4 x3 x4 old v _ I4 r3 r4 q4) fun new s5 ⟨x5, H5, I5, r5, q5⟩ => ?_
  exact thn (hs pins s5 σ H5 x1 x2 x5 ov iv new _ I5 r1 r2 r5 q5) fun _ s6 ⟨H6, I6, q6⟩ => ⟨σ, H6, I6, q6⟩
def ipI (f : Int → Int → Int) : TIp := fun x y H Q => ∃ i j, x = .int i ∧ y = .int j ∧ Q (.int (f i j)) H
theorem ip_add : PIp X .Add (ipI fun i j => i + j) := by
  intro pins s σ H x y v u Q I r1 r2 h
  obtain ⟨i, j, e1, e2, q⟩ := h
  subst e1; subst e2
  obtain ⟨t, rfl⟩ := r1
  obtain ⟨t', rfl⟩ := r2
  exact iadd_int ⟨.int _, H, I.tok _, ⟨_, rfl⟩, q⟩
theorem ip_sub : PIp X .Sub (ipI fun i j => i - j) := by
  intro pins s σ H x y v u Q I r1 r2 h
  obtain ⟨i, j, e1, e2, q⟩ := h
  subst e1; subst e2
  obtain ⟨t, rfl⟩ := r1
  obtain ⟨t', rfl⟩ := r2
  exact isub_int ⟨.int _, H, I.tok _, ⟨_, rfl⟩, q⟩
end
section
variable {X : Cx} {pos : Pos}
def tWhile (c : TT) (tb : TS) : TS := fun D σ H => ∃ W : Nat → St → Hp → Prop, (∃ m, W m σ H) ∧ ∀ m σ H, W m σ H →
  c σ H fun b H1 => if b = true then ∃ N : St → Hp → Prop, (∀ σ' H', N σ' H' → ∃ m', m' < m ∧ W m' σ' H') ∧ tb { D with nx := N, ct := N, bk := D.nx } σ H1 else D.nx σ H1
theorem ps_while {c : Expr} {body : List Stmt} {tc : TT} {tb : TS} (hp : PassesOwn (model X.prog X.w) X.A X.env X.xe) (hc : PT X c tc) (hb : PSs X body tb) : PS X (.While c body [] pos) (tWhile tc tb) := by
  intro pins s σ H D I h
  obtain ⟨W, ⟨m0, w0⟩, turn⟩ := h
  refine wpAny_While (codeAny_whileLoop (fun n s' => ∃ σ' H', Inv X pins σ' H' s' ∧ W n σ' H') ?_ m0 ⟨σ, H, I, w0⟩)
  rintro n s1 ⟨σ1, H1, I1, w1⟩
  refine wpAny_passesOwn hp (thn (hc pins s1 σ1 H1 _ I1 (turn n σ1 H1 w1)) fun b s2 ⟨H2, I2, q2⟩ => ?_)
  cases b with
  | true =>
    obtain ⟨N, hN, q2⟩ := q2
    rw [if_pos rfl]
    refine wpAny_passesOwn hp (thn (hb pins s2 σ1 H2 _ I2 q2) fun f s3 q3 => ?_)
    cases f with
    | next =>
      obtain ⟨σ3, H3, I3, n3⟩ := q3
      obtain ⟨m', hm, w3⟩ := hN σ3 H3 n3
      exact ⟨m', hm, σ3, H3, I3, w3⟩
    | cont =>
      obtain ⟨σ3, H3, I3, n3⟩ := q3
      obtain ⟨m', hm, w3⟩ := hN σ3 H3 n3
      exact ⟨m', hm, σ3, H3, I3, w3⟩
    | brk => exact q3
    | ret v => exact q3
  | false =>
    rw [if_neg Bool.false_ne_true]
    exact wpAny_execs_nil ⟨σ1, H2, I2, q2⟩
end
structure It where
  go : Nat → Hp → Prop
  yld : Nat → Hp → V → Hp → Prop
  stop : Nat → Hp → Prop
def FpOk (X : Cx) (pins : List (Addr × Obj)) (H : Hp) (b : Addr) : Prop :=
  H b = none ∧ b ≠ X.env.locals ∧ b ∉ X.fs ∧ (b ∈ X.ex ∨ X.s_0.heap.objs.size ≤ b) ∧ (∀ x c, X.env.cells.lookup x = some c → c ≠ b) ∧ ∀ p ∈ X.pn ++ pins, p.1 ≠ b
theorem Inv.fpOk {X : Cx} {pins : List (Addr × Obj)} {σ : St} {H H' : Hp} {s : Shared} {b : Addr} (I : Inv X pins σ H s) (hb : s.heap.objs.size ≤ b) (hn : H' b = none) : FpOk X pins H' b := by
  refine ⟨hn, Nat.ne_of_gt (Nat.lt_of_lt_of_le I.lt hb), I.nofs hb, .inr (Nat.le_trans I.sz hb), fun x c e z => ?_, fun p hp z => ?_⟩
  · obtain ⟨v, q⟩ := I.cell x c e
    exact absurd (Nat.lt_of_lt_of_le q.lt (by rw [z]; exact hb)) (Nat.lt_irrefl _)
  · exact absurd (Nat.lt_of_lt_of_le (Heap.lt_size (I.pin p hp).1) (by rw [z]; exact hb)) (Nat.lt_irrefl _)
structure Turn (P : Program) (w : World) (K : PySem.W.Frag) (tg : Expr) (J : It) (fp : List Addr) (it : Addr) (tn : Nat → Heap → Prop) : Prop where
  mem : it ∈ fp
  obj : ∀ i h, tn i h → ∀ b ∈ fp, ∃ o, h.get? b = some o ∧ ∀ v, o.data ≠ .cell v
  keep : ∀ i h h', tn i h → (∀ b ∈ fp, ∀ o, h.get? b = some o → h'.get? b = some o) → tn i h'
  item : ∀ (X : Cx), X.prog = P → X.w = w → X.K = K → X.calm = true → ∀ (i : Nat) (pins : List (Addr × Obj)) (s : Shared) (σ : St) (H : Hp) (E : Value → Shared → Prop), Inv X pins σ H s → (∀ b ∈ fp, FpOk X pins H b) → tn i s.heap → J.go i H →
    wpAny (model P w) X.A (pyNext (.ref it)) (fun r s1 => ∃ u, r = some u ∧
      wpAny (model P w) X.A (letOwnedTupleGo tg (.ref it) u) (fun _ s2 => ∃ x H', Inv X pins σ H' s2 ∧ RelV x u ∧ J.yld i H x H' ∧ tn (i + 1) s2.heap ∧ ∀ b ∈ fp, H' b = none) E s1) E s
  done : ∀ (X : Cx), X.prog = P → X.w = w → X.K = K → X.calm = true → ∀ (i : Nat) (pins : List (Addr × Obj)) (s : Shared) (σ : St) (H : Hp) (E : Value → Shared → Prop), Inv X pins σ H s → (∀ b ∈ fp, FpOk X pins H b) → tn i s.heap → J.stop i H →
    wpAny (model P w) X.A (pyNext (.ref it)) (fun r s1 => r = none ∧ Inv X pins σ H s1) E s
  self : ∀ (A : Around) (i : Nat) (s : Shared) (Q : Value → Shared → Prop) (E : Value → Shared → Prop), tn i s.heap → Q (.ref it) s → wpAny (model P w) A (pyIter (.ref it)) Q E s
abbrev TI := St → Hp → (It → Hp → Prop) → Prop
def PIE (X : Cx) (pins : List (Addr × Obj)) (σ : St) (tg : Expr) (R : It → Hp → Prop) (itv : Value) (s2 : Shared) : Prop :=
  ∃ (it : Addr) (fp : List Addr) (tn : Nat → Heap → Prop) (J : It) (H' : Hp), itv = .ref it ∧ Inv X pins σ H' s2 ∧ Turn X.prog X.w X.K tg J fp it tn ∧ tn 0 s2.heap ∧ (∀ b ∈ fp, FpOk X pins H' b) ∧ R J H'
def PI (X : Cx) (tg iter : Expr) (wi : TI) : Prop :=
  ∀ (pins : List (Addr × Obj)) (s : Shared) (σ : St) (H : Hp) (R : It → Hp → Prop), Inv X pins σ H s → wi σ H R →
    wpAny (model X.prog X.w) X.A (eval iter X.env) (fun v s1 => wpAny (model X.prog X.w) X.A (pyIter v) (PIE X pins σ tg R) X.xe s1) X.xe s
theorem go_of {M : Model} {A : Around} {E : Value → Shared → Prop} {s : Shared} {tg : Expr} {it : Addr} {u : Value} {o : Obj} {n : String} {vs : Array Value} {Q : Unit → Shared → Prop} (ho : s.heap.get? it = some o) (hc : o.cls = .type n) (hd : o.data = .fields vs)
    (hn : ["enumerate", "zip", "dict_itemiterator", "dict_reverseitemiterator", "odict_iterator", "itertools.zip_longest", "itertools.pairwise"].contains n = false) (hQ : Q () s) : wpAny M A (letOwnedTupleGo tg (.ref it) u) Q E s := by
  unfold letOwnedTupleGo
  cases tg <;> first
    | exact wpAny_pure hQ
    | (cases u <;> first
        | exact wpAny_pure hQ
        | (refine wpAny_bind (wpAny_load ho ?_)
           rw [hc, hd]
           show wpAny M A (if (["enumerate", "zip", "dict_itemiterator", "dict_reverseitemiterator", "odict_iterator", "itertools.zip_longest", "itertools.pairwise"].contains n && vs[0]? == some (rawInt _)) = true then _ else _) Q E s
           rw [if_neg (by intro h; rw [hn, Bool.false_and] at h; cases h)]
           exact wpAny_pure hQ))
def Itl (K : PySem.W.Frag) (a : Addr) : It :=
  ⟨fun i H => ∃ xs x, SqL K H a xs ∧ xs[i]? = some x, fun i H x H' => H' = H ∧ ∀ xs, SqL K H a xs → xs[i]? = some x, fun i H => ∃ xs, SqL K H a xs ∧ xs.length ≤ i⟩
def Itt (K : PySem.W.Frag) (a : Addr) : It :=
  ⟨fun i H => ∃ xs x, SqT K H a xs ∧ xs[i]? = some x, fun i H x H' => H' = H ∧ ∀ xs, SqT K H a xs → xs[i]? = some x, fun i H => ∃ xs, SqT K H a xs ∧ xs.length ≤ i⟩
theorem turn_list {P : Program} {w : World} {K : PySem.W.Frag} {tg : Expr} (a it : Addr) : Turn P w K tg (Itl K a) [it] it (fun i h => h.IsListIter it a i) where
  mem := by simp
  obj := fun i h st b hb => by
    have e : b = it := by simpa using hb
    subst e
    obtain ⟨o, e, c, d⟩ := st
    exact ⟨o, e, fun v z => by rw [d] at z; cases z⟩
  keep := fun i h h' st k => st.at fun o e => k it (by simp) o e
  item := by
    intro X hP hw hK hc i pins s σ H E I hf st hg
    subst hP hw hK
    obtain ⟨xs, x, hq, hx⟩ := hg
    obtain ⟨its, rv, p, hz⟩ := I.list hq
    obtain ⟨u, hu, ru⟩ := rv.get hx
    obtain ⟨f0, f1, f2, f3, f4, f5⟩ := hf it (by simp)
    refine wpAny_pyNext_list_item st p.isList (x := u) (by simpa using hu) fun h' st' sb => ?_
    have I1 : Inv X pins σ H { s with heap := h' } := I.turned (t' := s.toks) (fun b o hb e => (sb.2 b hb).trans e) f0 f1 f3 f4 f5
    obtain ⟨o, e, c, d⟩ := id st'
    exact ⟨u, rfl, go_of (s := { s with heap := h' }) e c d (by decide) ⟨x, H, I1, ru, ⟨rfl, fun ys hy => by rw [I.list_inj hy hq]; exact hx⟩, st', fun b hb => (hf b hb).1⟩⟩
  done := by
    intro X hP hw hK hc i pins s σ H E I hf st hg
    subst hP hw hK
    obtain ⟨xs, hq, hx⟩ := hg
    obtain ⟨its, rv, p, hz⟩ := I.list hq
    obtain ⟨f0, f1, f2, f3, f4, f5⟩ := hf it (by simp)
    have hl := rv.length
    exact wpAny_pyNext_list_end (I.ok.hd hc) st p.isList (by simp; omega) fun h' eb => ⟨rfl, I.turned (t' := s.toks) (fun b o hb e => eb b o hb e) f0 f1 f3 f4 f5⟩
  self := fun _ _ _ _ _ st h => wpAny_pyIter_listiter st h
theorem turn_tuple {P : Program} {w : World} {K : PySem.W.Frag} {tg : Expr} (a it : Addr) : Turn P w K tg (Itt K a) [it] it (fun i h => h.IsTupleIter it a i) where
  mem := by simp
  obj := fun i h st b hb => by
    have e : b = it := by simpa using hb
    subst e
    obtain ⟨o, e, c, d⟩ := st
    exact ⟨o, e, fun v z => by rw [d] at z; cases z⟩
  keep := fun i h h' st k => st.at fun o e => k it (by simp) o e
  item := by
    intro X hP hw hK hc i pins s σ H E I hf st hg
    subst hP hw hK
    obtain ⟨xs, x, hq, hx⟩ := hg
    obtain ⟨its, rv, p, hz⟩ := I.tuple hq
    obtain ⟨u, hu, ru⟩ := rv.get hx
    obtain ⟨f0, f1, f2, f3, f4, f5⟩ := hf it (by simp)
    refine wpAny_pyNext_tuple_item st (show s.heap.IsTuple a its.toArray from p) (x := u) (by simpa using hu) fun h' st' sb => ?_
    have I1 : Inv X pins σ H { s with heap := h' } := I.turned (t' := s.toks) (fun b o hb e => (sb.2 b hb).trans e) f0 f1 f3 f4 f5
    obtain ⟨o, e, c, d⟩ := id st'
    exact ⟨u, rfl, go_of (s := { s with heap := h' }) e c d (by decide) ⟨x, H, I1, ru, ⟨rfl, fun ys hy => by rw [I.tuple_inj hy hq]; exact hx⟩, st', fun b hb => (hf b hb).1⟩⟩
  done := by
    intro X hP hw hK hc i pins s σ H E I hf st hg
    subst hP hw hK
    obtain ⟨xs, hq, hx⟩ := hg
    obtain ⟨its, rv, p, hz⟩ := I.tuple hq
    obtain ⟨f0, f1, f2, f3, f4, f5⟩ := hf it (by simp)
    have hl := rv.length
    exact wpAny_pyNext_tuple_end (I.ok.hd hc) st (show s.heap.IsTuple a its.toArray from p) (by simp; omega) fun h' eb => ⟨rfl, I.turned (t' := s.toks) (fun b o hb e => eb b o hb e) f0 f1 f3 f4 f5⟩
  self := fun _ _ _ _ _ st h => wpAny_pyIter_tupleiter st h
end L2
namespace L2
open PySem PySem.Spec PyProof.Rows
section
variable {X : Cx} {tg : Expr}
def iList (K : PySem.W.Frag) (tl : TE) : TI := fun σ H R => tl σ H fun x H1 => ∃ a, x = .ref a ∧ (∃ xs, SqL K H1 a xs) ∧ R (Itl K a) H1
def iTup (K : PySem.W.Frag) (tl : TE) : TI := fun σ H R => tl σ H fun x H1 => ∃ a, x = .ref a ∧ (∃ xs, SqT K H1 a xs) ∧ R (Itt K a) H1
theorem pi_list {l : Expr} {tl : TE} (hl : PE X l tl) : PI X tg l (iList X.K tl) := by
  intro pins s σ H R I h
  refine thn (hl pins s σ H _ I h) fun v s1 ⟨x, H1, I1, r1, q1⟩ => ?_
  obtain ⟨a, e, ⟨xs, hq⟩, q⟩ := q1
  subst e
  cases r1
  obtain ⟨its, rv, p, hz⟩ := I1.list hq
  refine wpAny_pyIter_list p.isList ?_
  refine ⟨s1.heap.objs.size, [s1.heap.objs.size], _, _, H1, rfl, I1.kept (t' := s1.toks) fun b o e => Heap.get?_push_of_some _ e, turn_list a _, ⟨_, Heap.get?_push_size _ rfl, rfl, rfl⟩, fun b hb => ?_, q⟩
  have e : b = s1.heap.objs.size := by simpa using hb
  subst e
  exact I1.fpOk (Nat.le_refl _) (I1.hok.fresh (Nat.le_refl _))
theorem pi_tup {l : Expr} {tl : TE} (hl : PE X l tl) : PI X tg l (iTup X.K tl) := by
  intro pins s σ H R I h
  refine thn (hl pins s σ H _ I h) fun v s1 ⟨x, H1, I1, r1, q1⟩ => ?_
  obtain ⟨a, e, ⟨xs, hq⟩, q⟩ := q1
  subst e
  cases r1
  obtain ⟨its, rv, p, hz⟩ := I1.tuple hq
  refine wpAny_pyIter_tuple (show s1.heap.IsTuple a its.toArray from p) ?_
  refine ⟨s1.heap.objs.size, [s1.heap.objs.size], _, _, H1, rfl, I1.kept (t' := s1.toks) fun b o e => Heap.get?_push_of_some _ e, turn_tuple a _, ⟨_, Heap.get?_push_size _ rfl, rfl, rfl⟩, fun b hb => ?_, q⟩
  have e : b = s1.heap.objs.size := by simpa using hb
  subst e
  exact I1.fpOk (Nat.le_refl _) (I1.hok.fresh (Nat.le_refl _))
def tFor (wi : TI) (g : TG) (tb : TS) : TS := fun D σ H => wi σ H fun J H1 => ∃ W : Nat → Nat → St → Hp → Prop, (∃ m, W 0 m σ H1) ∧ ∀ i m σ H, W i m σ H →
  (J.stop i H ∧ D.nx σ H) ∨ (J.go i H ∧ ∃ N : St → Hp → Prop, (∀ σ' H', N σ' H' → ∃ m', m' < m ∧ W (i + 1) m' σ' H') ∧ ∀ x H', J.yld i H x H' → g x σ H' fun σ2 H2 => tb { D with nx := N, ct := N, bk := D.nx } σ2 H2)
def pinsAt (fp : List Addr) (h : Heap) : List (Addr × Obj) := fp.filterMap fun b => (h.get? b).map fun o => (b, o)
theorem mem_pinsAt {fp : List Addr} {h : Heap} {b : Addr} {o : Obj} (hb : b ∈ fp) (e : h.get? b = some o) : (b, o) ∈ pinsAt fp h := List.mem_filterMap.mpr ⟨b, hb, by rw [e]; rfl⟩
theorem of_pinsAt {fp : List Addr} {h : Heap} {p : Addr × Obj} (hp : p ∈ pinsAt fp h) : p.1 ∈ fp ∧ h.get? p.1 = some p.2 := by
  obtain ⟨b, hb, e⟩ := List.mem_filterMap.mp hp
  cases q : h.get? b with
  | none => rw [q] at e; cases e
  | some o =>
    rw [q] at e
    have e' : (b, o) = p := Option.some.inj e
    subst e'
    exact ⟨hb, q⟩
theorem Inv.pinned {pins : List (Addr × Obj)} {σ : St} {H : Hp} {s : Shared} {fp : List Addr} (I : Inv X pins σ H s) (hf : ∀ b ∈ fp, FpOk X pins H b) (ho : ∀ b ∈ fp, ∃ o, s.heap.get? b = some o ∧ ∀ v, o.data ≠ .cell v) : Inv X (pins ++ pinsAt fp s.heap) σ H s :=
  I.pins_of fun p hp => (List.mem_append.mp hp).elim (fun z => I.pin p (List.mem_append_right _ z)) fun z => by
    obtain ⟨hb, e⟩ := of_pinsAt z
    obtain ⟨f0, f1, f2, _⟩ := hf p.1 hb
    obtain ⟨o, e', d⟩ := ho p.1 hb
    rw [e] at e'; cases e'
    exact ⟨e, f0, f1, f2, d⟩
theorem Inv.unpinned {pins pl : List (Addr × Obj)} {σ : St} {H : Hp} {s : Shared} (I : Inv X (pins ++ pl) σ H s) : Inv X pins σ H s := I.pins_of fun p hp => I.pin p (List.mem_append_right _ (List.mem_append_left _ hp))
theorem ps_for {iter : Expr} {body : List Stmt} {wi : TI} {g : TG} {tb : TS} {pos : Pos} (hp : PassesOwn (model X.prog X.w) X.A X.env X.xe) (hc : X.calm = true) (hi : PI X tg iter wi) (hg : PG X tg g) (hb : PSs X body tb)
    (hs : ∀ x, foldedSetIterable iter X.env x = pure x := by intro _; rfl) : PS X (.For tg iter body [] pos) (tFor wi g tb) := by
  intro pins s σ H D I h
  refine wpAny_For (thn (hi pins s σ H _ I h) fun v s1 h1 => thn h1 fun itv s2 h2 => ?_) hs
  obtain ⟨it, fp, tn, J, H2, e, I2, T, st2, f2, W, ⟨m0, w0⟩, turn⟩ := h2
  subst e
  -- what stays true of the iterator's objects through the loop
  have stat : ∀ {H' : Hp}, (∀ b ∈ fp, H' b = none) → ∀ b ∈ fp, FpOk X pins H' b := fun hn b hb => ⟨hn b hb, (f2 b hb).2⟩
  refine codeAny_forLoop_any (fun n s' => ∃ i σ' H', Inv X pins σ' H' s' ∧ tn i s'.heap ∧ (∀ b ∈ fp, H' b = none) ∧ W i n σ' H') ?_ m0 ⟨0, σ, H2, I2, st2, fun b hb => (f2 b hb).1, w0⟩
  rintro n s3 ⟨i, σ3, H3, I3, st3, fr3, w3⟩
  rcases turn i n σ3 H3 w3 with ⟨stop, qn⟩ | ⟨go, N, hN, step⟩
  · refine wpAny_passesOwn hp (thn (T.done X rfl rfl rfl hc i pins s3 σ3 H3 X.xe I3 (stat fr3) st3 stop) fun r s4 ⟨hr, I4⟩ => ?_)
    subst hr
    exact wpAny_execs_nil ⟨σ3, H3, I4, qn⟩
  · refine wpAny_passesOwn hp (thn (T.item X rfl rfl rfl hc i pins s3 σ3 H3 X.xe I3 (stat fr3) st3 go) fun r s4 ⟨u, hr, h4⟩ => ?_)
    subst hr
    refine wpAny_passesOwn hp (thn h4 fun _ s5 ⟨x, H5, I5, r5, y5, st5, fr5⟩ => ?_)
    have I5' := I5.pinned (stat fr5) (T.obj _ _ st5)
    refine wpAny_passesOwn hp (thn (hg _ s5 σ3 H5 x u _ I5' r5 (step x H5 y5)) fun _ s6 ⟨σ6, H6, I6, q6⟩ => ?_)
    refine wpAny_passesOwn hp (thn (hb _ s6 σ6 H6 _ I6 q6) fun f s7 q7 => ?_)
    have again : ∀ {σ7 : St} {H7 : Hp}, Inv X (pins ++ pinsAt fp s5.heap) σ7 H7 s7 → N σ7 H7 → ∃ m, m < n ∧ ∃ i σ' H', Inv X pins σ' H' s7 ∧ tn i s7.heap ∧ (∀ b ∈ fp, H' b = none) ∧ W i m σ' H' := fun {σ7 H7} I7 n7 => by
      obtain ⟨m', hm, w7⟩ := hN σ7 H7 n7
      refine ⟨m', hm, i + 1, σ7, H7, I7.unpinned, T.keep _ _ _ st5 fun b hb o e => (I7.pin (b, o) (List.mem_append_right _ (List.mem_append_right _ (mem_pinsAt hb e)))).1, fun b hb => ?_, w7⟩
      obtain ⟨o, e, d⟩ := T.obj _ _ st5 b hb
      exact (I7.pin (b, o) (List.mem_append_right _ (List.mem_append_right _ (mem_pinsAt hb e)))).2.1
    cases f with
    | next => obtain ⟨σ7, H7, I7, n7⟩ := q7; exact again I7 n7
    | cont => obtain ⟨σ7, H7, I7, n7⟩ := q7; exact again I7 n7
    | brk => obtain ⟨σ7, H7, I7, q7⟩ := q7; exact ⟨σ7, H7, I7.unpinned, q7⟩
    | ret v => obtain ⟨x7, σ7, H7, I7, r7, q7⟩ := q7; exact ⟨x7, σ7, H7, I7.unpinned, r7, q7⟩
end
theorem for_list {K : PySem.W.Frag} {a : Addr} {xs : List V} {g : TG} {tb : TS} {D : Ends} {σ : St} {H : Hp} (Pv : Nat → St → Hp → Prop) (h0 : Pv 0 σ H) (hl : ∀ i σ H, i ≤ xs.length → Pv i σ H → SqL K H a xs)
    (hs : ∀ i x σ H, xs[i]? = some x → Pv i σ H → g x σ H fun σ2 H2 => tb { D with nx := Pv (i + 1), ct := Pv (i + 1), bk := D.nx } σ2 H2) (hd : ∀ σ H, Pv xs.length σ H → D.nx σ H) :
    ∃ W : Nat → Nat → St → Hp → Prop, (∃ m, W 0 m σ H) ∧ ∀ i m σ H, W i m σ H →
      ((Itl K a).stop i H ∧ D.nx σ H) ∨ ((Itl K a).go i H ∧ ∃ N : St → Hp → Prop, (∀ σ' H', N σ' H' → ∃ m', m' < m ∧ W (i + 1) m' σ' H') ∧ ∀ x H', (Itl K a).yld i H x H' → g x σ H' fun σ2 H2 => tb { D with nx := N, ct := N, bk := D.nx } σ2 H2) := by
  refine ⟨fun i m σ H => m = xs.length - i ∧ i ≤ xs.length ∧ Pv i σ H, ⟨xs.length, by simp, Nat.zero_le _, h0⟩, ?_⟩
  rintro i m σ H ⟨rfl, hi, p⟩
  have q := hl i σ H hi p
  by_cases hlt : i < xs.length
  · refine .inr ⟨⟨xs, xs[i], q, by simp [hlt]⟩, Pv (i + 1), fun σ' H' p' => ⟨xs.length - (i + 1), by omega, rfl, hlt, p'⟩, fun x H' y => ?_⟩
    obtain ⟨e, y⟩ := y
    subst e
    exact hs i x σ _ (y xs q) p
  · have e : i = xs.length := by omega
    subst e
    exact .inl ⟨⟨xs, q, Nat.le_refl _⟩, hd σ H p⟩
end L2
namespace L2
open PySem PySem.Spec PyProof.Rows
abbrev R2 := V → V → Hp → VK → Prop
def OpR (X : Cx) (f : Value → Value → Sem Value) (r : R2) : Prop :=
  ∀ (pins : List (Addr × Obj)) (s : Shared) (σ : St) (H : Hp) (x y : V) (v u : Value) (Q : VK), Inv X pins σ H s → RelV x v → RelV y u → r x y H Q →
    wpAny (model X.prog X.w) X.A (f v u) (EP X pins σ Q) X.xe s
def CallR (X : Cx) (f : Value) (r : List V → Hp → VK → Prop) : Prop :=
  ∀ (pins : List (Addr × Obj)) (s : Shared) (σ : St) (H : Hp) (xs : List V) (us : List Value) (Q : VK), Inv X pins σ H s → Vals xs us → r xs H Q →
    wpAny (model X.prog X.w) X.A (call f us) (EP X pins σ Q) X.xe s
def tOp (r : R2) (ta tb : TE) : TE := fun σ H Q => ta σ H fun x H1 => tb σ H1 fun y H2 => r x y H2 Q
def rI0 (g : Int → Int → V) : R2 := fun x y H Q => ∃ i j, x = .int i ∧ y = .int j ∧ Q (g i j) H
section
variable {X : Cx} {a b c : Expr} {ta tb tc : TE} {pos : Pos}
theorem binT (ha : PE X a ta) (hb : PE X b tb) {pins : List (Addr × Obj)} {s : Shared} {σ : St} {H : Hp} {R : V → V → Hp → Prop} (I : Inv X pins σ H s)
    (h : ta σ H fun x H1 => tb σ H1 fun y H2 => R x y H2) {Q : Value → Shared → Prop} {f : Value → Value → Sem Value}
    (hf : ∀ v u s2 x y H2, Inv X pins σ H2 s2 → RelV x v → RelV y u → R x y H2 → wpAny (model X.prog X.w) X.A (f v u) Q X.xe s2) :
    wpAny (model X.prog X.w) X.A (eval a X.env) (fun v s₁ => wpAny (model X.prog X.w) X.A (eval b X.env) (fun u s₂ => wpAny (model X.prog X.w) X.A (f v u) Q X.xe s₂) X.xe s₁) X.xe s := by
  refine thn (ha pins s σ H _ I h) fun v s1 ⟨x, H1, I1, r1, q1⟩ => ?_
  refine thn (hb pins s1 σ H1 _ I1 q1) fun u s2 ⟨y, H2, I2, r2, q2⟩ => ?_
  exact hf v u s2 x y H2 I2 r1 r2 q2
theorem pe_op {op : Operator} {r : R2} (ho : OpR X (binaryOp op) r) (ha : PE X a ta) (hb : PE X b tb) : PE X (.BinOp a op b pos) (tOp r ta tb) := by
  intro pins s σ H Q I h
  exact wpAny_BinOp (binT ha hb I h fun v u s2 x y H2 I2 rx ry q => ho pins s2 σ H2 x y v u Q I2 rx ry q)
theorem opI0 {f : Value → Value → Sem Value} {g : Int → Int → Int}
    (rule : ∀ (i j : Int) (t u : Tok) (s : Shared) (Q : Value → Shared → Prop) (E : Value → Shared → Prop), Q (.int (g i j) s.toks) { s with toks := s.toks + 1 } → wpAny (model X.prog X.w) X.A (f (.int i t) (.int j u)) Q E s) :
    OpR X f (rI0 fun i j => .int (g i j)) := by
  intro pins s σ H x y v u Q I rx ry h
  obtain ⟨i, j, rfl, rfl, q⟩ := h
  obtain ⟨t, rfl⟩ := rx
  obtain ⟨t', rfl⟩ := ry
  exact rule i j t t' s _ _ ⟨.int (g i j), H, I.tok _, ⟨_, rfl⟩, q⟩
theorem opB0 {f : Value → Value → Sem Value} {g : Int → Int → Bool}
    (rule : ∀ (i j : Int) (t u : Tok) (s : Shared) (Q : Value → Shared → Prop) (E : Value → Shared → Prop), Q (.bool (g i j)) s → wpAny (model X.prog X.w) X.A (f (.int i t) (.int j u)) Q E s) :
    OpR X f (rI0 fun i j => .bl (g i j)) := by
  intro pins s σ H x y v u Q I rx ry h
  obtain ⟨i, j, rfl, rfl, q⟩ := h
  obtain ⟨t, rfl⟩ := rx
  obtain ⟨t', rfl⟩ := ry
  exact rule i j t t' s _ _ ⟨.bl (g i j), H, I, rfl, q⟩
theorem op_add : OpR X (binaryOp .Add) (rI0 fun i j => .int (i + j)) := opI0 fun _ _ _ _ _ _ _ q => add_int q
theorem op_sub : OpR X (binaryOp .Sub) (rI0 fun i j => .int (i - j)) := opI0 fun _ _ _ _ _ _ _ q => sub_int q
end
def scal : V → V → Bool
  | .non, .non => true | .non, .int _ => true | .int _, .non => true | .non, .bl _ => true | .bl _, .non => true | .non, .str _ => true | .str _, .non => true
  | .int _, .int _ => true | .bl _, .bl _ => true | .str _, .str _ => true | .byt _, .byt _ => true
  | .int _, .str _ => true | .str _, .int _ => true | .bl _, .str _ => true | .str _, .bl _ => true
  | _, _ => false
def rEq : R2 := fun x y H Q => scal x y = true ∧ Q (.bl (decide (x = y))) H
def rNe : R2 := fun x y H Q => scal x y = true ∧ Q (.bl (!decide (x = y))) H
theorem dec_int {i j : Int} : decide (V.int i = V.int j) = (i == j) := by
  rw [Bool.eq_iff_iff]
  simp
theorem dec_bl {i j : Bool} : decide (V.bl i = V.bl j) = (i == j) := by
  rw [Bool.eq_iff_iff]
  simp
theorem dec_str {i j : Str} : decide (V.str i = V.str j) = (i == j) := by
  rw [Bool.eq_iff_iff]
  simp
theorem dec_byt {i j : Array UInt8} : decide (V.byt i = V.byt j) = (i.toList == j.toList) := by
  rw [Bool.eq_iff_iff]
  cases i
  cases j
  simp
section
variable {X : Cx} {a b c : Expr} {ta tb tc : TE} {pos : Pos}
theorem fin_bl {pins : List (Addr × Obj)} {σ : St} {H : Hp} {s : Shared} {Q : VK} {k k' : Bool} (I : Inv X pins σ H s) (q : Q (.bl k) H) (e : k = k') : EP X pins σ Q (.bool k') s := by
  subst e
  exact ⟨.bl k, H, I, rfl, q⟩
theorem op_eq : OpR X (compareOp .Eq) rEq := by
  intro pins s σ H x y v u Q I rx ry h
  obtain ⟨hs, q⟩ := h
  cases x with
  | non =>
    cases rx
    cases y with
    | non => cases ry; exact PySem.EqNone.eq_none_none (fin_bl I q (by simp))
    | bl j => cases ry; exact PySem.EqNone.eq_none_bool (fin_bl I q (by simp))
    | int j => obtain ⟨t', rfl⟩ := ry; exact PySem.EqNone.eq_none_int (fin_bl I q (by simp))
    | str j => obtain ⟨t', rfl⟩ := ry; exact PySem.EqNone.eq_none_str (fin_bl I q (by simp))
    | _ => exact absurd (show false = true from hs) Bool.false_ne_true
  | bl i =>
    cases rx
    cases y with
    | non => cases ry; exact PySem.EqNone.eq_bool_none (fin_bl I q (by simp))
    | bl j => cases ry; exact eq_bool (fin_bl I q dec_bl)
    | str j => obtain ⟨t', rfl⟩ := ry; exact PySem.EqMixed.eq_bool_str (fin_bl I q (by simp))
    | _ => exact absurd (show false = true from hs) Bool.false_ne_true
  | int i =>
    obtain ⟨t, rfl⟩ := rx
    cases y with
    | non => cases ry; exact PySem.EqNone.eq_int_none (fin_bl I q (by simp))
    | int j => obtain ⟨t', rfl⟩ := ry; exact eq_int (fin_bl I q dec_int)
    | str j => obtain ⟨t', rfl⟩ := ry; exact PySem.EqMixed.eq_int_str (fin_bl I q (by simp))
    | _ => exact absurd (show false = true from hs) Bool.false_ne_true
  | str i =>
    obtain ⟨t, rfl⟩ := rx
    cases y with
    | non => cases ry; exact PySem.EqNone.eq_str_none (fin_bl I q (by simp))
    | bl j => cases ry; exact PySem.EqMixed.eq_str_bool (fin_bl I q (by simp))
    | int j => obtain ⟨t', rfl⟩ := ry; exact PySem.EqMixed.eq_str_int (fin_bl I q (by simp))
    | str j => obtain ⟨t', rfl⟩ := ry; exact eq_str (fin_bl I q dec_str)
    | _ => exact absurd (show false = true from hs) Bool.false_ne_true
  | byt i =>
    obtain ⟨t, rfl⟩ := rx
    cases y with
    | byt j => obtain ⟨t', rfl⟩ := ry; exact PySem.W.eq_bytes (fin_bl I q dec_byt)
    | _ => exact absurd (show false = true from hs) Bool.false_ne_true
  | _ => cases y <;> exact absurd (show false = true from hs) Bool.false_ne_true
theorem op_ne : OpR X (compareOp .NotEq) rNe := by
  intro pins s σ H x y v u Q I rx ry h
  obtain ⟨hs, q⟩ := h
  cases x with
  | non =>
    cases rx
    cases y with
    | non => cases ry; exact PySem.EqNone.ne_none_none (fin_bl I q (by simp))
    | bl j => cases ry; exact PySem.EqNone.ne_none_bool (fin_bl I q (by simp))
    | int j => obtain ⟨t', rfl⟩ := ry; exact PySem.EqNone.ne_none_int (fin_bl I q (by simp))
    | str j => obtain ⟨t', rfl⟩ := ry; exact PySem.EqNone.ne_none_str (fin_bl I q (by simp))
    | _ => exact absurd (show false = true from hs) Bool.false_ne_true
  | bl i =>
    cases rx
    cases y with
    | non => cases ry; exact PySem.EqNone.ne_bool_none (fin_bl I q (by simp))
    | bl j => cases ry; exact ne_bool (fin_bl I q (congrArg not dec_bl))
    | str j => obtain ⟨t', rfl⟩ := ry; exact PySem.EqMixed.ne_bool_str (fin_bl I q (by simp))
    | _ => exact absurd (show false = true from hs) Bool.false_ne_true
  | int i =>
    obtain ⟨t, rfl⟩ := rx
    cases y with
    | non => cases ry; exact PySem.EqNone.ne_int_none (fin_bl I q (by simp))
    | int j => obtain ⟨t', rfl⟩ := ry; exact ne_int (fin_bl I q (congrArg not dec_int))
    | str j => obtain ⟨t', rfl⟩ := ry; exact PySem.EqMixed.ne_int_str (fin_bl I q (by simp))
    | _ => exact absurd (show false = true from hs) Bool.false_ne_true
  | str i =>
    obtain ⟨t, rfl⟩ := rx
    cases y with
    | non => cases ry; exact PySem.EqNone.ne_str_none (fin_bl I q (by simp))
    | bl j => cases ry; exact PySem.EqMixed.ne_str_bool (fin_bl I q (by simp))
    | int j => obtain ⟨t', rfl⟩ := ry; exact PySem.EqMixed.ne_str_int (fin_bl I q (by simp))
    | str j => obtain ⟨t', rfl⟩ := ry; exact ne_str (fin_bl I q (congrArg not dec_str))
    | _ => exact absurd (show false = true from hs) Bool.false_ne_true
  | byt i =>
    obtain ⟨t, rfl⟩ := rx
    cases y with
    | byt j => obtain ⟨t', rfl⟩ := ry; exact PySem.W.ne_bytes (fin_bl I q (congrArg not dec_byt))
    | _ => exact absurd (show false = true from hs) Bool.false_ne_true
  | _ => cases y <;> exact absurd (show false = true from hs) Bool.false_ne_true
theorem op_lt : OpR X (compareOp .Lt) (rI0 fun i j => .bl (decide (i < j))) := opB0 fun _ _ _ _ _ _ _ q => lt_int q
theorem op_le : OpR X (compareOp .LtE) (rI0 fun i j => .bl (decide (i ≤ j))) := opB0 fun _ _ _ _ _ _ _ q => le_int q
theorem op_gt : OpR X (compareOp .Gt) (rI0 fun i j => .bl (decide (j < i))) := opB0 fun _ _ _ _ _ _ _ q => gt_int q
theorem op_ge : OpR X (compareOp .GtE) (rI0 fun i j => .bl (decide (j ≤ i))) := opB0 fun _ _ _ _ _ _ _ q => ge_int q
theorem nomark (b : Expr) {op : CmpOp} (h : op ≠ .In := by decide) (h2 : op ≠ .NotIn := by decide) : behindInMarks op b = false := by
  have e1 : (op == CmpOp.In) = false := by cases op <;> first | rfl | exact absurd rfl h
  have e2 : (op == CmpOp.NotIn) = false := by cases op <;> first | rfl | exact absurd rfl h2
  cases b <;> simp [behindInMarks, e1, e2]
theorem pe_cmpR {op : CmpOp} {r : R2} (ho : OpR X (compareOp op) r) (ha : PE X a ta) (hb : PE X b tb) (hm : behindInMarks op b = false) : PE X (.Compare a [op] [b] pos) (tOp r ta tb) := by
  intro pins s σ H Q I h
  exact wpAny_Compare1 (binT ha hb I h fun v u s2 x y H2 I2 rx ry q => ho pins s2 σ H2 x y v u Q I2 rx ry q) hm
def tTest (t : TE) : TT := fun σ H Q => t σ H fun x H' => ∃ k, x = .bl k ∧ Q k H'
theorem pt_cmpR {op : CmpOp} {r : R2} (ho : OpR X (compareOp op) r) (ha : PE X a ta) (hb : PE X b tb) (hm : behindInMarks op b = false) : PT X (.Compare a [op] [b] pos) (tTest (tOp r ta tb)) := by
  intro pins s σ H Q I h
  refine wpAny_isTrue_Compare1 (thn (ha pins s σ H _ I h) fun v s1 ⟨x, H1, I1, r1, q1⟩ => thn (hb pins s1 σ H1 _ I1 q1) fun u s2 ⟨y, H2, I2, r2, q2⟩ =>
    thn (ho pins s2 σ H2 x y v u _ I2 r1 r2 q2) fun c s3 ⟨z, H3, I3, r3, k, e, q3⟩ => ?_) hm
  subst e
  cases r3
  exact wpAny_truthy_bool ⟨H3, I3, q3⟩
theorem line63 : (sizeLine : Nat) < 2 ^ 63 := by rw [sizeLine_eq]; decide
theorem vals1 {x : V} {us : List Value} (r : Vals [x] us) : ∃ u, us = [u] ∧ RelV x u := by
  cases r with
  | cons r1 r2 => cases r2; exact ⟨_, rfl, r1⟩
end
end L2
namespace L2
open PySem PySem.Spec PyProof.Rows
structure ObjM (h : Heap) (x dx C : Addr) (mA : Str → Option Value) : Prop where
  obj : h.get? x = some (PySem.W.instObj C dx)
  ns : h.Ns1 dx mA
  ne : dx ≠ x
theorem lookIn_ns {h : Heap} {dx : Addr} {mA : Str → Option Value} (n : h.Ns1 dx mA) : ∃ od, h.get? dx = some od ∧ ∀ name, PySem.W.lookIn name od = some (mA name) := by
  obtain ⟨o, es, ep, ho, hd, hk, _, hm⟩ := n
  refine ⟨o, ho, fun name => ?_⟩
  have e := hm name
  unfold nsFind findBy at e
  rw [← Array.find?_toList] at e
  unfold PySem.W.lookIn
  rw [hd]
  dsimp only
  split
  · rename_i y q
    rw [q] at e
    exact congrArg some e
  · rename_i q
    rw [q] at e
    have a : es.toList.any (·.refKey) = false := by
      rw [List.any_eq_false]
      intro y hy
      obtain ⟨z, t, hkey⟩ := hk y (Array.mem_toList_iff.mp hy)
      simp [DictEntry.refKey, hkey]
    have a' : ¬ es.toList.any (·.refKey) = true := by rw [a]; exact Bool.false_ne_true
    rw [if_neg a']
    exact congrArg some e
theorem ObjM.look {h : Heap} {x dx C : Addr} {mA : Str → Option Value} (I : ObjM h x dx C mA) : ∃ od, PySem.W.InstAt h x (PySem.W.instObj C dx) C (some od) ∧ ∀ name, PySem.W.lookIn name od = some (mA name) :=
  let ⟨od, ho, hl⟩ := lookIn_ns I.ns
  ⟨od, ⟨I.obj, rfl, rfl, ho⟩, hl⟩
section
variable {prog : Program} {w : World} {A : Around} {E : Value → Shared → Prop} {s : Shared} {K : PySem.W.Frag} {x dx C f : Addr} {mA : Str → Option Value} {name : Str} {v : Value}
theorem get_map {expr : Bool} {Q : Value → Shared → Prop} (X : K.In s.heap) (I : ObjM s.heap x dx C mA) (hg : PySem.W.plainGet K C name = true) (hh : PySem.W.hasDictIn K C = true)
    (ha : PySem.W.findIn K (.ref C) name = some none) (hv : mA name = some v) (hv' : PySem.W.handedIn v = true) (h : Q v { s with toks := s.toks + 1 }) :
    wpAny (model prog w) A (getAttr (.ref x) name expr) Q E s := by
  obtain ⟨od, J, hl⟩ := I.look
  exact PySem.W.get_value X J (PySem.W.plainGet_of hg).1 (PySem.W.findObj_own hh ha rfl (by rw [hl, hv])) hv' h
theorem set_map {ns : List Str} {Q : Unit → Shared → Prop} (X : K.In s.heap) (I : ObjM s.heap x dx C mA)
    (hs : PySem.W.findIn K (.ref C) "__setattr__" = some (some (.builtin "object.__setattr__"))) (hp : PySem.W.plainOver K C = true) (ht : PySem.W.takerIn K C name = some none) (hh : PySem.W.hasDictIn K C = true)
    (hw : PySem.Within mA ns) (hsz : ns.length ≤ sizeLine)
    (h : ∀ h', ObjM h' x dx C (fun y => if y = name then some v else mA y) → Heap.SameBut dx s.heap h' → Q () { s with heap := h', toks := s.toks + 2 }) :
    wpAny (model prog w) A (setAttr (.ref x) name v) Q E s := by
  obtain ⟨od, J, hl⟩ := I.look
  refine PySem.W.set_plain X J hs (PySem.W.osa_open (s := { s with toks := s.toks + 1 }) (r := none) X J hp ht fun b => ?_)
  obtain ⟨cd, hc, hd'⟩ := PySem.W.any_some hh
  have hx : s.heap.get? x = some ⟨.ref C, some dx, .plain, #[]⟩ := I.obj
  refine wpAny_bind (wpAny_pure (wpAny_bind (wpAny_bind (wpAny_loadPart hx (wpAny_bind (PySem.W.Looks.here (s := { s with toks := s.toks + 1 }) (PySem.W.looks_clsIn X hc) ?_))))))
  rw [hd']
  refine wpAny_pure (a := some dx) (wpAny_bind (wpAny_pure (wpAny_bind ?_)))
  refine wpAny_nsSet1 (s := { s with toks := s.toks + 1 }) I.ns fun h' hn2 hs2 => ?_
  obtain ⟨oD, esD, epD, hoD, hdD, hcD⟩ := hn2.count (PySem.Within.cons name v hw)
  refine wpAny_bind (wpAny_lookBehind hoD (by rw [hdD]; exact pastItsLine_dict (Nat.le_trans hcD (by rw [List.length_cons]; omega))) ?_)
  exact wpAny_pure (h _ ⟨(hs2.2 _ (Ne.symm I.ne)).trans I.obj, hn2, I.ne⟩ hs2)
theorem make_map {R : Result → Shared → Prop} {vs : List Value} {kw : List (Str × Value)} (X : K.In s.heap) (hm : PySem.W.makesIn K C = true)
    (hi : PySem.W.findIn K (.ref C) "__init__" = some (some (.ref f))) (hf : PySem.W.typeIn K (.ref f) = some (.type "function"))
    (h : codeAny (model prog w) (A.under (.builtin "type.__call__" ⟨.ref C :: vs, kw⟩)) (.call (.ref f) ⟨.ref (s.heap.objs.size + 1) :: vs, kw⟩) (PySem.W.InitBack (s.heap.objs.size + 1) R)
      { s with heap := (s.heap.push PySem.W.emptyDict).push (PySem.W.instObj C s.heap.objs.size) }) :
    codeAny (model prog w) A (.call (.ref C) ⟨vs, kw⟩) R s := by
  obtain ⟨hh, g, d, t, os⟩ := s
  exact PySem.W.make_core (PySem.W.makes_of X hm) (PySem.W.looks_findIn X hi) (fun self => PySem.W.bind_fn X self hf) (.inl rfl) h
end
def putF (f : Str) (v : V) : List (Str × V) → List (Str × V)
  | [] => [(f, v)]
  | (g, x) :: r => if g = f then (g, v) :: r else (g, x) :: putF f v r
theorem lookup_putF (f g : Str) (v : V) : ∀ fs : List (Str × V), (putF f v fs).lookup g = if g = f then some v else fs.lookup g
  | [] => by
    show List.lookup g [(f, v)] = _
    by_cases h : g = f
    · have hb : (g == f) = true := beq_iff_eq.mpr h
      simp only [List.lookup, hb, if_pos h]
    · have hb : (g == f) = false := beq_eq_false_iff_ne.mpr h
      simp only [List.lookup, hb, if_neg h]
  | (k, x) :: r => by
    have ih := lookup_putF f g v r
    rw [show putF f v ((k, x) :: r) = (if k = f then (k, v) :: r else (k, x) :: putF f v r) from rfl]
    by_cases hk : k = f
    · rw [if_pos hk]
      by_cases h : g = k
      · have hb : (g == k) = true := beq_iff_eq.mpr h
        simp only [List.lookup, hb, if_pos (h.trans hk)]
      · have hb : (g == k) = false := beq_eq_false_iff_ne.mpr h
        simp only [List.lookup, hb, if_neg (fun e : g = f => h (e.trans hk.symm))]
    · rw [if_neg hk]
      by_cases h : g = k
      · have hb : (g == k) = true := beq_iff_eq.mpr h
        simp only [List.lookup, hb, if_neg (fun e : g = f => hk (h.symm.trans e))]
      · have hb : (g == k) = false := beq_eq_false_iff_ne.mpr h
        simp only [List.lookup, hb]
        exact ih
theorem keys_putF (f : Str) (v : V) : ∀ fs : List (Str × V), f ∈ (putF f v fs).map (·.1) ∧ ∀ g, g ∈ fs.map (·.1) → g ∈ (putF f v fs).map (·.1)
  | [] => ⟨by simp [putF], fun g h => by simp at h⟩
  | (k, x) :: r => by
    obtain ⟨i1, i2⟩ := keys_putF f v r
    rw [show putF f v ((k, x) :: r) = (if k = f then (k, v) :: r else (k, x) :: putF f v r) from rfl]
    by_cases hk : k = f
    · rw [if_pos hk]
      subst hk
      exact ⟨by simp, fun g h => by simpa using h⟩
    · rw [if_neg hk]
      refine ⟨?_, fun g h => ?_⟩
      · rw [List.map_cons]
        exact List.mem_cons_of_mem _ i1
      · rw [List.map_cons] at h ⊢
        rcases List.mem_cons.mp h with e | e
        · exact List.mem_cons.mpr (.inl e)
        · exact List.mem_cons_of_mem _ (i2 g e)
theorem length_putF (f : Str) (v : V) : ∀ fs : List (Str × V), (putF f v fs).length ≤ fs.length + 1
  | [] => by simp [putF]
  | (k, x) :: r => by
    have ih := length_putF f v r
    rw [show putF f v ((k, x) :: r) = (if k = f then (k, v) :: r else (k, x) :: putF f v r) from rfl]
    by_cases hk : k = f
    · rw [if_pos hk, List.length_cons, List.length_cons]; omega
    · rw [if_neg hk, List.length_cons, List.length_cons]; omega
theorem RelO.some_of {v : V} {o : Option Value} (r : RelO (some v) o) : ∃ u, o = some u ∧ RelV v u := by
  cases o with
  | none => exact (show False from r).elim
  | some u => exact ⟨u, rfl, r⟩
theorem handed_of {v : V} {u : Value} (r : RelV v u) : PySem.W.handedIn u = true := by
  cases v with
  | non => cases (show u = Value.none from r); rfl
  | bl b => cases (show u = Value.bool b from r); rfl
  | int i => obtain ⟨t, e⟩ := (show ∃ t, u = Value.int i t from r); cases e; rfl
  | str x => obtain ⟨t, e⟩ := (show ∃ t, u = Value.str x t from r); cases e; rfl
  | byt b => obtain ⟨t, e⟩ := (show ∃ t, u = Value.bytes b t from r); cases e; rfl
  | flt b => obtain ⟨t, e⟩ := (show ∃ t, u = Value.float b t from r); cases e; rfl
  | ref a => cases (show u = Value.ref a from r); rfl
  | ty n => cases (show u = Value.type n from r); rfl
section
variable {P : Program} {w : World} {H H' : Hp} {h h' : Heap} {a C dx : Addr} {fs fs' : List (Str × V)}
theorem ins_get (hok : HOk P w H h) (e : H a = some (.ins C dx fs)) : ∃ mA, ObjM h a dx C mA ∧ (∀ f, RelO (fs.lookup f) (mA f)) ∧ PySem.Within mA (fs.map (·.1)) ∧ fs.length ≤ 1000 ∧ H dx = some (.own a) := by
  obtain ⟨d, z, ne, ob, mA, n, r, q⟩ := (show ObjOk P w H h a (.ins C dx fs) from hok a _ e)
  exact ⟨mA, ⟨ob, n, ne⟩, r, q, z, d⟩
end
structure Cls (K : PySem.W.Frag) (C : Addr) : Prop where
  pg : PySem.W.plainGet K C Str.empty = true
  hd : PySem.W.hasDictIn K C = true
  po : PySem.W.plainOver K C = true
  sa : PySem.W.findIn K (.ref C) "__setattr__" = some (some (.builtin "object.__setattr__"))
theorem Cls.get {K : PySem.W.Frag} {C : Addr} (c : Cls K C) (f : Str) : PySem.W.plainGet K C f = true := c.pg
def NoAttr (K : PySem.W.Frag) (C : Addr) (f : Str) : Prop := PySem.W.findIn K (.ref C) f = some none
theorem NoAttr.taker {K : PySem.W.Frag} {C : Addr} {f : Str} (n : NoAttr K C f) : PySem.W.takerIn K C f = some none := by
  unfold PySem.W.takerIn
  rw [show PySem.W.findIn K (.ref C) f = some none from n]
  rfl
section
variable {X : Cx} {pins : List (Addr × Obj)} {σ : St} {H : Hp} {s : Shared} {a C dx : Addr} {fs : List (Str × V)} {f : Str} {v : V} {A : Around} {E : Value → Shared → Prop}
theorem getattr_ok {b : Bool} {Q : Value → Shared → Prop} (I : Inv X pins σ H s) (e : H a = some (.ins C dx fs)) (c : Cls X.K C) (n : NoAttr X.K C f) (l : fs.lookup f = some v)
    (h : ∀ u s', Inv X pins σ H s' → RelV v u → Q u s') : wpAny (model X.prog X.w) A (getAttr (.ref a) f b) Q E s := by
  obtain ⟨mA, O, r, _, _, _⟩ := ins_get I.hok e
  obtain ⟨u, hu, ru⟩ := RelO.some_of (v := v) (o := mA f) (by rw [← l]; exact r f)
  exact get_map I.kIn O (c.get f) c.hd n hu (handed_of ru) (h u _ (I.tok _) ru)
theorem setattr_ok {y : V} {u : Value} {Q : Unit → Shared → Prop} (I : Inv X pins σ H s) (e : H a = some (.ins C dx fs)) (c : Cls X.K C) (n : NoAttr X.K C f) (hl : fs.length < 1000) (ry : RelV y u)
    (h : ∀ s', Inv X pins σ (upd H a (.ins C dx (putF f y fs))) s' → Q () s') : wpAny (model X.prog X.w) A (setAttr (.ref a) f u) Q E s := by
  obtain ⟨mA, O, r, wi, _, ho⟩ := ins_get I.hok e
  have hz : (fs.map (·.1)).length ≤ sizeLine := by rw [List.length_map, sizeLine_eq]; omega
  refine set_map I.kIn O c.sa c.po n.taker c.hd wi hz fun h' O' sb => h _ ?_
  have hd : ∃ o, h'.get? dx = some o := let ⟨o, _, _, e', _⟩ := O'.ns; ⟨o, e'⟩
  refine I.write (x := a) (e := dx) (by rw [e]; exact True.intro) (.inr ho) (fun b q hb z => (sb.2 b hb).trans z) hd ?_
  refine ⟨by rw [upd_ne O.ne]; exact ho, ?_, O.ne, O'.obj, _, O'.ns, fun g => ?_, fun g hg => ?_⟩
  · have := length_putF f y fs; omega
  · show RelO ((putF f y fs).lookup g) (if g = f then some u else mA g)
    rw [lookup_putF]
    by_cases q : g = f
    · rw [if_pos q, if_pos q]; exact ry
    · rw [if_neg q, if_neg q]; exact r g
  · by_cases q : g = f
    · rw [q]; exact (keys_putF f y fs).1
    · refine (keys_putF f y fs).2 g (wi g fun z => hg ?_)
      show (if g = f then some u else mA g) = none
      rw [if_neg q]; exact z
theorem Inv.made (I : Inv X pins σ H s) : Inv X pins σ (upd (upd H s.heap.objs.size (.own (s.heap.objs.size + 1))) (s.heap.objs.size + 1) (.ins C s.heap.objs.size []))
    { s with heap := (s.heap.push PySem.W.emptyDict).push (PySem.W.instObj C s.heap.objs.size) } := by
  have e1 : (s.heap.push PySem.W.emptyDict).get? s.heap.objs.size = some PySem.W.emptyDict := Heap.get?_push_size s.heap rfl
  have e2 : ((s.heap.push PySem.W.emptyDict).push (PySem.W.instObj C s.heap.objs.size)).get? (s.heap.objs.size + 1) = some (PySem.W.instObj C s.heap.objs.size) := by
    have := Heap.get?_push_size (s.heap.push PySem.W.emptyDict) (o := PySem.W.instObj C s.heap.objs.size) rfl
    rwa [Heap.size_push] at this
  have e3 : (s.heap.push PySem.W.emptyDict).Ns s.heap.objs.size (fun _ => none) := ⟨PySem.W.emptyDict, #[], _, e1, rfl, (fun e he => absurd he (by simp)), fun _ => rfl⟩
  have I1 := I.laid (a := s.heap.objs.size) (o := .own (s.heap.objs.size + 1)) (h' := s.heap.push PySem.W.emptyDict) (t' := s.toks) (fun b u q => Heap.get?_push_of_some _ q) (Nat.le_refl _) ⟨_, e1⟩
  refine I1.laid (a := s.heap.objs.size + 1) (o := .ins C s.heap.objs.size []) (t' := s.toks) (fun b u q => Heap.get?_push_of_some _ q) (Nat.le_of_eq (Heap.size_push _ _)) ?_
  have ne : s.heap.objs.size ≠ s.heap.objs.size + 1 := Nat.ne_of_lt (Nat.lt_succ_self _)
  refine ⟨by rw [upd_ne ne, upd_same], Nat.zero_le _, ne, e2, fun _ => none, (Heap.Ns1.of_empty e3).at fun o q => Heap.get?_push_of_some _ q, fun _ => True.intro, fun y hy => absurd rfl hy⟩
theorem attr_of {prog : Program} {w : World} {env : Env} {e : Expr} {f : Str} {pos : Pos} {s : Shared} {Q : Value → Shared → Prop} (hb : attributeBase e f env (eval e env) = eval e env)
    (h : wpAny (model prog w) A (eval e env) (fun o s₁ => wpAny (model prog w) A (getAttr o f true) Q E s₁) E s) : wpAny (model prog w) A (eval (.Attribute e f pos) env) Q E s :=
  Attribute_any_ h (by rw [arm_eval_Attribute, hb])
end
def tFld (K : PySem.W.Frag) (ta : TE) (f : Str) : TE := fun σ H Q => ta σ H fun x H1 => ∃ a C dx fs v, x = .ref a ∧ H1 a = some (.ins C dx fs) ∧ Cls K C ∧ NoAttr K C f ∧ fs.lookup f = some v ∧ Q v H1
def sFld (K : PySem.W.Frag) (ta tv : TE) (f : Str) : TS := fun D σ H => tv σ H fun y H1 => ta σ H1 fun x H2 => ∃ a C dx fs, x = .ref a ∧ H2 a = some (.ins C dx fs) ∧ Cls K C ∧ NoAttr K C f ∧ fs.length < 1000 ∧
  D.nx σ (upd H2 a (.ins C dx (putF f y fs)))
def InOp (X : Cx) (op : Operator) (rd : V → V → Hp → VK → Prop) : Prop :=
  ∀ (pins : List (Addr × Obj)) (s : Shared) (σ : St) (H : Hp) (x y : V) (u v : Value) (Q : VK), Inv X pins σ H s → RelV x u → RelV y v → rd x y H Q → wpAny (model X.prog X.w) X.A (inplaceOp op u v) (EP X pins σ Q) X.xe s
def sFldAug (K : PySem.W.Frag) (ta tv : TE) (rd : V → V → Hp → VK → Prop) (f : Str) : TS := fun D σ H => ta σ H fun x H1 => ∃ a C dx fs v, x = .ref a ∧ H1 a = some (.ins C dx fs) ∧ Cls K C ∧ NoAttr K C f ∧ fs.lookup f = some v ∧
  tv σ H1 fun y H2 => rd v y H2 fun z H3 => ∃ dx' fs', H3 a = some (.ins C dx' fs') ∧ fs'.length < 1000 ∧ D.nx σ (upd H3 a (.ins C dx' (putF f z fs')))
section
variable {X : Cx} {o e value : Expr} {f : Str} {pos pos' tpos : Pos} {ta tv : TE}
theorem pe_fld (he : PE X e ta) (hb : attributeBase e f X.env (eval e X.env) = eval e X.env) : PE X (.Attribute e f pos) (tFld X.K ta f) := by
  intro pins s σ H Q I h
  refine attr_of hb (thn (he pins s σ H _ I h) fun u s1 ⟨x, H1, I1, rx, a, C, dx, fs, v, ex, ea, c, n, l, q⟩ => ?_)
  subst ex
  obtain rfl : u = Value.ref a := rx
  exact getattr_ok I1 ea c n l fun u' s2 I2 ru => ⟨v, H1, I2, ru, q⟩
theorem ps_fld (ha : PE X o ta) (hv : PE X value tv) (hs : swapsWith value (some (.Attribute o f pos')) pos.line X.env = pure false) : PS X (.Assign [.Attribute o f pos'] value pos) (sFld X.K ta tv f) := by
  intro pins s σ H D I h
  refine plainObj_wpAny_Assign_Attribute (thn (hv pins s σ H _ I h) fun u s1 ⟨y, H1, I1, ry, q⟩ => thn (ha pins s1 σ H1 _ I1 q) fun ov s2 ⟨x, H2, I2, rx, a, C, dx, fs, ex, ea, c, n, l, q2⟩ => ?_) hs
  subst ex
  obtain rfl : ov = Value.ref a := rx
  exact setattr_ok I2 ea c n l ry fun s3 I3 => ⟨σ, _, I3, q2⟩
theorem ps_fldaug {op : Operator} {rd : V → V → Hp → VK → Prop} (ha : PE X o ta) (hv : PE X value tv) (hop : InOp X op rd) : PS X (.AugAssign (.Attribute o f tpos) op value pos) (sFldAug X.K ta tv rd f) := by
  intro pins s σ H D I h
  refine wpAny_AugAssign_AttributeAny (thn (ha pins s σ H _ I h) fun ov s1 ⟨x, H1, I1, rx, a, C, dx, fs, v, ex, ea, c, n, l, q⟩ => ?_)
  subst ex
  obtain rfl : ov = Value.ref a := rx
  refine getattr_ok I1 ea c n l fun u s2 I2 ru => thn (hv pins s2 σ H1 _ I2 q) fun w3 s3 ⟨y, H2, I3, ry, q3⟩ => thn (hop pins s3 σ H2 v y u w3 _ I3 ru ry q3) fun w4 s4 ⟨z, H3, I4, rz, dx', fs', ea', l', q4⟩ => ?_
  exact setattr_ok I4 ea' c n l' rz fun s5 I5 => ⟨σ, _, I5, q4⟩
def rAdd : V → V → Hp → VK → Prop := fun x y H Q => ∃ i j, x = .int i ∧ y = .int j ∧ Q (.int (i + j)) H
def rSub : V → V → Hp → VK → Prop := fun x y H Q => ∃ i j, x = .int i ∧ y = .int j ∧ Q (.int (i - j)) H
theorem in_add : InOp X .Add rAdd := by
  rintro pins s σ H x y u v Q I rx ry ⟨i, j, rfl, rfl, q⟩
  obtain ⟨t, rfl⟩ := (show ∃ t, u = Value.int i t from rx)
  obtain ⟨t', rfl⟩ := (show ∃ t', v = Value.int j t' from ry)
  exact PyProof.Rows.iadd_int ⟨.int (i + j), H, I.tok _, ⟨_, rfl⟩, q⟩
theorem in_sub : InOp X .Sub rSub := by
  rintro pins s σ H x y u v Q I rx ry ⟨i, j, rfl, rfl, q⟩
  obtain ⟨t, rfl⟩ := (show ∃ t, u = Value.int i t from rx)
  obtain ⟨t', rfl⟩ := (show ∃ t', v = Value.int j t' from ry)
  exact PyProof.Rows.isub_int ⟨.int (i - j), H, I.tok _, ⟨_, rfl⟩, q⟩
end
section
variable {X : Cx} {pins : List (Addr × Obj)} {σ : St} {H : Hp} {s : Shared} {A : Around} {E : Value → Shared → Prop} {Q : Value → Shared → Prop} {c : Value} {b : Bool}
end
end L2
namespace L2
open PySem PySem.Spec PyProof.Rows
structure Room (k : Nat) (A : Around) : Prop where
  hd : A.handled = none
  dp : A.depth + 3 * k + 5 < recursionLimit
  un : A.units + 16 * k + 200 < cLine
theorem Room.mono {j k : Nat} {A : Around} (r : Room k A) (h : j ≤ k) : Room j A := ⟨r.hd, by have := r.dp; omega, by have := r.un; omega⟩
theorem Room.deeper {k : Nat} {A : Around} (r : Room (k + 1) A) (env : Env) : Room k (A.deeper env) :=
  ⟨r.hd, by have := r.dp; show A.depth + 1 + 3 * k + 5 < _; omega, by have := r.un; show A.units + 3 + 16 * k + 200 < _; omega⟩
theorem make_depth {A : Around} {C : Addr} {us : List Value} {kw : List (Str × Value)} : (A.under (.builtin "type.__call__" ⟨.ref C :: us, kw⟩)).depth = A.depth + 1 := by
  first | rfl | simp [Around.under, Code.weight, Code.isCreation, Code.isGuard, Code.isCaller, Code.frames, Code.isFrame, guardIds]
theorem make_units {A : Around} {C : Addr} {us : List Value} {kw : List (Str × Value)} : (A.under (.builtin "type.__call__" ⟨.ref C :: us, kw⟩)).units = A.units + 1 := by
  first | rfl | simp [Around.under, Code.cUnits, Code.frames, Code.isFrame]
theorem Room.make {k : Nat} {A : Around} (r : Room (k + 1) A) (C : Addr) (us : List Value) (kw : List (Str × Value)) : Room k (A.under (.builtin "type.__call__" ⟨.ref C :: us, kw⟩)) :=
  ⟨r.hd, by have := r.dp; rw [make_depth]; omega, by have := r.un; rw [make_units]; omega⟩
theorem Room.depth {k : Nat} {A : Around} (r : Room k A) : A.depth < recursionLimit := by have := r.dp; omega
def tNil : TA := fun _ H Q => Q [] H
def tCons (ta : TE) (tr : TA) : TA := fun σ H Q => ta σ H fun x H1 => tr σ H1 fun xs H2 => Q (x :: xs) H2
section
variable {X : Cx} {e : Expr} {es : List Expr} {te : TE} {t : TA} {pos : Pos}
theorem pa_nil : PA X [] tNil := fun _ _ _ _ H Q I h => Calls.spliced_nil ⟨[], H, I, .nil, h⟩
theorem pa_cons (ha : PE X e te) (hr : PA X es t) (hs : starEach (e :: es) X.env = (false, eval e X.env) :: starEach es X.env := by rfl) : PA X (e :: es) (tCons te t) := by
  intro pos pins s σ H Q I h
  rw [hs]
  show wpAny _ _ (spliced ((false, eval e X.env) :: backTo pos (starEach es X.env))) _ _ s
  refine Calls.spliced_cons (thn (ha pins s σ H _ I h) fun u s1 ⟨x, H1, I1, r1, q1⟩ => ?_)
  exact thn (hr pos pins s1 σ H1 _ I1 q1) fun us s2 ⟨xs, H2, I2, r2, q2⟩ => ⟨x :: xs, H2, I2, .cons r1 r2, q2⟩
def tTup (t : TA) : TE := fun σ H Q => t σ H fun xs H1 => xs.length ≤ sizeLine ∧ ∀ p, H1 p = none → Q (.ref p) (upd H1 p (.tup xs))
def tLst (t : TA) : TE := fun σ H Q => t σ H fun xs H1 => xs.length ≤ sizeLine ∧ ∀ p, H1 p = none → Q (.ref p) (upd H1 p (.lst xs))
theorem pe_tup {x1} (h : PA X es t) : PE X (.Tuple es x1 pos) (tTup t) := by
  intro pins s σ H Q I hq
  refine wpAny_Tuple_spliced (thn (h pos pins s σ H _ I hq) fun us s1 ⟨xs, H1, I1, r, z, q⟩ => ⟨by rw [← r.length]; exact z, ?_⟩)
  have hf : H1 s1.heap.objs.size = none := I1.hok.fresh (Nat.le_refl _)
  refine ⟨.ref s1.heap.objs.size, upd H1 s1.heap.objs.size (.tup xs), I1.laid (t' := s1.toks) (fun b u e => Heap.get?_push_of_some _ e) (Nat.le_refl _) ?_, rfl, q _ hf⟩
  exact ⟨z, us, r, ⟨_, Heap.get?_push_size _ rfl, rfl, _, rfl⟩⟩
theorem pe_lst (h : PA X es t) : PE X (.List es pos) (tLst t) := by
  intro pins s σ H Q I hq
  refine wpAny_List_spliced (thn (h pos pins s σ H _ I hq) fun us s1 ⟨xs, H1, I1, r, z, q⟩ => ⟨by rw [← r.length]; exact z, ?_⟩)
  have hf : H1 s1.heap.objs.size = none := I1.hok.fresh (Nat.le_refl _)
  refine ⟨.ref s1.heap.objs.size, upd H1 s1.heap.objs.size (.lst xs), I1.laid (t' := s1.toks) (fun b u e => Heap.get?_push_of_some _ e) (Nat.le_refl _) ?_, rfl, q _ hf⟩
  exact ⟨z, us, 0, r, Heap.get?_push_size _ rfl⟩
end
abbrev Sp := List V → Hp → VK → XK → Prop
abbrev CXT := List Env → Hp → Shared → XK → Value → Shared → Prop
structure Env0 (P : Program) (w : World) (K : PySem.W.Frag) (mg : Str → Option Value) (base : Heap) (A : Around) (outer : List Env) (s : Shared) (H : Hp) : Prop where
  frames : A.frames = some outer
  mod : Mod K mg base
  bs : ∀ b o, base.get? b = some o → s.heap.get? b = some o ∧ H b = none
  bsz : base.objs.size ≤ s.heap.objs.size
  funs : s.heap.FunFrames base outer
  frf : ∀ b ∈ frs outer, H b = none
  hok : HOk P w H s.heap
  bare : AllBare s.gens
def CE (outer : List Env) (P : Program) (w : World) (H : Hp) (s : Shared) (Q : VK) (u : Value) (s' : Shared) : Prop :=
  ∃ v H', s'.os = s.os ∧ AllBare s'.gens ∧ Un (frs outer) [] H H' s.heap s'.heap ∧ HOk P w H' s'.heap ∧ RelV v u ∧ Q v H'
def CR (CX : CXT) (outer : List Env) (P : Program) (w : World) (H : Hp) (s : Shared) (Q : VK) (E : XK) (r : Result) (s' : Shared) : Prop :=
  match r with
  | .ok (.ret u) => CE outer P w H s Q u s'
  | .ok _ => False
  | .error e => CX outer H s E e s'
structure FnOk (P : Program) (w : World) (K : PySem.W.Frag) (mg : Str → Option Value) (base : Heap) (CX : CXT) (k : Nat) (f : Addr) (fd : FuncData) (ps : List Str) (sp : Sp) : Prop where
  len : ∀ vs H Q E, sp vs H Q E → vs.length = ps.length
  run : ∀ (A : Around) (outer : List Env) (s : Shared) (H : Hp) (args : Args) (us : List Value) (vs : List V) (Q : VK) (E : XK), Room k A → Env0 P w K mg base A outer s H → BindsTo s fd args (ps.zip us) → Vals vs us → sp vs H Q E →
    codeAny (model P w) A (.call (.ref f) args) (CR CX outer P w H s Q E) s
theorem Env0.make {P : Program} {w : World} {K : PySem.W.Frag} {mg : Str → Option Value} {base : Heap} {A : Around} {outer : List Env} {s : Shared} {H : Hp} (e : Env0 P w K mg base A outer s H) (C : Addr) (us : List Value) (kw : List (Str × Value)) :
    Env0 P w K mg base (A.under (.builtin "type.__call__" ⟨.ref C :: us, kw⟩)) outer s H := ⟨by first | exact e.frames | (simpa [Around.under, Code.envs, Code.isFrame, pushEnvs] using e.frames), e.mod, e.bs, e.bsz, e.funs, e.frf, e.hok, e.bare⟩
section
variable {X : Cx} {pins : List (Addr × Obj)} {σ : St} {H : Hp} {s s' : Shared}
theorem Inv.env0 (I : Inv X pins σ H s) : Env0 X.prog X.w X.K X.mg X.base X.A X.stack s H :=
  ⟨I.ok.frames, I.ok.mod, I.bs, Nat.le_trans I.ok.bsz I.sz, I.stack, I.stkFree, I.hok, I.bare⟩
theorem Inv.after {Q : VK} {u : Value} (I : Inv X pins σ H s) (h : CE X.stack X.prog X.w H s Q u s') : EP X pins σ Q u s' := by
  obtain ⟨v, H', os, bare, un, hok, r, q⟩ := h
  obtain ⟨hh, g, d, t, os'⟩ := s'
  obtain rfl : os' = s.os := os
  exact ⟨v, H', I.call (h' := hh) (g' := g) (d' := d) (t' := t) (ch := []) un hok bare (fun b z => absurd z (by simp)), r, q⟩
end
def tCall (sp : Sp) (dvs : List V) (E : XK) (t : TA) : TE := fun σ H Q => t σ H fun vs H1 => sp (vs ++ dvs) H1 Q E
def tMake (C : Addr) (sp : Sp) (dvs : List V) (E : XK) (t : TA) : TE := fun σ H Q => t σ H fun vs H1 => ∀ x dx, H1 x = none → H1 dx = none → dx ≠ x →
  sp (.ref x :: (vs ++ dvs)) (upd (upd H1 dx (.own x)) x (.ins C dx [])) (fun v H2 => v = .non ∧ Q (.ref x) H2) E
def Binds (K : PySem.W.Frag) (fd : FuncData) (ps : List Str) (ds : List Value) : Prop :=
  ∀ (s : Shared) (us : List Value), K.In s.heap → (us ++ ds).length = ps.length → BindsTo s fd ⟨us, []⟩ (ps.zip (us ++ ds))
theorem Binds.all {K : PySem.W.Frag} {fd : FuncData} {ps : List Str} (h : ∀ us : List Value, us.length = ps.length → bindArgs fd ⟨us, []⟩ = pure (ps.zip us)) : Binds K fd ps [] := fun s us _ hl => by
  rw [List.append_nil] at hl ⊢
  exact .of_eq (h us hl)
def Passes (CX : CXT) (X : Cx) (E : XK) : Prop := ∀ (pins : List (Addr × Obj)) (σ : St) (H : Hp) (s : Shared) (e : Value) (s' : Shared), Inv X pins σ H s → CX X.stack H s E e s' → X.xe e s'
section
variable {X : Cx} {CX : CXT} {k : Nat} {f C : Addr} {fd : FuncData} {ps : List Str} {sp : Sp} {dvs : List V} {ds : List Value} {E : XK} {x m : Str} {p pos apos : Pos} {e o : Expr} {es : List Expr} {ta : TE} {t : TA}
theorem run_fn {pins : List (Addr × Obj)} {σ : St} {H : Hp} {s : Shared} {Q : VK} {us : List Value} {vs : List V} (F : FnOk X.prog X.w X.K X.mg X.base CX k f fd ps sp) (hr : Room k X.A) (hb : Binds X.K fd ps ds) (hd : Vals dvs ds) (hx : Passes CX X E)
    (I : Inv X pins σ H s) (r : Vals vs us) (h : sp (vs ++ dvs) H Q E) : wpAny (model X.prog X.w) X.A (call (.ref f) us) (EP X pins σ Q) X.xe s := by
  have r2 : Vals (vs ++ dvs) (us ++ ds) := r.append hd
  have hl : (us ++ ds).length = ps.length := by rw [← r2.length]; exact F.len _ _ _ _ h
  refine wpAny_call (codeAny_mono (F.run X.A X.stack s H ⟨us, []⟩ (us ++ ds) (vs ++ dvs) Q E hr I.env0 (hb s us I.kIn hl) r2 h) fun r s' hq => ?_)
  cases r with
  | error e => exact hx pins σ H s e s' I hq
  | ok fl =>
    cases fl with
    | ret u => exact I.after hq
    | next => exact False.elim hq
    | brk => exact False.elim hq
    | cont => exact False.elim hq
theorem pe_call (F : FnOk X.prog X.w X.K X.mg X.base CX k f fd ps sp) (hr : Room k X.A) (hg : Gl X x) (hm : X.mg x = some (.ref f)) (hk : PySem.W.keepIn X.K (.ref f) = true) (hb : Binds X.K fd ps ds) (hd : Vals dvs ds) (hx : Passes CX X E)
    (ha : PA X (e :: es) t) (hdb : (x == ("__debug__" : Str)) = false := by decide) (he : starEach (e :: es) X.env = (false, eval e X.env) :: starEach es X.env := by rfl) (hpl : (backTo pos (starEach es X.env)).any (·.1) = false := by rfl) :
    PE X (.Call (.Name x p) (e :: es) [] pos) (tCall sp dvs E t) := by
  intro pins s σ H Q I h
  refine wpAny_Call_Name_kw (ld_glob I hg hm ?_ hdb)
  refine PySem.W.callWith_K (h₀ := X.base) I.ok.mod.kin hk (thn (ha pos pins s σ H _ I h) fun us s1 ⟨vs, H1, I1, r, q⟩ => ⟨I1.kIn, ?_⟩) he hpl
  exact run_fn F hr hb hd hx I1 r q
structure Mk (K : PySem.W.Frag) (C f : Addr) : Prop where
  makes : PySem.W.makesIn K C = true
  init : PySem.W.findIn K (.ref C) "__init__" = some (some (.ref f))
  fn : PySem.W.isFn K (.ref f) = true
  kp : PySem.W.keepIn K (.ref C) = true
theorem run_make {pins : List (Addr × Obj)} {σ : St} {H : Hp} {s : Shared} {Q : VK} {us : List Value} {vs : List V} (M : Mk X.K C f) (F : FnOk X.prog X.w X.K X.mg X.base CX k f fd ps sp) (hr : Room (k + 1) X.A) (hb : Binds X.K fd ps ds) (hd : Vals dvs ds)
    (hx : Passes CX X E) (I : Inv X pins σ H s) (r : Vals vs us)
    (h : ∀ x dx, H x = none → H dx = none → dx ≠ x → sp (.ref x :: (vs ++ dvs)) (upd (upd H dx (.own x)) x (.ins C dx [])) (fun v H2 => v = .non ∧ Q (.ref x) H2) E) :
    wpAny (model X.prog X.w) X.A (call (.ref C) us) (EP X pins σ Q) X.xe s := by
  have hq := h (s.heap.objs.size + 1) s.heap.objs.size (I.hok.fresh (Nat.le_succ _)) (I.hok.fresh (Nat.le_refl _)) (Nat.ne_of_lt (Nat.lt_succ_self _))
  have I2 := Inv.made (C := C) I
  have r2 : Vals (V.ref (s.heap.objs.size + 1) :: (vs ++ dvs)) (Value.ref (s.heap.objs.size + 1) :: (us ++ ds)) := .cons rfl (r.append hd)
  have hl : (Value.ref (s.heap.objs.size + 1) :: us ++ ds).length = ps.length := by
    have e := r2.length
    rw [F.len _ _ _ _ hq] at e
    exact e.symm
  refine wpAny_call (make_map (f := f) I.kIn M.makes M.init (beq_iff_eq.mp M.fn) (codeAny_mono (F.run _ X.stack _ _ ⟨Value.ref (s.heap.objs.size + 1) :: us, []⟩ (Value.ref (s.heap.objs.size + 1) :: (us ++ ds)) _ _ E (hr.make C us [])
    (I2.env0.make C us []) (hb _ (Value.ref (s.heap.objs.size + 1) :: us) I2.kIn hl) r2 hq) fun r s' hq' => ?_))
  cases r with
  | error e => exact hx pins σ _ _ e s' I2 hq'
  | ok fl =>
    cases fl with
    | ret u =>
      obtain ⟨v, H', I3, rv, ev, q3⟩ := I2.after hq'
      subst ev
      exact ⟨rv, ⟨V.ref (s.heap.objs.size + 1), H', I3, rfl, q3⟩⟩
    | next => exact False.elim hq'
    | brk => exact False.elim hq'
    | cont => exact False.elim hq'
theorem pe_make (M : Mk X.K C f) (F : FnOk X.prog X.w X.K X.mg X.base CX k f fd ps sp) (hr : Room (k + 1) X.A) (hg : Gl X x) (hm : X.mg x = some (.ref C)) (hb : Binds X.K fd ps ds) (hd : Vals dvs ds) (hx : Passes CX X E)
    (ha : PA X (e :: es) t) (hdb : (x == ("__debug__" : Str)) = false := by decide) (he : starEach (e :: es) X.env = (false, eval e X.env) :: starEach es X.env := by rfl) (hpl : (backTo pos (starEach es X.env)).any (·.1) = false := by rfl) :
    PE X (.Call (.Name x p) (e :: es) [] pos) (tMake C sp dvs E t) := by
  intro pins s σ H Q I h
  refine wpAny_Call_Name_kw (ld_glob I hg hm ?_ hdb)
  refine PySem.W.callWith_K (h₀ := X.base) I.ok.mod.kin M.kp (thn (ha pos pins s σ H _ I h) fun us s1 ⟨vs, H1, I1, r, q⟩ => ⟨I1.kIn, ?_⟩) he hpl
  exact run_make M F hr hb hd hx I1 r q
theorem pe_make0 (M : Mk X.K C f) (F : FnOk X.prog X.w X.K X.mg X.base CX k f fd ps sp) (hr : Room (k + 1) X.A) (hg : Gl X x) (hm : X.mg x = some (.ref C)) (hb : Binds X.K fd ps ds) (hd : Vals dvs ds) (hx : Passes CX X E)
    (hdb : (x == ("__debug__" : Str)) = false := by decide) : PE X (.Call (.Name x p) [] [] pos) (tMake C sp dvs E tNil) := by
  intro pins s σ H Q I h
  refine wpAny_Call_Name_kw (ld_glob I hg hm ?_ hdb)
  exact PySem.W.callWith_K0 I.kIn M.kp (run_make (us := []) M F hr hb hd hx I .nil h)
end
section
variable {X : Cx} {CX : CXT} {k : Nat} {f C : Addr} {fd : FuncData} {ps ks : List Str} {sp : Sp} {E : XK} {x m : Str} {p pos apos kpos : Pos} {e o : Expr} {es : List Expr} {kws : List Keyword} {te ta : TE} {t tk : TA} {nm : Option Str}
variable {g : List Value → List Value → List Value} {gV : List V → List V → List V}
end
structure FnScope (N P : List Str) (sc : Scope) : Prop where
  kind : sc.kind = .function
  co : sc.isCoroutine = false
  gen : sc.isGenerator = false
  nd : N.Nodup
  pre : N.take P.length = P
  par : ∀ x ∈ P, sc.names.lookup x = some .local ∨ sc.names.lookup x = some .cell
  nofree : ∀ y ∈ sc.names, y.2 ≠ .free
theorem bindL_out {kindOf : Str → Option NameKind} {x : Str} : ∀ {binds : List (Str × Value)} {m : Str → Option Value}, (∀ v, (x, v) ∉ binds) → bindL kindOf binds m x = m x
  | [], _, _ => rfl
  | (n, v) :: r, m, h => by
    unfold bindL
    rw [bindL_out fun w hw => h w (List.mem_cons_of_mem _ hw)]
    split
    · have : x ≠ n := by rintro rfl; exact h v List.mem_cons_self
      simp [this]
    · rfl
theorem bindC_out {kindOf : Str → Option NameKind} {x : Str} : ∀ {binds : List (Str × Value)} {m : Str → Option Value}, (∀ v, (x, v) ∉ binds) → bindC kindOf binds m x = m x
  | [], _, _ => rfl
  | (n, v) :: r, m, h => by
    unfold bindC
    rw [bindC_out fun w hw => h w (List.mem_cons_of_mem _ hw)]
    split
    · rfl
    · have : x ≠ n := by rintro rfl; exact h v List.mem_cons_self
      simp [this]
theorem bindL_get {kindOf : Str → Option NameKind} {x : Str} {v : Value} : ∀ {P : List Str} {vs : List Value} {i : Nat} {m : Str → Option Value}, P.Nodup → P[i]? = some x → vs[i]? = some v → kindOf x = some .local →
    bindL kindOf (P.zip vs) m x = some v
  | [], _, _, _, _, h, _, _ => by simp at h
  | _ :: _, [], _, _, _, _, h, _ => by simp at h
  | p :: P, w :: vs, 0, m, nd, h1, h2, hk => by
    simp at h1 h2; subst h1; subst h2
    show bindL kindOf ((p, w) :: P.zip vs) m p = _
    unfold bindL
    rw [bindL_out fun v hv => (List.nodup_cons.mp nd).1 (List.of_mem_zip hv).1, if_pos hk]
    simp
  | p :: P, w :: vs, i + 1, m, nd, h1, h2, hk => by
    show bindL kindOf ((p, w) :: P.zip vs) m x = _
    unfold bindL
    exact bindL_get (i := i) (List.nodup_cons.mp nd).2 (by simpa using h1) (by simpa using h2) hk
theorem bindC_get {kindOf : Str → Option NameKind} {x : Str} {v : Value} : ∀ {P : List Str} {vs : List Value} {i : Nat} {m : Str → Option Value}, P.Nodup → P[i]? = some x → vs[i]? = some v → kindOf x ≠ some .local →
    bindC kindOf (P.zip vs) m x = some v
  | [], _, _, _, _, h, _, _ => by simp at h
  | _ :: _, [], _, _, _, _, h, _ => by simp at h
  | p :: P, w :: vs, 0, m, nd, h1, h2, hk => by
    simp at h1 h2; subst h1; subst h2
    show bindC kindOf ((p, w) :: P.zip vs) m p = _
    unfold bindC
    rw [bindC_out fun v hv => (List.nodup_cons.mp nd).1 (List.of_mem_zip hv).1, if_neg hk]
    simp
  | p :: P, w :: vs, i + 1, m, nd, h1, h2, hk => by
    show bindC kindOf ((p, w) :: P.zip vs) m x = _
    unfold bindC
    exact bindC_get (i := i) (List.nodup_cons.mp nd).2 (by simpa using h1) (by simpa using h2) hk
def start (N : List Str) (vs : List V) : St := vs.map some ++ List.replicate (N.length - vs.length) none
def cxOf (CX : CXT) (P : Program) (w : World) (K : PySem.W.Frag) (mg : Str → Option Value) (base : Heap) (N : List Str) (qual : Str) (scope : Scope) (f : Addr) (cd : Value) (A : Around) (outer : List Env) (s : Shared) (H : Hp) (E : XK) : Cx where
  prog := P
  w := w
  K := K
  mg := mg
  base := base
  A := A.deeper (envOfC qual scope s.heap.objs.size f cd)
  N := N
  s_0 := s
  H_0 := H
  env := envOfC qual scope s.heap.objs.size f cd
  outer := outer
  stack := envOfC qual scope s.heap.objs.size f cd :: outer
  ex := []
  calm := true
  fn := fun _ => true
  pn := []
  xe := fun e s' => wpAny (model P w) (A.deeper (envOfC qual scope s.heap.objs.size f cd)) (leaving (envOfC qual scope s.heap.objs.size f cd) e) (fun _ s'' => CX outer H s E e s'') (fun e' s'' => CX outer H s E e' s'') s'
theorem cell_has {sc : Scope} {n : Nat} {x : Str} (h : sc.names.lookup x = some .cell) : ∃ c, (cellsFrom n sc.names []).lookup x = some c := by
  have q := PySem.W.cellsFrom_some sc.names n [] (.inl h)
  exact Option.isSome_iff_exists.mp q
theorem inv_start {CX : CXT} {P : Program} {w : World} {K : PySem.W.Frag} {mg : Str → Option Value} {base : Heap} {N ps : List Str} {qual : Str} {scope : Scope} {f : Addr} {cd : Value} {A : Around} {outer : List Env} {s s1 : Shared} {H : Hp} {E : XK} {us : List Value} {vs : List V}
    (S : FnScope N ps scope) (hd : A.handled = none) (e0 : Env0 P w K mg base A outer s H) (hl : vs.length = ps.length) (r : Vals vs us)
    (x : InCallC s s.heap.objs.size (bindL (envOfC qual scope s.heap.objs.size f cd).kindOf (ps.zip us) fun _ => none) (cellsFrom (s.heap.objs.size + 1) scope.names []) (bindC (envOfC qual scope s.heap.objs.size f cd).kindOf (ps.zip us) fun _ => none) s1) :
    Inv (cxOf CX P w K mg base N qual scope f cd A outer s H E) [] (start N vs) H s1 := by
  have hpl : ps.length ≤ N.length := by have := congrArg List.length S.pre; rw [List.length_take] at this; omega
  obtain ⟨h1, tk, rfl, hk⟩ := x.done
  have noA : ∀ b : Addr, b ∉ (cxOf CX P w K mg base N qual scope f cd A outer s H E).ex := fun b z => absurd (show b ∈ ([] : List Addr) from z) (by simp)
  refine ⟨⟨e0.mod, S.kind, rfl, rfl, Nat.le_refl _, fun y z c h1 h2 => ?_, fun y hy => ?_, fun y c _ h => ?_, fun _ => hd, Around.frames_deeper e0.frames, .inr ⟨rfl, rfl⟩, fun b z => absurd z (noA b), e0.bs, e0.bsz, fun b _ _ => noA b, fun b z => absurd z (noA b), e0.funs, e0.frf⟩,
    rfl, e0.bare, Un.kept hk, ⟨_, x.toInCall.ns, fun i y v h1 h2 h3 => ?_⟩, fun y c h => ⟨_, x.cell y c h⟩, e0.hok.fresh (Nat.le_refl _), fun y c h => ?_, fun p hp => absurd (show p ∈ ([] : List (Addr × Obj)) from hp) (by simp), e0.hok.kept hk, ?_⟩
  · exact name_of_addr x.apart (PySem.mem_of_lookup h1) (PySem.mem_of_lookup h2)
  · have hy : scope.names.lookup y = some .cell ∨ scope.names.lookup y = some .free := hy
    rcases hy with hy | hy
    · exact cell_has hy
    · exact absurd rfl (S.nofree _ (PySem.mem_of_lookup hy))
  · exact Nat.le_of_lt (x.above y c (PySem.mem_of_lookup h))
  · have hi : i < vs.length := by
      unfold start at h2
      by_cases hi : i < vs.length
      · exact hi
      · rw [List.getElem?_append_right (by simpa using hi)] at h2
        rw [List.getElem?_replicate] at h2
        split at h2 <;> cases h2
    have ha : vs[i]? = some v := by
      unfold start at h2
      rw [List.getElem?_append_left (by simpa using hi), List.getElem?_map] at h2
      cases e : vs[i]? with
      | none => rw [e] at h2; cases h2
      | some a => rw [e] at h2; cases h2; rfl
    obtain ⟨u, hu, rv⟩ := r.get ha
    have hp : ps[i]? = some y := by
      rw [← S.pre, List.getElem?_take_of_lt (by omega)]; exact h1
    have ndP : ps.Nodup := by rw [← S.pre]; exact S.nd.sublist (List.take_sublist _ _)
    refine ⟨u, rv, ?_⟩
    rcases S.par y (List.mem_of_getElem? hp) with k | k
    · exact .inl ⟨k, bindL_get ndP hp hu k⟩
    · obtain ⟨c, e⟩ := cell_has (n := s.heap.objs.size + 1) k
      refine .inr ⟨.inl k, c, e, ?_⟩
      have q := x.cell y c e
      rw [bindC_get ndP hp hu (by show scope.names.lookup y ≠ _; rw [k]; decide)] at q
      exact q
  · exact e0.hok.fresh (Nat.le_of_lt (x.above y c (PySem.mem_of_lookup h)))
  · unfold start
    show _ = N.length
    rw [List.length_append, List.length_map, List.length_replicate]
    omega
theorem fn_of {CX : CXT} {P : Program} {w : World} {K : PySem.W.Frag} {mg : Str → Option Value} {base : Heap} {k : Nat} {f : Addr} {name qual : Str} {params : Arguments} {body : List Stmt} {scope : Scope} {dV kV doc pm cdv ct oc : Value} {an od : Option Addr}
    {osl : Array (Option Value)} {N ps : List Str} {sp : Sp} (lk : K.lookup f = some ⟨oc, od, .func (PySem.W.fnOf name qual params body scope dV kV doc pm an cdv ct), osl⟩) (hcd : PySem.W.codeIn K cdv qual = true) (S : FnScope N ps scope)
    (len : ∀ vs H Q E, sp vs H Q E → vs.length = ps.length)
    (hbody : ∀ (A : Around) (outer : List Env) (s : Shared) (H : Hp) (vs : List V) (Q : VK) (E : XK), Room k (A.deeper (envOfC qual scope s.heap.objs.size f cdv)) → sp vs H Q E →
      ∃ t, PSs (cxOf CX P w K mg base N qual scope f cdv A outer s H E) body t ∧ t { nx := fun _ H' => Q .non H', rt := Q } (start N vs) H) :
    FnOk P w K mg base CX (k + 1) f (PySem.W.fnOf name qual params body scope dV kV doc pm an cdv ct) ps sp := by
  refine ⟨len, fun A outer s H args us vs Q E hr e0 hb r hsp => ?_⟩
  have hl := len _ _ _ _ hsp
  have KX : K.In s.heap := e0.mod.kin.keeps fun b o e => (e0.bs b o e).1
  have lim : s.heap.NoLimit := e0.mod.nolimit.keeps fun b o e => (e0.bs b o e).1
  have hkind : ∀ y ∈ ps.zip us, scope.names.lookup y.1 = some .local ∨ (scope.names.lookup y.1 = some .cell ∧ ((cellsFrom (s.heap.objs.size + 1) scope.names []).lookup y.1).isSome = true) := fun ⟨n, v⟩ hy => by
    rcases S.par n (List.of_mem_zip hy).1 with q | q
    · exact .inl q
    · exact .inr ⟨q, PySem.W.cellsFrom_some _ _ _ (.inl q)⟩
  refine codeAny_call_function hr.depth (KX _ _ lk) rfl S.co S.gen rfl (PySem.W.codeRec_of KX hcd) (hb _ _ _ _ ?_)
  refine wpAny_newFunctionEnv_cells S.kind hkind fun env he s1 x => ?_
  subst he
  refine ⟨lim.keeps x.toInCall.keep, codeAny_func ?_⟩
  obtain ⟨t, ht, hq⟩ := hbody A outer s H vs Q E (hr.deeper _) hsp
  have I : Inv (cxOf CX P w K mg base N qual scope f cdv A outer s H E) [] (start N vs) H s1 := inv_start S hr.hd e0 hl r x
  refine wpAny_mono (ht [] s1 (start N vs) H _ I hq) (fun fl s' hs => ?_) fun e s' hs => hs
  have fin : ∀ {σ' : St} {H' : Hp} {v : V} {u : Value}, Inv (cxOf CX P w K mg base N qual scope f cdv A outer s H E) [] σ' H' s' → RelV v u → Q v H' → CE outer P w H s Q u s' :=
    fun {σ' H' v u} J rv q => ⟨v, H', J.os, J.bare, J.base, J.hok, rv, q⟩
  cases fl with
  | ret u =>
    obtain ⟨v, σ', H', J, rv, q⟩ := hs
    exact fin J rv q
  | next =>
    obtain ⟨σ', H', J, q⟩ := hs
    exact fin (v := V.non) (u := Value.none) J rfl q
  | brk =>
    obtain ⟨_, _, _, q⟩ := hs
    exact False.elim q
  | cont =>
    obtain ⟨_, _, _, q⟩ := hs
    exact False.elim q
end L2
namespace L2
open PySem PySem.Spec PyProof.Rows
section
variable {X : Cx} {x : Str} {p pos : Pos} {e : Expr} {es : List Expr} {t : TA} {id T : String} {r : List V → Hp → VK → Prop}
def tCB (r : List V → Hp → VK → Prop) (t : TA) : TE := fun σ H Q => t σ H fun vs H1 => r vs H1 Q
theorem pe_callB (hc : CallR X (.builtin id) r) (hg : Gl X x) (hm : X.mg x = none) (hv : bootBuiltins x = some (.builtin id)) (ha : PA X (e :: es) t) (hn : x ≠ "__name__" := by decide) (hdb : (x == ("__debug__" : Str)) = false := by decide)
    (he : starEach (e :: es) X.env = (false, eval e X.env) :: starEach es X.env := by rfl) (hpl : (backTo pos (starEach es X.env)).any (·.1) = false := by rfl) : PE X (.Call (.Name x p) (e :: es) [] pos) (tCB r t) := by
  intro pins s σ H Q I h
  refine wpAny_Call_Name_kw (ld_blt I hg hm hv ?_ hn hdb)
  exact PyProof.Rows.callWith_builtin1 (thn (ha pos pins s σ H _ I h) fun us s1 ⟨vs, H1, I1, r1, q1⟩ => hc pins s1 σ H1 vs us Q I1 r1 q1) he hpl
theorem pe_callTy (hc : CallR X (.type T) r) (hg : Gl X x) (hm : X.mg x = none) (hv : bootBuiltins x = some (.type T)) (ha : PA X (e :: es) t) (hn : x ≠ "__name__" := by decide) (hdb : (x == ("__debug__" : Str)) = false := by decide)
    (he : starEach (e :: es) X.env = (false, eval e X.env) :: starEach es X.env := by rfl) (hpl : (backTo pos (starEach es X.env)).any (·.1) = false := by rfl) : PE X (.Call (.Name x p) (e :: es) [] pos) (tCB r t) := by
  intro pins s σ H Q I h
  refine wpAny_Call_Name_kw (ld_blt I hg hm hv ?_ hn hdb)
  exact PyProof.Rows.callWith_type1 (thn (ha pos pins s σ H _ I h) fun us s1 ⟨vs, H1, I1, r1, q1⟩ => hc pins s1 σ H1 vs us Q I1 r1 q1) he hpl
end
end L2
namespace HT
open PySem PyProof.Rows
section
open PySem.SeqAt
open PySem.AutoSeq1 (wpAny_loadPart')
open PySem.MeetsSeq PySem.MeetsSeq2 PySem.MeetsSeq3
end
section
variable {prog : Program} {w : World} {A : Around} {E : Value → Shared → Prop} {s : Shared}
def sIx (n d : Nat) : Option Int → Nat
  | none => d
  | some v => if v < 0 then (v + (n : Int)).toNat else min v.toNat n
theorem sIx_nat (n d k : Nat) : sIx n d (some (k : Int)) = min k n := by
  show (if (k : Int) < 0 then ((k : Int) + (n : Int)).toNat else min (k : Int).toNat n) = min k n
  rw [if_neg (by omega), Int.toNat_natCast]
end
end HT
namespace L2
open PySem PySem.Spec PyProof.Rows
abbrev TO := St → Hp → (Option Int → Hp → Prop) → Prop
def PO (X : Cx) (e : Option Expr) (t : TO) : Prop :=
  ∀ (pins : List (Addr × Obj)) (s : Shared) (σ : St) (H : Hp) (Q : Option Int → Hp → Prop), Inv X pins σ H s → t σ H Q →
    wpAny (model X.prog X.w) X.A (evalPart e X.env) (fun u s' => ∃ o H', Inv X pins σ H' s' ∧ IsPart u o ∧ Q o H') X.xe s
def tNoPart : TO := fun _ H Q => Q none H
def tPart (t : TE) : TO := fun σ H Q => t σ H fun x H1 => ∃ i, x = .int i ∧ Q (some i) H1
section
variable {X : Cx} {e : Expr} {te : TE} {lo hi : Option Expr} {tl th : TO} {pos p2 : Pos}
theorem po_some (h : PE X e te) : PO X (some e) (tPart te) := by
  intro pins s σ H Q I hw
  rw [evalPart_some]
  refine thn (h pins s σ H _ I hw) fun u s1 ⟨x, H1, I1, r1, q1⟩ => ?_
  obtain ⟨i, rfl, q⟩ := q1
  obtain ⟨t, rfl⟩ := r1
  exact ⟨some i, H1, I1, .int i t, q⟩
def SlR (X : Cx) (r : V → Option Int → Option Int → Hp → VK → Prop) : Prop :=
  ∀ (pins : List (Addr × Obj)) (s : Shared) (σ : St) (H : Hp) (x : V) (v vl vu : Value) (lo hi : Option Int) (sl : Addr) (Q : VK), Inv X pins σ H s → RelV x v → s.heap.IsSliceOf sl vl vu .none → IsPart vl lo → IsPart vu hi → r x lo hi H Q →
    ∃ T id, typeLookup (.type T) "__getitem__" = pure (some (.builtin id)) ∧ s.TypeIs v T ∧ wpAny (model X.prog X.w) X.A (getItem v (.ref sl)) (EP X pins σ Q) X.xe s
def tSl (r : V → Option Int → Option Int → Hp → VK → Prop) (te : TE) (tl th : TO) : TE := fun σ H Q => te σ H fun x H1 => tl σ H1 fun l H2 => th σ H2 fun u H3 => r x l u H3 Q
theorem pe_slice {r : V → Option Int → Option Int → Hp → VK → Prop} (hr : SlR X r) (he : PE X e te) (hl : PO X lo tl) (hu : PO X hi th) : PE X (.Subscript e (.Slice lo hi none p2) pos) (tSl r te tl th) := by
  intro pins s σ H Q I h
  refine Subscript_ (thn (he pins s σ H _ I h) fun v s1 ⟨x, H1, I1, r1, q1⟩ => ?_)
  refine wpAny_Slice (thn (hl pins s1 σ H1 _ I1 q1) fun vl s2 ⟨l, H2, I2, pl, q2⟩ => thn (hu pins s2 σ H2 _ I2 q2) fun vu s3 ⟨u, H3, I3, pu, q3⟩ => ?_)
  rw [evalPart_none]
  refine wpAny_pure ?_
  have I4 : Inv X pins σ H3 { s3 with heap := s3.heap.push { cls := .type "slice", data := .fields #[vl, vu, .none] } } := I3.kept (t' := s3.toks) fun b ob q => Heap.get?_push_of_some _ q
  obtain ⟨T, id, hT, ht, hg⟩ := hr pins { s3 with heap := s3.heap.push { cls := .type "slice", data := .fields #[vl, vu, .none] } } σ H3 x v vl vu l u s3.heap.objs.size Q I4 r1 (Heap.IsSliceOf.new ..) pl pu q3
  show wpAny (model X.prog X.w) X.A (subscriptTail e (.Slice lo hi none p2) v (.ref s3.heap.objs.size)) (EP X pins σ Q) X.xe { s3 with heap := s3.heap.push { cls := .type "slice", data := .fields #[vl, vu, .none] } }
  exact tail_any (ops := [.ref s3.heap.objs.size, v]) ht hT hg (by with_unfolding_all rfl)
def cutV (xs : List V) (lo hi : Option Int) : List V := (xs.drop (HT.sIx xs.length 0 lo)).take (HT.sIx xs.length xs.length hi - HT.sIx xs.length 0 lo)
theorem cutV_length (xs : List V) (lo hi : Option Int) : (cutV xs lo hi).length ≤ xs.length := by
  unfold cutV
  rw [List.length_take, List.length_drop]
  omega
end
end L2
namespace L2
open PySem PySem.Spec PyProof.Rows
def ixN (n : Nat) (i : Int) : Option Nat := if 0 ≤ i then (if i < n then some i.toNat else none) else if -(n : Int) ≤ i then some (i + n).toNat else none
def atI {α : Type} (xs : List α) (i : Int) : Option α := (ixN xs.length i).bind fun j => xs[j]?
theorem ixN_seq {n : Nat} {i : Int} {j : Nat} (h : ixN n i = some j) : seqIndex? i n = some j ∧ j < n ∧ -(n : Int) ≤ i ∧ i < n := by
  unfold ixN at h
  by_cases h0 : 0 ≤ i
  · rw [if_pos h0] at h
    by_cases h1 : i < n
    · rw [if_pos h1] at h
      have e : i.toNat = j := Option.some.inj h
      exact ⟨by rw [seqIndex_of h0 h1, e], by omega, by omega, h1⟩
    · rw [if_neg h1] at h; cases h
  · rw [if_neg h0] at h
    by_cases h1 : -(n : Int) ≤ i
    · rw [if_pos h1] at h
      have e : (i + n).toNat = j := Option.some.inj h
      exact ⟨by rw [seqIndex_neg (by omega) h1, e], by omega, h1, by omega⟩
    · rw [if_neg h1] at h; cases h
theorem atI_get {α : Type} {xs : List α} {i : Int} {v : α} (h : atI xs i = some v) : ∃ j, seqIndex? i xs.length = some j ∧ xs[j]? = some v ∧ j < xs.length ∧ -(xs.length : Int) ≤ i ∧ i < xs.length := by
  unfold atI at h
  cases e : ixN xs.length i with
  | none => rw [e] at h; cases h
  | some j =>
    rw [e] at h
    obtain ⟨h1, h2, h3, h4⟩ := ixN_seq e
    exact ⟨j, h1, h, h2, h3, h4⟩
theorem atI_nat {α : Type} {xs : List α} {j : Nat} {v : α} (h : xs[j]? = some v) : atI xs (j : Int) = some v := by
  have hj : j < xs.length := (List.getElem?_eq_some_iff.mp h).1
  have e : ixN xs.length (j : Int) = some j := by
    unfold ixN
    rw [if_pos (by omega), if_pos (by omega)]; simp
  unfold atI; rw [e]; exact h
def PlainIx (b : Expr) : Prop := ∀ o i, subscripted b false o i = operate [o, i] (getItem o i)
def IxR (X : Cx) (r : R2) : Prop :=
  ∀ (value slice : Expr) (pins : List (Addr × Obj)) (s : Shared) (σ : St) (H : Hp) (x y : V) (v u : Value) (Q : VK), Inv X pins σ H s → RelV x v → RelV y u → r x y H Q →
    subscripted slice false v u = operate [v, u] (getItem v u) → wpAny (model X.prog X.w) X.A (subscriptTail value slice v u) (EP X pins σ Q) X.xe s
def MtR (X : Cx) (id : String) (r : V → List V → Hp → VK → Prop) : Prop :=
  ∀ (pins : List (Addr × Obj)) (s : Shared) (σ : St) (H : Hp) (x : V) (xs : List V) (v : Value) (us : List Value) (Q : VK), Inv X pins σ H s → RelV x v → Vals xs us → r x xs H Q →
    wpAny (model X.prog X.w) X.A (call (.builtin id) (v :: us)) (EP X pins σ Q) X.xe s
section
variable {X : Cx} {a b : Expr} {ta tb : TE} {pos : Pos}
theorem pe_ix {r : R2} (hr : IxR X r) (ha : PE X a ta) (hb : PE X b tb) (hs : PlainIx b) : PE X (.Subscript a b pos) (tOp r ta tb) := by
  intro pins s σ H Q I h
  exact Subscript_ (binT ha hb I h fun v u s2 x y H2 I2 rx ry q => hr a b pins s2 σ H2 x y v u Q I2 rx ry q (hs _ _))
def rIxL (K : PySem.W.Frag) : R2 := fun x y H Q => ∃ p xs i v, x = .ref p ∧ y = .int i ∧ SqL K H p xs ∧ atI xs i = some v ∧ Q v H
def rIxT (K : PySem.W.Frag) : R2 := fun x y H Q => ∃ p xs i v, x = .ref p ∧ y = .int i ∧ SqT K H p xs ∧ atI xs i = some v ∧ Q v H
theorem ix_list : IxR X (rIxL X.K) := by
  intro value slice pins s σ H x y v u Q I rx ry h hs
  obtain ⟨p, xs, i, z, rfl, rfl, hq, he, q⟩ := h
  cases rx
  obtain ⟨t, rfl⟩ := ry
  obtain ⟨its, r, pl, hz⟩ := I.list hq
  obtain ⟨j, h1, h2, h3, h4, h5⟩ := atI_get he
  obtain ⟨w, ew, rw'⟩ := r.get h2
  have hl := r.length
  have hn := line63
  have fin : EP X pins σ Q w s := ⟨z, H, I, rw', q⟩
  by_cases h0 : 0 ≤ i
  · have hj : i.toNat = j := by
      rw [seqIndex_of h0 h5] at h1
      exact Option.some.inj h1
    exact item_listR pl.isList h0 (by omega) (by rw [hj]; simpa using ew) fin hs
  · have hj : (i + (its.toArray.size : Int)).toNat = j := by
      rw [seqIndex_neg (by omega) h4] at h1
      rw [List.size_toArray, ← hl]
      exact Option.some.inj h1
    exact subscriptTail_builtinR (x := w) pl.isList.typeIs slot_list_getitem.lookup
      (wpAny_getItem_list_neg (Q := fun r s' => r = w ∧ EP X pins σ Q r s') pl.isList (by omega) (by rw [List.size_toArray] <;> omega) (by omega) (by rw [hj]; simpa using ew) ⟨rfl, fin⟩) hs
theorem ix_tup : IxR X (rIxT X.K) := by
  intro value slice pins s σ H x y v u Q I rx ry h hs
  obtain ⟨p, xs, i, z, rfl, rfl, hq, he, q⟩ := h
  cases rx
  obtain ⟨t, rfl⟩ := ry
  obtain ⟨its, r, pl, hz⟩ := I.tuple hq
  obtain ⟨j, h1, h2, h3, h4, h5⟩ := atI_get he
  obtain ⟨w, ew, rw'⟩ := r.get h2
  have hl := r.length
  have hn := line63
  have fin : EP X pins σ Q w s := ⟨z, H, I, rw', q⟩
  exact subscriptTail_builtinR (x := w) pl.typeIs slot_tuple_getitem.lookup
    (getItem_tuple (j := j) (Q := fun r s' => r = w ∧ EP X pins σ Q r s') pl (by omega) (by omega) (by rw [List.size_toArray, ← hl]; exact h1) (by simpa using ew) ⟨rfl, fin⟩) hs
theorem mapSeq_set (its : List Value) (n j : Nat) (u : Value) : Obj.mapSeq (·.setIfInBounds j u) { cls := .type "list", data := .seq its.toArray n } = { cls := .type "list", data := .seq (its.set j u).toArray n } := by
  simp [Obj.mapSeq]
theorem Inv.lst {pins : List (Addr × Obj)} {σ : St} {H : Hp} {s : Shared} {p : Addr} {xs : List V} (I : Inv X pins σ H s) (h : H p = some (.lst xs)) :
    ∃ (its : List Value) (n : Nat), Vals xs its ∧ s.heap.get? p = some { cls := .type "list", data := .seq its.toArray n } ∧ xs.length ≤ sizeLine := by
  obtain ⟨z, its, n, r, e⟩ := I.hok p _ h
  exact ⟨its, n, r, e, z⟩
theorem Inv.lstUpd {pins : List (Addr × Obj)} {σ : St} {H : Hp} {s : Shared} {p : Addr} {xs ys : List V} {its its' : List Value} {n n' : Nat} {f : Obj → Obj} (I : Inv X pins σ H s) (h : H p = some (.lst xs))
    (ho : s.heap.get? p = some { cls := .type "list", data := .seq its.toArray n }) (hf : f { cls := .type "list", data := .seq its.toArray n } = { cls := .type "list", data := .seq its'.toArray n' }) (r : Vals ys its') (hz : ys.length ≤ sizeLine) (t : Nat) :
    Inv X pins σ (upd H p (.lst ys)) { s with heap := s.heap.update p f, toks := t } := by
  have e : (s.heap.update p f).get? p = some { cls := .type "list", data := .seq its'.toArray n' } := by
    rw [Heap.get?_update_self f ho (by rw [hf] <;> rfl), hf]
  refine I.write (x := p) (e := p) (by rw [h]; trivial) (.inl rfl) (fun b u hb q => (Heap.get?_update_other _ _ (Ne.symm hb)).trans q) ⟨_, e⟩ ?_
  exact ⟨hz, its', n', r, e⟩
def rSetL : V → V → V → Hp → (Hp → Prop) → Prop := fun o i v H Q => ∃ p xs k j, o = .ref p ∧ i = .int k ∧ H p = some (.lst xs) ∧ ixN xs.length k = some j ∧ Q (upd H p (.lst (xs.set j v)))
theorem set_list : PSet X rSetL := by
  intro pins s σ H o i v ov iv u Q I ro ri rv h
  obtain ⟨p, xs, k, j, rfl, rfl, hp, hj, q⟩ := h
  cases ro
  obtain ⟨t, rfl⟩ := ri
  obtain ⟨its, n, r, ho, hz⟩ := I.lst hp
  obtain ⟨h1, h2, h3, h4⟩ := ixN_seq hj
  have hl := r.length
  have hn := line63
  have I' : Inv X pins σ (upd H p (.lst (xs.set j v))) { s with heap := s.heap.update p (Obj.mapSeq (·.setIfInBounds j u)) } :=
    I.lstUpd hp ho (mapSeq_set its n j u) (r.set rv j) (by rw [List.length_set]; exact hz) s.toks
  by_cases h0 : 0 ≤ k
  · have hk : k.toNat = j := by
      rw [seqIndex_of h0 h4] at h1
      exact Option.some.inj h1
    exact PySem.W.ki_setAt ho h0 (by omega) (by rw [List.size_toArray, ← hl]; exact h4) (by rw [hk]; exact ⟨_, I', q⟩)
  · have hk : (k + (its.toArray.size : Int)).toNat = j := by
      rw [seqIndex_neg (by omega) h3] at h1
      rw [List.size_toArray, ← hl]
      exact Option.some.inj h1
    exact PySem.W.ki_setBack ho (by omega) (by rw [List.size_toArray, ← hl]; exact h3) (by omega) (by rw [hk]; exact ⟨_, I', q⟩)
theorem slice_bounds (lo hi : Option Int) (n : Nat) : (sliceBounds lo hi none n).1 = ((HT.sIx n 0 lo : Nat) : Int) ∧ (sliceBounds lo hi none n).2.1 = ((HT.sIx n n hi : Nat) : Int) ∧ (sliceBounds lo hi none n).2.2 = 1 := by
  refine ⟨?_, ?_, rfl⟩
  · cases lo with
    | none => simp [sliceBounds, HT.sIx]
    | some i =>
      simp only [sliceBounds, HT.sIx, Option.getD_none, show (1 : Int) > 0 by decide, if_true]
      by_cases h : i < 0
      · simp only [h, if_true] <;> omega
      · simp only [h, if_false] <;> omega
  · cases hi with
    | none => simp [sliceBounds, HT.sIx]
    | some i =>
      simp only [sliceBounds, HT.sIx, Option.getD_none, show (1 : Int) > 0 by decide, if_true]
      by_cases h : i < 0
      · simp only [h, if_true] <;> omega
      · simp only [h, if_false] <;> omega
theorem slicePick_cut (its : List Value) (lo hi : Option Int) : slicePick its.toArray lo hi none = ((its.drop (HT.sIx its.length 0 lo)).take (HT.sIx its.length its.length hi - HT.sIx its.length 0 lo)).toArray := by
  obtain ⟨h1, h2, h3⟩ := slice_bounds lo hi its.toArray.size
  unfold slicePick
  rw [h1, h2, h3]
  simp only [sliceRange_one, pick_run, List.size_toArray] <;> rfl
def rSlL (K : PySem.W.Frag) : V → Option Int → Option Int → Hp → VK → Prop := fun x lo hi H Q => ∃ a xs, x = .ref a ∧ SqL K H a xs ∧ ∀ p, H p = none → Q (.ref p) (upd H p (.lst (cutV xs lo hi)))
theorem sl_list : SlR X (rSlL X.K) := by
  intro pins s σ H x v vl vu lo hi sl Q I rx hs pl pu h
  obtain ⟨a, xs, rfl, hx, q⟩ := h
  cases rx
  obtain ⟨its, r, ht, hz⟩ := I.list hx
  have hlen := r.length
  refine ⟨"list", _, slot_list_getitem.lookup, ht.isList.typeIs, ?_⟩
  refine wpAny_getItem_list_slice ht.isList hs pl pu .none (by simp) ?_ (by rw [List.size_toArray] <;> omega)
  rw [slicePick_cut, ← hlen]
  refine ⟨.ref s.heap.objs.size, _, I.laid (t' := s.toks) (o := .lst (cutV xs lo hi)) (fun b ob q => Heap.get?_push_of_some _ q) (Nat.le_refl _) ?_, rfl, q _ (I.hok.fresh (Nat.le_refl _))⟩
  exact ⟨Nat.le_trans (cutV_length xs lo hi) hz, _, 0, (r.drop (HT.sIx xs.length 0 lo)).take (HT.sIx xs.length xs.length hi - HT.sIx xs.length 0 lo), Heap.get?_push_size _ rfl⟩
def flatV : V → Bool
  | .non => true
  | .bl _ => true
  | .int _ => true
  | .str _ => true
  | _ => false
def eqV : V → V → Bool
  | .non, .non => true
  | .bl a, .bl b => a == b
  | .bl a, .int b => (if a then 1 else 0) == b
  | .int a, .bl b => a == (if b then 1 else 0)
  | .int a, .int b => a == b
  | .str a, .str b => a == b
  | _, _ => false
theorem eqAt_V {A : Around} {s : Shared} {y x : V} {u v : Value} (ry : RelV y u) (rx : RelV x v) (fy : flatV y = true) (fx : flatV x = true) : SeqAt.EqAt A s u v (eqV y x) := by
  cases y with
  | non =>
    cases ry
    cases x with
    | non => cases rx; exact SeqAt.EqAt.same _
    | bl b => cases rx; exact SeqAt.EqAt.none_bool b
    | int b => obtain ⟨t, rfl⟩ := rx; exact SeqAt.EqAt.none_int b t
    | str b => obtain ⟨t, rfl⟩ := rx; exact SeqAt.EqAt.none_str b t
    | _ => exact absurd (show false = true from fx) Bool.false_ne_true
  | bl a =>
    cases ry
    cases x with
    | non => cases rx; exact SeqAt.EqAt.bool_none a
    | bl b => cases rx; exact SeqAt.EqAt.bool_bool a b
    | int b => obtain ⟨t, rfl⟩ := rx; exact SeqAt.EqAt.bool_int a b t
    | str b => obtain ⟨t, rfl⟩ := rx; exact SeqAt.EqAt.bool_str a b t
    | _ => exact absurd (show false = true from fx) Bool.false_ne_true
  | int a =>
    obtain ⟨t', rfl⟩ := ry
    cases x with
    | non => cases rx; exact SeqAt.EqAt.int_none a t'
    | bl b => cases rx; exact SeqAt.EqAt.int_bool a t' b
    | int b => obtain ⟨t, rfl⟩ := rx; exact SeqAt.EqAt.int_int a t' b t
    | str b => obtain ⟨t, rfl⟩ := rx; exact SeqAt.EqAt.int_str a t' b t
    | _ => exact absurd (show false = true from fx) Bool.false_ne_true
  | str a =>
    obtain ⟨t', rfl⟩ := ry
    cases x with
    | non => cases rx; exact SeqAt.EqAt.str_none a t'
    | bl b => cases rx; exact SeqAt.EqAt.str_bool a t' b
    | int b => obtain ⟨t, rfl⟩ := rx; exact SeqAt.EqAt.str_int a t' b t
    | str b => obtain ⟨t, rfl⟩ := rx; exact SeqAt.EqAt.str_str a t' b t
    | _ => exact absurd (show false = true from fx) Bool.false_ne_true
  | _ => exact absurd (show false = true from fy) Bool.false_ne_true
def eqU (x : V) (u : Value) : Bool := match u with
  | .none => eqV .non x
  | .bool b => eqV (.bl b) x
  | .int i _ => eqV (.int i) x
  | .str z _ => eqV (.str z) x
  | _ => false
theorem eqU_of {x y : V} {u : Value} (r : RelV y u) (f : flatV y = true) : eqU x u = eqV y x := by
  cases y with
  | non => cases r; rfl
  | bl b => cases r; rfl
  | int i => obtain ⟨t, rfl⟩ := r; rfl
  | str z => obtain ⟨t, rfl⟩ := r; rfl
  | _ => exact absurd (show false = true from f) Bool.false_ne_true
theorem any_eqU {x : V} : ∀ {xs : List V} {us : List Value}, Vals xs us → xs.all flatV = true → us.any (eqU x) = xs.any fun y => eqV y x
  | _, _, .nil, _ => rfl
  | y :: xs, u :: us, .cons r t, f => by
    rw [List.all_cons, Bool.and_eq_true] at f
    rw [List.any_cons, List.any_cons, eqU_of r f.1, any_eqU t f.2]
theorem mem_eqAt {A : Around} {s : Shared} {x : V} {v : Value} (rx : RelV x v) (fx : flatV x = true) : ∀ {xs : List V} {us : List Value}, Vals xs us → xs.all flatV = true → ∀ u ∈ us, SeqAt.EqAt A s u v (eqU x u)
  | _, _, .nil, _ => fun u hu => by cases hu
  | y :: xs, u :: us, .cons r t, f => fun u' hu => by
    rw [List.all_cons, Bool.and_eq_true] at f
    rcases List.mem_cons.mp hu with rfl | hu
    · rw [eqU_of r f.1]; exact eqAt_V r rx f.1 fx
    · exact mem_eqAt rx fx t f.2 u' hu
def inV (x : V) (xs : List V) : Bool := xs.any fun y => eqV y x
def rIn (K : PySem.W.Frag) (neg : Bool) : R2 := fun x y H Q => ∃ p xs, y = .ref p ∧ (SqL K H p xs ∨ SqT K H p xs) ∧ flatV x = true ∧ xs.all flatV = true ∧ Q (.bl (if neg then !inV x xs else inV x xs)) H
theorem op_in_seq : OpR X (compareOp .In) (rIn X.K false) := by
  intro pins s σ H x y v u Q I rx ry h
  obtain ⟨p, xs, rfl, hq, fx, fs, q⟩ := h
  cases ry
  rcases hq with hq | hq
  · obtain ⟨its, r, pl, hz⟩ := I.list hq
    refine SeqAt.in_listAt (eqU x) pl.isList (fun w hw => mem_eqAt rx fx r fs w (by simpa using hw)) ⟨.bl _, H, I, rfl, ?_⟩
    rw [show its.toArray.any (eqU x) = its.any (eqU x) by simp, any_eqU r fs]
    exact q
  · obtain ⟨its, r, pl, hz⟩ := I.tuple hq
    refine SeqAt.in_tupleAt (eqU x) pl (fun w hw => mem_eqAt rx fx r fs w (by simpa using hw)) ⟨.bl _, H, I, rfl, ?_⟩
    rw [show its.toArray.any (eqU x) = its.any (eqU x) by simp, any_eqU r fs]
    exact q
theorem op_notIn_seq : OpR X (compareOp .NotIn) (rIn X.K true) := by
  intro pins s σ H x y v u Q I rx ry h
  obtain ⟨p, xs, rfl, hq, fx, fs, q⟩ := h
  cases ry
  rcases hq with hq | hq
  · obtain ⟨its, r, pl, hz⟩ := I.list hq
    refine SeqAt.notIn_listAt (eqU x) pl.isList (fun w hw => mem_eqAt rx fx r fs w (by simpa using hw)) ⟨.bl _, H, I, rfl, ?_⟩
    rw [show its.toArray.any (eqU x) = its.any (eqU x) by simp, any_eqU r fs]
    exact q
  · obtain ⟨its, r, pl, hz⟩ := I.tuple hq
    refine SeqAt.notIn_tupleAt (eqU x) pl (fun w hw => mem_eqAt rx fx r fs w (by simpa using hw)) ⟨.bl _, H, I, rfl, ?_⟩
    rw [show its.toArray.any (eqU x) = its.any (eqU x) by simp, any_eqU r fs]
    exact q
theorem call_len_seq : CallR X (.builtin "len") (fun xs H Q => ∃ p ys, xs = [.ref p] ∧ (SqL X.K H p ys ∨ SqT X.K H p ys) ∧ Q (.int ys.length) H) := by
  intro pins s σ H xs us Q I r h
  obtain ⟨p, ys, rfl, hq, q⟩ := h
  obtain ⟨u, rfl, rx⟩ := vals1 r
  cases rx
  have hn := line63
  rcases hq with hq | hq
  · obtain ⟨its, r', pl, hz⟩ := I.list hq
    have hlen := r'.length
    exact Calls.call_len_list pl.isList (by simp only [List.size_toArray] <;> omega) ⟨.int ys.length, H, I.tok _, ⟨s.toks + 1, by rw [List.size_toArray, hlen]⟩, q⟩
  · obtain ⟨its, r', pl, hz⟩ := I.tuple hq
    have hlen := r'.length
    exact len_tuple pl (by simp only [List.size_toArray] <;> omega) ⟨.int ys.length, H, I.tok _, ⟨s.toks + 1, by rw [List.size_toArray, hlen]⟩, q⟩
theorem call_list_of : CallR X (.type "list") (fun xs H Q => ∃ p ys, xs = [.ref p] ∧ (SqL X.K H p ys ∨ SqT X.K H p ys) ∧ ∀ l, H l = none → Q (.ref l) (upd H l (.lst ys))) := by
  intro pins s σ H xs us Q I r h
  obtain ⟨p, ys, rfl, hq, q⟩ := h
  obtain ⟨u, rfl, rx⟩ := vals1 r
  cases rx
  have fin : ∀ (its : List Value), Vals ys its → ys.length ≤ sizeLine → ∀ (h' : Heap) (c' : Nat), (∀ b o', s.heap.get? b = some o' → h'.get? b = some o') →
      h'.get? s.heap.objs.size = some { cls := .type "list", dict := none, data := .seq its.toArray c', slots := #[] } → EP X pins σ Q (.ref s.heap.objs.size) { s with heap := h' } := fun its r' hz h' c' kp e =>
    ⟨.ref s.heap.objs.size, _, I.laid (t' := s.toks) kp (Nat.le_refl _) (show ObjOk X.prog X.w _ h' _ (.lst ys) from ⟨hz, its, c', r', e⟩), rfl, q _ (I.hok.fresh (Nat.le_refl _))⟩
  rcases hq with hq | hq
  · obtain ⟨its, r', pl, hz⟩ := I.list hq
    have hlen := r'.length
    obtain ⟨o, ho, hc, n, hd⟩ := pl.isList
    exact call_list_seq p (.inl rfl) ho hc hd (fun h' c' kp e => fin its r' hz h' c' kp e) (by simp only [List.size_toArray] <;> omega)
  · obtain ⟨its, r', pl, hz⟩ := I.tuple hq
    have hlen := r'.length
    obtain ⟨o, ho, hc, n, hd⟩ := pl
    exact call_list_seq p (.inr rfl) ho hc hd (fun h' c' kp e => fin its r' hz h' c' kp e) (by simp only [List.size_toArray] <;> omega)
def tyV (K : PySem.W.Frag) (T : String) (x : V) (H : Hp) : Prop := match x with
  | .str _ => T = "str"
  | .int _ => T = "int"
  | .ref p => (T = "list" ∧ ∃ xs, SqL K H p xs) ∨ (T = "tuple" ∧ ∃ o, K.lookup p = some o ∧ o.cls = .type "tuple" ∧ o.dict = none) ∨
      (T = "dict" ∧ ((∃ kvs, H p = some (.dK kvs)) ∨ ∃ kvs, H p = some (.dT kvs))) ∨ (T = "set" ∧ ∃ S n, H p = some (.set S n))
  | _ => False
theorem tyV_is {pins : List (Addr × Obj)} {σ : St} {H : Hp} {s : Shared} {T : String} {x : V} {v : Value} (I : Inv X pins σ H s) (r : RelV x v) (ty : tyV X.K T x H) :
    s.TypeIs v T ∧ ∀ a, v = .ref a → ∃ ob, s.heap.get? a = some ob ∧ ob.dict = none := by
  cases x with
  | str z =>
    obtain ⟨t, rfl⟩ := r
    cases (show T = "str" from ty)
    exact ⟨typeIs_str s z t, fun _ e => nomatch e⟩
  | int i =>
    obtain ⟨t, rfl⟩ := r
    cases (show T = "int" from ty)
    exact ⟨typeIs_int s i t, fun _ e => nomatch e⟩
  | ref p =>
    cases r
    rcases ty with ⟨rfl, xs, hq⟩ | ⟨rfl, o, hk, hc, hd⟩ | ⟨rfl, hk⟩ | ⟨rfl, S, n, hk⟩
    · obtain ⟨its, _, pl, _⟩ := I.list hq
      refine ⟨pl.isList.typeIs, fun a e => ?_⟩
      cases e
      obtain ⟨o, n, e, c, hd, _⟩ := pl
      exact ⟨o, e, hd⟩
    · refine ⟨⟨o, I.kIn p o hk, hc⟩, fun a e => ?_⟩
      cases e
      exact ⟨o, I.kIn _ o hk, hd⟩
    · have z : ∃ o, s.heap.get? p = some o ∧ o.ExactDict := by
        rcases hk with ⟨kvs, hk⟩ | ⟨kvs, hk⟩
        · obtain ⟨_, _, _, _, o, _, _, e, ex, _⟩ := I.hok p _ hk
          exact ⟨o, e, ex⟩
        · obtain ⟨_, _, _, _, o, _, _, e, ex, _⟩ := I.hok p _ hk
          exact ⟨o, e, ex⟩
      obtain ⟨o, e, ex⟩ := z
      refine ⟨⟨o, e, ex.1⟩, fun a e2 => ?_⟩
      cases e2
      exact ⟨o, e, ex.2.1⟩
    · obtain ⟨o, _, _, _, e, ex, _⟩ := I.hok p _ hk
      refine ⟨⟨o, e, ex.1⟩, fun a e2 => ?_⟩
      cases e2
      exact ⟨o, e, ex.2.1⟩
  | _ => exact False.elim ty
def tBM0 (K : PySem.W.Frag) (T : String) (r : V → List V → Hp → VK → Prop) (to : TE) : TE := fun σ H Q => to σ H fun x H1 => tyV K T x H1 ∧ r x [] H1 Q
def tBM (K : PySem.W.Frag) (T : String) (r : V → List V → Hp → VK → Prop) (to : TE) (t : TA) : TE := fun σ H Q => to σ H fun x H1 => tyV K T x H1 ∧ t σ H1 fun xs H2 => r x xs H2 Q
variable {o e : Expr} {es : List Expr} {to : TE} {t : TA} {name : Str} {apos cpos : Pos} {T id : String} {r : V → List V → Hp → VK → Prop}
theorem pe_bm0 (pa : PlainAttrs T) (slot : Slot T name id) (hty : typeOf (.builtin id) = pure (.type "method_descriptor")) (hm : MtR X id r) (ho : PE X o to)
    (hbase : attributeBase o name X.env (eval o X.env) = eval o X.env := by rfl) (hline : (apos.endLine == cpos.line) = true := by rfl) : PE X (.Call (.Attribute o name apos) [] [] cpos) (tBM0 X.K T r to) := by
  intro pins s σ H Q I h
  refine wpAny_Call_method0_late hbase hline (thn (ho pins s σ H _ I h) fun v s1 ⟨x, H1, I1, r1, ty, q1⟩ => ?_)
  obtain ⟨h1, h2⟩ := tyV_is I1 r1 ty
  exact ⟨T, id, pa, slot, hty, h1, h2, Calls.callWith_builtin rfl (PySem.evalArgs_none (hm pins s1 σ H1 x [] v [] Q I1 r1 .nil q1))⟩
theorem pe_bm (pa : PlainAttrs T) (slot : Slot T name id) (hty : typeOf (.builtin id) = pure (.type "method_descriptor")) (hm : MtR X id r) (ho : PE X o to) (ha : PA X (e :: es) t)
    (hbase : attributeBase o name X.env (eval o X.env) = eval o X.env := by rfl)
    (hfew : ((backTo cpos (starEach (e :: es) X.env)).all (fun x => !x.1) && (backToKw cpos (keywordEach [] X.env)).all (fun x => x.1.isSome)
      && decide ((e :: es).length + ([] : List Keyword).length + (if ([] : List Keyword).isEmpty then 0 else 1) < 30)) = true := by rfl)
    (hline : (apos.endLine == cpos.line) = true := by rfl) (hs : starEach (e :: es) X.env = (false, eval e X.env) :: starEach es X.env := by rfl) (hplain : (backTo cpos (starEach es X.env)).any (·.1) = false := by rfl) :
    PE X (.Call (.Attribute o name apos) (e :: es) [] cpos) (tBM X.K T r to t) := by
  intro pins s σ H Q I h
  refine wpAny_Call_method_late hbase hfew hline rfl (thn (ho pins s σ H _ I h) fun v s1 ⟨x, H1, I1, r1, ty, q1⟩ => ?_)
  obtain ⟨h1, h2⟩ := tyV_is I1 r1 ty
  refine ⟨T, id, pa, slot, hty, h1, h2, ?_⟩
  have hA := ha cpos pins s1 σ H1 _ I1 q1
  rw [hs] at hA ⊢
  refine Calls.callWith_builtin (by show (false || (backTo cpos (starEach es X.env)).any (·.1)) = false; rw [hplain] <;> rfl) (Calls.evalArgs_plain ?_)
  exact thn hA fun us s2 ⟨vs, H2, I2, r2, q2⟩ => hm pins s2 σ H2 x vs v us Q I2 r1 r2 q2
end
end L2
namespace L2
open PySem PySem.Spec PyProof.Rows
def MtM (X : Cx) (id : String) (r : V → List V → Hp → VK → Prop) : Prop :=
  ∀ (pins : List (Addr × Obj)) (s : Shared) (σ : St) (H : Hp) (x : V) (xs : List V) (v : Value) (us : List Value) (Q : VK), Inv X pins σ H s → RelV x v → Vals xs us → r x xs H Q →
    wpAny (model X.prog X.w) X.A (call (.builtin id) (v :: us)) (EP X pins σ Q) X.xe s
theorem Vals.one : ∀ {x : V} {us : List Value}, Vals [x] us → ∃ u, us = [u] ∧ RelV x u
  | _, _, .cons r .nil => ⟨_, rfl, r⟩
theorem Vals.two : ∀ {x y : V} {us : List Value}, Vals [x, y] us → ∃ u v, us = [u, v] ∧ RelV x u ∧ RelV y v
  | _, _, _, .cons r (.cons q .nil) => ⟨_, _, rfl, r, q⟩
theorem Vals.eraseIdx : ∀ {xs : List V} {us : List Value} (i : Nat), Vals xs us → Vals (xs.eraseIdx i) (us.eraseIdx i)
  | _, _, _, .nil => .nil
  | _, _, 0, .cons _ t => t
  | _, _, i + 1, .cons r t => .cons r (Vals.eraseIdx i t)
theorem Vals.rep {xs : List V} {us : List Value} (h : Vals xs us) : ∀ k : Nat, Vals (List.replicate k xs).flatten (List.replicate k us).flatten
  | 0 => .nil
  | k + 1 => by
    rw [List.replicate_succ, List.replicate_succ, List.flatten_cons, List.flatten_cons]
    exact Vals.append h (Vals.rep h k)
theorem len_erase {α : Type} : ∀ (l : List α) (i : Nat), (l.eraseIdx i).length ≤ l.length
  | [], _ => Nat.le_refl _
  | _ :: _, 0 => Nat.le_succ _
  | _ :: r, i + 1 => Nat.succ_le_succ (len_erase r i)
theorem foldl_rep (its : List Value) : ∀ (k : Nat) (acc : List Value),
    List.foldl (fun x1 x2 => x1 ++ x2) acc.toArray (List.replicate k its.toArray) = (acc ++ (List.replicate k its).flatten).toArray
  | 0, acc => by simp
  | k + 1, acc => by
    have e : acc.toArray ++ its.toArray = (acc ++ its).toArray := by simp
    have e2 : (acc ++ its) ++ (List.replicate k its).flatten = acc ++ (List.replicate (k + 1) its).flatten := by
      rw [List.replicate_succ, List.flatten_cons, List.append_assoc]
    rw [← e2, ← foldl_rep its k (acc ++ its), ← e, List.replicate_succ, List.foldl_cons]
section
variable {X : Cx} {pins : List (Addr × Obj)} {σ : St} {H : Hp} {s : Shared} {l b : Addr} {xs ys zs : List V}
theorem Inv.lset {its its' : List Value} {n : Nat} {f : Array Value → Array Value} {t' : Nat} (I : Inv X pins σ H s) (hH : H l = some (.lst xs))
    (e : s.heap.get? l = some { cls := .type "list", data := .seq its.toArray n }) (hf : f its.toArray = its'.toArray) (hv : Vals ys its') (hz : ys.length ≤ sizeLine) :
    Inv X pins σ (upd H l (.lst ys)) { s with heap := s.heap.update l (Obj.mapSeq f), toks := t' } := by
  have q := PySem.IsL.update e f
  rw [hf] at q
  refine I.write (x := l) (e := l) (by rw [hH]; exact trivial) (.inl rfl) (fun b' u hb hu => (Heap.get?_update_other s.heap (Obj.mapSeq f) (Ne.symm hb)).trans hu) ⟨_, q⟩ ?_
  exact ⟨hz, its', _, hv, q⟩
theorem Inv.lnew {its : List Value} {t' : Nat} (I : Inv X pins σ H s) (hv : Vals ys its) (hz : ys.length ≤ sizeLine) :
    Inv X pins σ (upd H s.heap.objs.size (.lst ys)) { s with heap := s.heap.push { cls := .type "list", data := .seq its.toArray }, toks := t' } :=
  I.laid (fun _ _ q => Heap.get?_push_of_some _ q) (Nat.le_refl _) ⟨hz, its, 0, hv, Heap.get?_push_size _ rfl⟩
theorem Inv.fresh (I : Inv X pins σ H s) : H s.heap.objs.size = none := I.hok.fresh (Nat.le_refl _)
theorem Inv.lstM (I : Inv X pins σ H s) (hH : H l = some (.lst xs)) : xs.length ≤ sizeLine ∧ ∃ (its : List Value) (n : Nat), Vals xs its ∧ xs.length = its.length ∧ s.heap.get? l = some { cls := .type "list", data := .seq its.toArray n } := by
  obtain ⟨z, its, n, r, e⟩ := I.hok l _ hH
  exact ⟨z, its, n, r, r.length, e⟩
theorem notLongL {n : Nat} (h : n ≤ sizeLine) : Builtin.List.listTooLong n = false := by
  unfold Builtin.List.listTooLong
  exact decide_eq_false (by omega)
end
section
variable {X : Cx}
def rAppend : V → List V → Hp → VK → Prop := fun x vs H Q => ∃ l xs y, x = .ref l ∧ vs = [y] ∧ H l = some (.lst xs) ∧ xs.length < sizeLine ∧ Q .non (upd H l (.lst (xs ++ [y])))
theorem mt_append : MtM X "list.append" rAppend := by
  intro pins s σ H x vs v us Q I rx rv h
  obtain ⟨l, xs, y, rfl, rfl, hH, hz, q⟩ := h
  cases rx
  obtain ⟨u, rfl, ru⟩ := rv.one
  obtain ⟨z, its, n, r, hl, e⟩ := I.lstM hH
  refine call_meets F.slot_list_append ⟨_, e, rfl⟩ F.entry_list_append (F.args_list_append_2 _ _) (PySem.list_append l its.toArray n u (by rw [List.size_toArray]; omega)) ⟨e, ?_⟩
  refine ⟨.non, _, I.lset (its' := its ++ [u]) hH e (by simp) (r.append (.cons ru .nil)) ?_, rfl, q⟩
  rw [List.length_append, List.length_singleton]
  omega
def rExtend : V → List V → Hp → VK → Prop := fun x vs H Q => ∃ l b xs zs, x = .ref l ∧ vs = [.ref b] ∧ H l = some (.lst xs) ∧ H b = some (.lst zs) ∧ xs.length + zs.length ≤ sizeLine ∧ Q .non (upd H l (.lst (xs ++ zs)))
theorem mt_extend : MtM X "list.extend" rExtend := by
  intro pins s σ H x vs v us Q I rx rv h
  obtain ⟨l, b, xs, zs, rfl, rfl, hH, hB, hz, q⟩ := h
  cases rx
  obtain ⟨u, rfl, ru⟩ := rv.one
  cases ru
  obtain ⟨z, its, n, r, hl, e⟩ := I.lstM hH
  obtain ⟨z2, its2, n2, r2, hl2, e2⟩ := I.lstM hB
  have hsz : its.toArray.size + its2.toArray.size ≤ sizeLine := by rw [List.size_toArray, List.size_toArray]; omega
  have hlong : ¬ (!its.toArray.isEmpty && Builtin.List.listTooLong (its.toArray.size + its2.toArray.size)) = true := by
    rw [notLongL hsz, Bool.and_false]
    exact Bool.false_ne_true
  refine call_meets F.slot_list_extend ⟨_, e, rfl⟩ F.entry_list_extend (F.args_list_extend_2 _ _)
    (AutoSeq1.list_extend_list_list_0 l its.toArray n b its2.toArray n2 hlong (by rw [List.size_toArray]; omega) (by omega)) ⟨e, e2, ?_⟩
  refine ⟨.non, _, I.lset (its' := its ++ its2) hH e (by simp) (r.append r2) ?_, rfl, q⟩
  rw [List.length_append]
  omega
def rPopAt : V → List V → Hp → VK → Prop := fun x vs H Q => ∃ l xs i k y, x = .ref l ∧ vs = [.int i] ∧ H l = some (.lst xs) ∧ -(2 ^ 63) ≤ i ∧ i < 2 ^ 63 ∧ seqIndex? i xs.length = some k ∧ xs[k]? = some y ∧ Q y (upd H l (.lst (xs.eraseIdx k)))
theorem mt_popAt : MtM X "list.pop" rPopAt := by
  intro pins s σ H x vs v us Q I rx rv h
  obtain ⟨l, xs, i, k, y, rfl, rfl, hH, h1, h2, hk, hy, q⟩ := h
  cases rx
  obtain ⟨u, rfl, ru⟩ := rv.one
  obtain ⟨t, rfl⟩ := ru
  obtain ⟨z, its, n, r, hl, e⟩ := I.lstM hH
  obtain ⟨w, hw, rw'⟩ := r.get hy
  refine call_meets F.slot_list_pop ⟨_, e, rfl⟩ F.entry_list_pop (F.args_list_pop_2 _ _)
    (MeetsSeq.list_pop_at l its.toArray n i t k w (fitsIndex_both h1 h2) (by rw [List.size_toArray, ← hl]; exact hk) (by rw [← Array.getElem?_toList]; exact hw) (by rw [List.size_toArray]; omega)) ⟨e, ?_⟩
  refine ⟨y, _, I.lset (its' := its.eraseIdx k) hH e ?_ (r.eraseIdx k) ?_, rw', q⟩
  · show its.toArray.eraseIdxIfInBounds k = (its.eraseIdx k).toArray
    rw [List.eraseIdxIfInBounds_toArray]
  · have := len_erase xs k
    omega
def rCat : R2 := fun x y H Q => ∃ l b xs zs, x = .ref l ∧ y = .ref b ∧ H l = some (.lst xs) ∧ H b = some (.lst zs) ∧ xs.length + zs.length ≤ sizeLine ∧ ∀ p, H p = none → Q (.ref p) (upd H p (.lst (xs ++ zs)))
theorem op_cat : OpR X (binaryOp .Add) rCat := by
  intro pins s σ H x y v u Q I rx ry h
  obtain ⟨l, b, xs, zs, rfl, rfl, hH, hB, hz, q⟩ := h
  cases rx
  cases ry
  obtain ⟨z, its, n, r, hl, e⟩ := I.lstM hH
  obtain ⟨z2, its2, n2, r2, hl2, e2⟩ := I.lstM hB
  refine PySem.P.add_list e e2 ?_ (by rw [List.size_toArray, List.size_toArray]; omega)
  have ea : its.toArray ++ its2.toArray = (its ++ its2).toArray := by simp
  rw [ea]
  exact ⟨.ref _, _, I.lnew (t' := s.toks) (r.append r2) (by rw [List.length_append]; omega), rfl, q _ I.fresh⟩
def rRep : R2 := fun x y H Q => ∃ l k xs, x = .ref l ∧ y = .int k ∧ H l = some (.lst xs) ∧ -(2 ^ 63) ≤ k ∧ k < 2 ^ 63 ∧ xs.length * k.toNat ≤ sizeLine ∧
  ∀ p, H p = none → Q (.ref p) (upd H p (.lst (List.replicate k.toNat xs).flatten))
theorem len_rep {α : Type} (xs : List α) (k : Nat) : (List.replicate k xs).flatten.length = k * xs.length := by
  induction k with
  | zero => simp
  | succ k ih => rw [List.replicate_succ, List.flatten_cons, List.length_append, ih, Nat.succ_mul, Nat.add_comm]
theorem op_rep : OpR X (binaryOp .Mult) rRep := by
  intro pins s σ H x y v u Q I rx ry h
  obtain ⟨l, k, xs, rfl, rfl, hH, h1, h2, hz, q⟩ := h
  cases rx
  obtain ⟨t, rfl⟩ := ry
  obtain ⟨z, its, n, r, hl, e⟩ := I.lstM hH
  have hlen : its.toArray.size * k.toNat ≤ sizeLine := by rw [List.size_toArray, ← hl]; exact hz
  have hcap : ¬ its.toArray.size * k.toNat > (2 ^ 63 - 1) / 8 := by
    have : (sizeLine : Nat) ≤ (2 ^ 63 - 1) / 8 := by decide
    omega
  have hfit : ¬ (!Builtin.List.listFitsIndex k) = true := by
    rw [fitsIndex_both h1 h2]
    exact Bool.false_ne_true
  have hlong : ¬ Builtin.List.listTooLong (its.toArray.size * k.toNat) = true := by
    rw [notLongL hlen]
    exact Bool.false_ne_true
  have hnew : List.foldl (fun x1 x2 => x1 ++ x2) #[] (List.replicate (if its.toArray.isEmpty = true then 0 else k.toNat) its.toArray) = (List.replicate k.toNat its).flatten.toArray := by
    have f0 : ∀ m : Nat, List.foldl (fun x1 x2 => x1 ++ x2) #[] (List.replicate m its.toArray) = (List.replicate m its).flatten.toArray := fun m => by
      have := foldl_rep its m []
      rw [List.nil_append] at this
      exact this
    rw [f0]
    cases its with
    | nil => simp
    | cons a r' => rw [if_neg (by simp)]
  refine wpAny_binaryOp_repeat_ref (T := "list") (U := "int") (by decide) ⟨_, e, rfl⟩ (fun s' => typeIs_int s' k t) noFill_list_mul F.fills_int_mul F.slot_int_rmul repeat_list F.slot_int_index.lookup
    (call_meets F.slot_int_rmul (typeIs_int s k t) F.entry_int_rmul (F.args_int_rmul_2 _ _) (int___rmul___int_list k t l its.toArray n)
      ⟨e, rfl, ⟨_, e, rfl⟩, call_meets F.slot_list_mul ⟨_, e, rfl⟩ F.entry_list_mul (F.args_list_mul_2 _ _) (AutoListH.list___mul___list_int_3 l its.toArray n k t hfit hcap hlong) ⟨e, ?_⟩⟩)
  rw [hnew]
  exact ⟨.ref _, _, I.lnew (t' := s.toks) (r.rep k.toNat) (by rw [len_rep, Nat.mul_comm]; exact hz), rfl, q _ I.fresh⟩
end
section
variable {prog : Program} {w : World} {A : Around} {E : Value → Shared → Prop} {s : Shared}
set_option maxRecDepth 100000 in
end
section
variable {X : Cx}
end
end L2
namespace L2
open PySem PySem.Spec PyProof.Rows
theorem Vals.bls : ∀ {bs : List Bool} {us : List Value}, Vals (bs.map V.bl) us → us = bs.map Value.bool
  | [], us, h => by
    rw [List.map_nil] at h
    cases h
    rfl
  | b :: bs, us, h => by
    rw [List.map_cons] at h
    cases h with
    | cons r t =>
      cases r
      rw [Vals.bls t, List.map_cons]
theorem Vals.ref1 {a : Addr} {us : List Value} (r : Vals [V.ref a] us) : us = [Value.ref a] := by
  cases r with
  | cons r t =>
    cases t
    cases r
    rfl
section
variable {prog : Program} {w : World} {A : Around} {E : Value → Shared → Prop} {s : Shared} {l : Addr} {its : List Value} {ns : List Int} {Q : Value → Shared → Prop}
end
section
variable {X : Cx}
end
section
variable {X : Cx}
end
section
variable {X : Cx}
end
theorem iter_any {prog : Program} {w : World} {A : Around} {E : Value → Shared → Prop} {s : Shared} {l : Addr} {items : Array Value} {Q : Value → Shared → Prop} (hl : s.heap.IsList l items)
    (h : ∀ s₂ : Shared, s₂ = { s with heap := s.heap.push { cls := .type "list_iterator", data := .fields #[.ref l, .int 0 0] } } →
      (s₂.heap.IsListIter s.heap.objs.size l 0 ∧ s₂.heap.IsList l items) → l ≠ s.heap.objs.size → Q (.ref s.heap.objs.size) s₂) : wpAny (model prog w) A (pyIter (.ref l)) Q E s := by
  have hlt : l < s.heap.objs.size := by obtain ⟨_, e, _⟩ := hl; exact Heap.lt_size e
  exact wpAny_pyIter_list hl (h _ rfl ⟨⟨_, Heap.get?_push_size _ rfl, rfl, rfl⟩, hl.push _⟩ (Nat.ne_of_lt hlt))
theorem truth_bools {prog : Program} {w : World} {A : Around} {bs : List Bool} {its : List Value} (e : its = bs.map Value.bool) :
    TruthOf prog w A (fun i v => its.toArray[i]? = some v) (fun i => bs.getD i false) := fun i v s Q E hv hq => by
  have hv' : its[i]? = some v := by simpa using hv
  rw [e, List.getElem?_map] at hv'
  obtain ⟨b, hb, rfl⟩ := Option.map_eq_some_iff.mp hv'
  have hg : bs.getD i false = b := by rw [List.getD_eq_getElem?_getD, hb] <;> rfl
  have hq' : Q (bs.getD i false) s := hq
  rw [hg] at hq'
  exact wpAny_truthy_bool hq'
theorem any_range : ∀ bs : List Bool, (List.range bs.length).any (fun i => bs.getD i false) = bs.any id
  | [] => rfl
  | b :: bs => by
    rw [List.length_cons, List.range_succ_eq_map, List.any_cons, List.any_map, List.any_cons, ← any_range bs]
    all_goals rfl
section
variable {X : Cx}
def rAny (K : PySem.W.Frag) : List V → Hp → VK → Prop := fun vs H Q => ∃ (a : Addr) (bs : List Bool), vs = [V.ref a] ∧ SqL K H a (bs.map V.bl) ∧ Q (.bl (bs.any id)) H
theorem cr_any (hc : X.calm = true) : CallR X (.builtin "any") (rAny X.K) := by
  intro pins s σ H vs us Q I r h
  obtain ⟨a, bs, rfl, hs, q⟩ := h
  obtain ⟨its, rv, hl, _⟩ := I.list hs
  rw [Vals.ref1 r]
  have hb := rv.bls
  refine call_any_walk (iter_any hl.isList fun s₂ e2 st hne => ?_)
  subst e2
  refine ⟨_, _, _, _, _, _, _, rfl, Walks.list (A := X.A.in1) (I.ok.hd hc) _ a hne its.toArray, st, truth_bools hb, fun h' tk hk => ?_⟩
  refine ⟨.bl _, H, I.kept fun b o eo => hk b o (fun hmem => ?_) (Heap.get?_push_of_some _ eo), ?_, q⟩
  · rcases List.mem_cons.mp hmem with e1 | hmem
    · exact absurd (e1 ▸ Heap.lt_size eo) (Nat.lt_irrefl _)
    · cases hmem
  · show Value.bool _ = Value.bool _
    rw [← any_range, hb, List.size_toArray, List.length_map]
end
section
variable {X : Cx} {pins : List (Addr × Obj)} {σ : St} {H : Hp} {s : Shared}
end
section
variable {X : Cx}
end
end L2
namespace L2
open PySem PySem.Spec PyProof.Rows
abbrev CellAt (h : Heap) (c : Addr) (v : Option Value) : Prop := h.IsCell c v
def relS (scope sc : Scope) : Scope :=
  { scope with names := scope.names.map fun (n, k) => if (k == .free && sc.kind == .function && sc.names.lookup n == some .cell) then (n, .cell) else (n, k) }
def cloFrom (cells : List (Str × Addr)) : List (Str × NameKind) → List (Str × Addr) → List (Str × Addr)
  | [], acc => acc
  | (n, k) :: r, acc => if k == .free then cloFrom cells r ((n, (cells.lookup n).getD 0) :: acc) else cloFrom cells r acc
theorem closure_loop (env : Env) (f : Str × NameKind → List (Str × Addr) → Sem (ForInStep (List (Str × Addr))))
    (hf : ∀ n k c, f (n, k) c = if k == .free then (do let a ← cellOf env n; pure (.yield ((n, a) :: c))) else pure (.yield c)) :
    ∀ (names : List (Str × NameKind)) (acc : List (Str × Addr)), (∀ y ∈ names, y.2 = .free → ∃ c, env.cells.lookup y.1 = some c) → forIn names acc f = pure (cloFrom env.cells names acc)
  | [], acc, _ => by rw [List.forIn_nil]; rfl
  | (n, k) :: r, acc, h => by
    rw [List.forIn_cons, hf]
    have ih := fun acc => closure_loop env f hf r acc fun y hy => h y (List.mem_cons_of_mem _ hy)
    unfold cloFrom
    by_cases hk : (k == NameKind.free) = true
    · rw [if_pos hk, if_pos hk]
      obtain ⟨c, hc⟩ := h (n, k) List.mem_cons_self (by simpa using hk)
      have e : cellOf env n = pure c := by unfold cellOf; rw [hc]
      rw [e]
      have e2 : (env.cells.lookup n).getD 0 = c := by rw [hc]; rfl
      rw [e2]
      exact ih _
    · rw [if_neg hk, if_neg hk]
      exact ih _
theorem closure_ok {scope : Scope} {env : Env} (h : ∀ y ∈ scope.names, y.2 = .free → ∃ c, env.cells.lookup y.1 = some c) : closureFor scope env = pure (cloFrom env.cells scope.names []) := by
  simp only [closureFor]
  rw [closure_loop env _ (fun n k c => rfl) scope.names [] h]
  rfl
theorem mem_lookup {α : Type} : ∀ {l : List (Str × α)} {n : Str} {c : α}, (n, c) ∈ l → ∃ c', l.lookup n = some c'
  | (k, v) :: r, n, c, h => by
    rw [List.lookup_cons]
    cases hb : n == k with
    | true => exact ⟨_, rfl⟩
    | false =>
      rcases List.mem_cons.mp h with e | h
      · cases e; simp at hb
      · exact mem_lookup h
theorem cloFrom_mem {cells : List (Str × Addr)} : ∀ {names : List (Str × NameKind)} {acc : List (Str × Addr)} {n : Str} {c : Addr}, (n, c) ∈ cloFrom cells names acc → (n, c) ∈ acc ∨ ((n, .free) ∈ names ∧ c = (cells.lookup n).getD 0)
  | [], _, _, _, h => .inl h
  | (m, k) :: r, acc, n, c, h => by
    unfold cloFrom at h
    split at h
    · rename_i hk
      have hk : k = .free := by simpa using hk
      rcases cloFrom_mem h with h | ⟨h1, h2⟩
      · rcases List.mem_cons.mp h with e | h
        · cases e; exact .inr ⟨hk ▸ List.mem_cons_self, rfl⟩
        · exact .inl h
      · exact .inr ⟨List.mem_cons_of_mem _ h1, h2⟩
    · rcases cloFrom_mem h with h | ⟨h1, h2⟩
      · exact .inl h
      · exact .inr ⟨List.mem_cons_of_mem _ h1, h2⟩
theorem cloFrom_acc {cells : List (Str × Addr)} : ∀ {names : List (Str × NameKind)} {acc : List (Str × Addr)} {p : Str × Addr}, p ∈ acc → p ∈ cloFrom cells names acc
  | [], _, _, h => h
  | (m, k) :: r, acc, p, h => by
    unfold cloFrom
    split
    · exact cloFrom_acc (List.mem_cons_of_mem _ h)
    · exact cloFrom_acc h
theorem cloFrom_has {cells : List (Str × Addr)} : ∀ {names : List (Str × NameKind)} {acc : List (Str × Addr)} {n : Str}, (n, .free) ∈ names → (n, (cells.lookup n).getD 0) ∈ cloFrom cells names acc
  | (m, k) :: r, acc, n, h => by
    unfold cloFrom
    rcases List.mem_cons.mp h with e | h
    · cases e
      exact cloFrom_acc List.mem_cons_self
    · split
      · exact cloFrom_has h
      · exact cloFrom_has h
theorem cells_mem : ∀ {names : List (Str × NameKind)} {h : Heap} {acc : List (Str × Addr)} {x : Str} {c : Addr}, (x, c) ∈ cellsFrom h.objs.size names acc →
    (x, c) ∈ acc ∨ ((x, .cell) ∈ names ∧ h.objs.size ≤ c ∧ CellAt (pushCells h names) c none)
  | [], _, _, _, _, h => .inl h
  | (n, k) :: r, h, acc, x, c, hm => by
    unfold cellsFrom at hm
    unfold pushCells
    split at hm
    · rename_i hk
      rw [if_pos hk]
      have hk : k = .cell := by simpa using hk
      rw [← Heap.size_push h { cls := .type "cell", data := .cell none }] at hm
      rcases cells_mem hm with hm | ⟨h1, h2, h3⟩
      · rcases List.mem_cons.mp hm with e | hm
        · cases e
          exact .inr ⟨hk ▸ List.mem_cons_self, Nat.le_refl _, _, pushCells_keeps r _ _ _ (Heap.get?_push_size _ rfl), rfl⟩
        · exact .inl hm
      · rw [Heap.size_push] at h2
        exact .inr ⟨List.mem_cons_of_mem _ h1, Nat.le_of_succ_le h2, h3⟩
    · rename_i hk
      rw [if_neg hk]
      rcases cells_mem hm with hm | ⟨h1, h2, h3⟩
      · exact .inl hm
      · exact .inr ⟨List.mem_cons_of_mem _ h1, h2, h3⟩
theorem cells_acc : ∀ {names : List (Str × NameKind)} {n : Nat} {acc : List (Str × Addr)} {p : Str × Addr}, p ∈ acc → p ∈ cellsFrom n names acc
  | [], _, _, _, h => h
  | (m, k) :: r, n, acc, p, h => by
    unfold cellsFrom
    split
    · exact cells_acc (List.mem_cons_of_mem _ h)
    · exact cells_acc h
theorem cells_has : ∀ {names : List (Str × NameKind)} {n : Nat} {acc : List (Str × Addr)} {x : Str}, (x, .cell) ∈ names → ∃ c, (x, c) ∈ cellsFrom n names acc
  | (m, k) :: r, n, acc, x, h => by
    unfold cellsFrom
    rcases List.mem_cons.mp h with e | h
    · cases e
      exact ⟨n, cells_acc List.mem_cons_self⟩
    · split
      · exact cells_has h
      · exact cells_has h
theorem cells_inj : ∀ {names : List (Str × NameKind)} {h : Heap} {acc : List (Str × Addr)} {x y : Str} {c : Addr}, (∀ p ∈ acc, p.2 < h.objs.size) → (∀ x y c, (x, c) ∈ acc → (y, c) ∈ acc → x = y) →
    (x, c) ∈ cellsFrom h.objs.size names acc → (y, c) ∈ cellsFrom h.objs.size names acc → x = y
  | [], _, _, _, _, _, _, hi, h1, h2 => hi _ _ _ h1 h2
  | (n, k) :: r, h, acc, x, y, c, hl, hi, h1, h2 => by
    unfold cellsFrom at h1 h2
    split at h1
    · rename_i hk
      rw [if_pos hk] at h2
      rw [← Heap.size_push h { cls := .type "cell", data := .cell none }] at h1 h2
      refine cells_inj (h := h.push _) (fun p hp => ?_) (fun x y c a b => ?_) h1 h2
      · rw [Heap.size_push]
        rcases List.mem_cons.mp hp with rfl | hp
        · exact Nat.lt_succ_self _
        · exact Nat.lt_succ_of_lt (hl p hp)
      · rcases List.mem_cons.mp a with e | a <;> rcases List.mem_cons.mp b with e' | b
        · cases e; cases e'; rfl
        · cases e; exact absurd (hl _ b) (Nat.lt_irrefl _)
        · cases e'; exact absurd (hl _ a) (Nat.lt_irrefl _)
        · exact hi _ _ _ a b
    · rename_i hk
      rw [if_neg hk] at h2
      exact cells_inj hl hi h1 h2
theorem newEnv_comp {M : Model} {A : Around} {E : Value → Shared → Prop} {s : Shared} {scope : Scope} {globals : Addr} {closure : List (Str × Addr)} {qual : Str} {func : Option Addr} {code : Value} {around : Env} {builtins : Addr} {Q : Env → Shared → Prop}
    (h : Q (newEnv scope s.heap.objs.size globals (cellsFrom (s.heap.objs.size + 1) scope.names closure) qual func code (some around) builtins)
      { s with heap := pushCells (s.heap.push { cls := .type "dict", data := .dict #[] }) scope.names }) :
    wpAny M A (newFunctionEnv scope globals closure [] qual func code (some around) builtins) Q E s := by
  simp only [newFunctionEnv, Option.isSome_some, if_true]
  refine wpAny_bind (wpAny_alloc ?_)
  refine wpAny_bind (wpAny_layCells _ (fun n k c => rfl) scope.names closure _ _ ?_)
  rw [show ({ s with heap := s.heap.push { cls := .type "dict", data := .dict #[] } } : Shared).heap.objs.size = s.heap.objs.size + 1 from Heap.size_push ..]
  rw [List.forIn_nil]
  exact wpAny_bind (wpAny_pure (wpAny_pure h))
theorem lookup_relS {sc : Scope} : ∀ {names : List (Str × NameKind)} {x : Str} {k : NameKind},
    (names.map fun (n, k) => if (k == NameKind.free && sc.kind == .function && sc.names.lookup n == some .cell) then (n, NameKind.cell) else (n, k)).lookup x = some k →
    ∃ k', names.lookup x = some k' ∧ (k = k' ∨ (k' = .free ∧ k = .cell))
  | [], _, _, h => by simp at h
  | (n, k₀) :: r, x, k, h => by
    have ih := @lookup_relS sc r x k
    have h' : List.lookup x ((if (k₀ == NameKind.free && sc.kind == .function && sc.names.lookup n == some .cell) = true then (n, NameKind.cell) else (n, k₀)) :: (r.map _)) = some k := h
    cases hx : x == n with
    | true =>
      simp only [List.lookup_cons, hx]
      by_cases hc : (k₀ == NameKind.free && sc.kind == .function && sc.names.lookup n == some .cell) = true
      · rw [if_pos hc] at h'
        simp only [List.lookup_cons, hx] at h'
        cases h'
        simp only [Bool.and_eq_true, beq_iff_eq] at hc
        exact ⟨k₀, rfl, .inr ⟨hc.1.1, rfl⟩⟩
      · rw [if_neg hc] at h'
        simp only [List.lookup_cons, hx] at h'
        cases h'
        exact ⟨_, rfl, .inl rfl⟩
    | false =>
      simp only [List.lookup_cons, hx]
      by_cases hc : (k₀ == NameKind.free && sc.kind == .function && sc.names.lookup n == some .cell) = true
      · rw [if_pos hc] at h'
        simp only [List.lookup_cons, hx] at h'
        exact ih h'
      · rw [if_neg hc] at h'
        simp only [List.lookup_cons, hx] at h'
        exact ih h'
structure BlkOk (N : List Str) (sc scope : Scope) (own : List (Str × Nat)) : Prop where
  kind : scope.kind = .function
  uniq : ∀ y ∈ scope.names, scope.names.lookup y.1 = some y.2
  ix : ∀ p ∈ own, N[p.2]? = some p.1
  free : ∀ y ∈ scope.names, y.2 = .free → sc.names.lookup y.1 = some .cell ∨ sc.names.lookup y.1 = some .free
  own : ∀ y ∈ scope.names, y.2 = .local ∨ y.2 = .cell → y.1 ∈ own.map (·.1) ∨ y.1 ∉ N
def wipe (σ : St) : List Nat → St
  | [] => σ
  | v :: vs => (wipe σ vs).set v none
theorem wipe_length (σ : St) : ∀ vs : List Nat, (wipe σ vs).length = σ.length
  | [] => rfl
  | v :: vs => by unfold wipe; rw [List.length_set, wipe_length σ vs]
theorem wipe_some {σ : St} {i : Nat} {x : V} : ∀ {vs : List Nat}, (wipe σ vs)[i]? = some (some x) → σ[i]? = some (some x) ∧ i ∉ vs
  | [], h => ⟨h, by simp⟩
  | v :: vs, h => by
    unfold wipe at h
    by_cases hi : v = i
    · subst hi
      by_cases hv : v < (wipe σ vs).length
      · rw [List.getElem?_set_self hv] at h; cases h
      · rw [List.getElem?_eq_none (by simpa using hv)] at h; cases h
    · rw [List.getElem?_set_ne hi] at h
      obtain ⟨h1, h2⟩ := wipe_some h
      exact ⟨h1, by simp only [List.mem_cons, not_or]; exact ⟨fun e => hi e.symm, h2⟩⟩
abbrev Cx.blk (X : Cx) (s : Shared) (H : Hp) (scope : Scope) (cenv : Env) (fp : List Addr) : Cx := { X with s_0 := s, H_0 := H, env := cenv, outer := X.stack, ex := fp, fn := fun x => scope.names.lookup x == some .cell, pn := [], xe := fun _ _ => False }
section
variable {X : Cx} {pins : List (Addr × Obj)} {σ : St} {H : Hp} {s : Shared}
theorem block_start {scope : Scope} {own : List (Str × Nat)} {fp : List Addr} (I : Inv X pins σ H s) (ok : BlkOk X.N X.env.scope scope own) (hN : X.N.Nodup) (hfp : ∀ b ∈ fp, FpOk X pins H b ∧ b < s.heap.objs.size) :
    Inv (X.blk s H scope (compEnvC scope (cellsFrom (s.heap.objs.size + 1) scope.names (cloFrom X.env.cells scope.names [])) s.heap.objs.size X.env) fp) [] (wipe σ (own.map (·.2))) H { s with heap := pushCells (s.heap.push { cls := .type "dict", data := .dict #[] }) scope.names } := by
  have hfree : ∀ y ∈ scope.names, y.2 = .free → ∃ c, X.env.cells.lookup y.1 = some c := fun y hy e => by
    rcases ok.free y hy e with k | k
    · exact I.ok.has _ (.inl k)
    · exact I.ok.has _ (.inr k)
  generalize hcenv : compEnvC scope (cellsFrom (s.heap.objs.size + 1) scope.names (cloFrom X.env.cells scope.names [])) s.heap.objs.size X.env = cenv
  have kp : ∀ b o, s.heap.get? b = some o → (pushCells (s.heap.push { cls := .type "dict", data := .dict #[] }) scope.names).get? b = some o := fun b o e => pushCells_keeps _ _ _ _ (Heap.get?_push_of_some _ e)
  have hL : cenv.locals = s.heap.objs.size := by rw [← hcenv]; rfl
  have hcl : cenv.cells = cellsFrom (s.heap.objs.size + 1) scope.names (cloFrom X.env.cells scope.names []) := by rw [← hcenv]; rfl
  have hsc : cenv.scope = relS scope X.env.scope := by rw [← hcenv]; rfl
  rw [← Heap.size_push s.heap { cls := .type "dict", data := .dict #[] }] at hcl
  have cm : ∀ {y c}, (y, c) ∈ cloFrom X.env.cells scope.names [] → X.env.cells.lookup y = some c ∧ c < s.heap.objs.size := fun {y c} hm => by
    rcases cloFrom_mem hm with hm | ⟨h1, rfl⟩
    · cases hm
    · obtain ⟨c, hc⟩ := hfree _ h1 rfl
      rw [hc]
      obtain ⟨w, z⟩ := I.cell _ _ hc
      exact ⟨rfl, z.lt⟩
  have mem : ∀ {y c}, cenv.cells.lookup y = some c → (X.env.cells.lookup y = some c ∧ c < s.heap.objs.size) ∨ (s.heap.objs.size + 1 ≤ c ∧ CellAt (pushCells (s.heap.push { cls := .type "dict", data := .dict #[] }) scope.names) c none) := fun {y c} e => by
    rw [hcl] at e
    rcases cells_mem (PySem.mem_of_lookup e) with hm | ⟨_, h2, h3⟩
    · exact .inl (cm hm)
    · rw [Heap.size_push] at h2; exact .inr ⟨h2, h3⟩
  have look : ∀ {y}, scope.names.lookup y = some .free → ∃ c, cenv.cells.lookup y = some c ∧ X.env.cells.lookup y = some c := fun {y} hl => by
    have hy : (y, NameKind.free) ∈ scope.names := PySem.mem_of_lookup hl
    obtain ⟨c', e'⟩ := mem_lookup (cells_acc (names := scope.names) (n := (s.heap.push { cls := .type "dict", data := .dict #[] }).objs.size) (cloFrom_has (cells := X.env.cells) (acc := []) hy))
    rw [← hcl] at e'
    refine ⟨c', e', ?_⟩
    rw [hcl] at e'
    rcases cells_mem (PySem.mem_of_lookup e') with hm | ⟨h1, _, _⟩
    · exact (cm hm).1
    · have := ok.uniq _ h1
      rw [hl] at this; cases this
  have okB : (X.blk s H scope cenv fp).Ok := by
    refine ⟨I.ok.mod, by show cenv.scope.kind = _; rw [hsc]; exact ok.kind, by show cenv.globals = _; rw [← hcenv]; exact I.ok.glob, by show cenv.builtins = _; rw [← hcenv]; exact I.ok.blt, by show s.heap.objs.size ≤ cenv.locals; rw [hL]; exact Nat.le_refl _,
      fun y z c e1 e2 => ?_, fun y hy => ?_, fun y c z e => ?_, I.ok.hd, I.ok.frames, .inl rfl, fun b hb => ⟨?_, fun y c e z => ?_⟩, I.bs, Nat.le_trans I.ok.bsz I.sz, fun b o e hb => ?_, fun b hb z => ?_, I.stack, I.stkFree⟩
    · have e1 : cenv.cells.lookup y = some c := e1
      have e2 : cenv.cells.lookup z = some c := e2
      rw [hcl] at e1 e2
      refine cells_inj (fun p hp => ?_) (fun y z c a b => I.ok.inj y z c (cm a).1 (cm b).1) (PySem.mem_of_lookup e1) (PySem.mem_of_lookup e2)
      rw [Heap.size_push]
      exact Nat.lt_succ_of_lt (cm (y := p.1) (c := p.2) hp).2
    · show ∃ c, cenv.cells.lookup y = some c
      have key : ∀ k, cenv.kindOf y = some k → (k = .cell ∨ k = .free) → ∃ c, cenv.cells.lookup y = some c := fun k hk hk' => by
        unfold Env.kindOf at hk
        rw [hsc] at hk
        obtain ⟨k', e, r⟩ := lookup_relS hk
        have : k' = .cell ∨ k' = .free := by
          rcases r with rfl | ⟨rfl, _⟩
          · exact hk'
          · exact .inr rfl
        rcases this with rfl | rfl
        · obtain ⟨c, hm⟩ := cells_has (n := (s.heap.push { cls := .type "dict", data := .dict #[] }).objs.size) (acc := cloFrom X.env.cells scope.names []) (PySem.mem_of_lookup e)
          obtain ⟨c', e'⟩ := mem_lookup hm
          exact ⟨c', by rw [hcl]; exact e'⟩
        · obtain ⟨c, h1, _⟩ := look e
          exact ⟨c, h1⟩
      rcases hy with hy | hy
      · exact key _ hy (.inl rfl)
      · exact key _ hy (.inr rfl)
    · have z : (scope.names.lookup y == some NameKind.cell) = true := z
      have z : scope.names.lookup y = some .cell := by simpa using z
      have e : cenv.cells.lookup y = some c := e
      rw [hcl] at e
      rcases cells_mem (PySem.mem_of_lookup e) with hm | ⟨_, h2, _⟩
      · rcases cloFrom_mem hm with hm | ⟨h1, _⟩
        · cases hm
        · have q := ok.uniq _ h1
          rw [z] at q; cases q
      · rw [Heap.size_push] at h2
        exact Nat.le_of_succ_le h2
    · show b ≠ cenv.locals
      rw [hL]; exact Nat.ne_of_lt (hfp b hb).2
    · have e : cenv.cells.lookup y = some c := e
      rcases mem e with ⟨h1, _⟩ | ⟨h1, _⟩
      · exact (hfp b hb).1.2.2.2.2.1 y c h1 z
      · have h2 : s.heap.objs.size + 1 ≤ b := by rw [← z]; exact h1
        exact absurd (Nat.lt_of_lt_of_le (hfp b hb).2 (Nat.le_of_succ_le h2)) (Nat.lt_irrefl _)
    · rcases (hfp b hb).1.2.2.2.1 with z | z
      · exact I.ok.noex b o e z
      · exact absurd (Nat.lt_of_lt_of_le (Heap.lt_size e) (Nat.le_trans I.ok.bsz z)) (Nat.lt_irrefl _)
    · rcases List.mem_cons.mp (I.stkSub b z) with z | z
      · exact (hfp b hb).1.2.1 z
      · exact (hfp b hb).1.2.2.1 z
  refine ⟨okB, rfl, I.bare, Un.kept kp, ⟨fun _ => none, ?_, fun i y av e1 e2 e3 => ?_⟩, fun y c e => ?_, ?_, fun y c e => ?_, fun p hp => ?_, I.hok.kept kp, by rw [wipe_length]; exact I.len⟩
  · show Heap.Ns _ cenv.locals _
    rw [hL]
    exact Heap.Ns.keeps (Heap.Ns.new ..) fun b o e => pushCells_keeps _ _ _ _ e
  · obtain ⟨e2, hne⟩ := wipe_some e2
    have hfr : scope.names.lookup y = some .free ∧ (cenv.kindOf y = some .cell ∨ cenv.kindOf y = some .free) := by
      have key : ∀ k, cenv.scope.names.lookup y = some k → k = .local ∨ k = .cell ∨ k = .free → scope.names.lookup y = some .free ∧ (cenv.kindOf y = some .cell ∨ cenv.kindOf y = some .free) := fun k hk hk' => by
        have hk0 := hk
        rw [hsc] at hk
        obtain ⟨k', e, r⟩ := lookup_relS hk
        have no : ¬ (k' = .local ∨ k' = .cell) := fun hh => by
          rcases ok.own _ (PySem.mem_of_lookup e) hh with e' | e'
          · obtain ⟨p, hp, hpy⟩ := List.mem_map.mp e'
            have e3 := ok.ix p hp
            have : p.1 = y := hpy
            rw [this] at e3
            exact hne (List.mem_map.mpr ⟨p, hp, nodup_ix hN e3 e1⟩)
          · exact e' (List.mem_of_getElem? e1)
        rcases r with rfl | ⟨rfl, rfl⟩
        · rcases hk' with rfl | rfl | rfl
          · exact absurd (.inl rfl) no
          · exact absurd (.inr rfl) no
          · exact ⟨e, .inr hk0⟩
        · exact ⟨e, .inl hk0⟩
      have e3 : Vis cenv.scope y := e3
      rcases e3 with e3 | e3 | e3
      · exact key _ e3 (.inl rfl)
      · exact key _ e3 (.inr (.inl rfl))
      · exact key _ e3 (.inr (.inr rfl))
    obtain ⟨m, hn, hl⟩ := I.loc
    have hvis : Vis X.env.scope y := (ok.free _ (PySem.mem_of_lookup hfr.1) rfl).elim (fun k => .inr (.inl k)) (fun k => .inr (.inr k))
    obtain ⟨w, r, q⟩ := hl i y av e1 e2 hvis
    refine ⟨w, r, .inr ⟨hfr.2, ?_⟩⟩
    obtain ⟨c, h1, h2⟩ := look hfr.1
    rcases q with ⟨k, _⟩ | ⟨_, c', e', z⟩
    · have k : X.env.scope.names.lookup y = some .local := k
      rcases ok.free _ (PySem.mem_of_lookup hfr.1) rfl with k' | k' <;> rw [show X.env.scope.names.lookup y = _ from k'] at k <;> cases k
    · rw [h2] at e'; cases e'
      exact ⟨c, h1, z.keeps kp⟩
  · have e : cenv.cells.lookup y = some c := e
    rcases mem e with ⟨h1, _⟩ | ⟨_, z⟩
    · obtain ⟨w, z⟩ := I.cell y c h1
      exact ⟨w, z.keeps kp⟩
    · exact ⟨_, z⟩
  · show H cenv.locals = none
    rw [hL]; exact I.hok.fresh (Nat.le_refl _)
  · have e : cenv.cells.lookup y = some c := e
    rcases mem e with ⟨h1, _⟩ | ⟨h1, _⟩
    · exact I.freeC y c h1
    · exact I.hok.fresh (Nat.le_of_succ_le h1)
  · exact absurd (show p ∈ ([] : List (Addr × Obj)) ++ [] from hp) (by simp)
theorem app_ok {E : Value → Shared → Prop} {D : Addr} {xs : List V} {y : V} {v : Value} {Q : Value → Shared → Prop} (I : Inv X pins σ H s) (hD : H D = some (.lst xs)) (hz : xs.length < sizeLine) (r : RelV y v)
    (h : ∀ s', Inv X pins σ (upd H D (.lst (xs ++ [y]))) s' → Q .none s') : wpAny (model X.prog X.w) X.A (call (.builtin "list.append") [.ref D, v]) Q E s := by
  obtain ⟨hz', its, n, ri, e⟩ := I.hok D _ hD
  have hl := ri.length
  refine append_at (hsz := by rw [List.size_toArray]; omega) e fun h' sb ho' => ?_
  refine h { s with heap := h' } (I.write (t' := s.toks) (by rw [hD]; trivial) (.inl rfl) (fun b u hb q => (sb.2 b hb).trans q) ⟨_, ho'⟩ ⟨by rw [List.length_append]; exact hz, its ++ [v], n + 1, ri.append (.cons r .nil), ?_⟩)
  rw [ho']
  simp
def PTs (X : Cx) (ifs : List Expr) (t : TT) : Prop :=
  ∀ (pins : List (Addr × Obj)) (s : Shared) (σ : St) (H : Hp) (Q : Bool → Hp → Prop), Inv X pins σ H s → t σ H Q →
    wpAny (model X.prog X.w) X.A (forIn ifs true fun c r => if r = true then do let ok ← isTrue c X.env (eval c X.env); pure (ForInStep.yield ok) else pure (ForInStep.yield r)) (TP X pins σ Q) X.xe s
def tYes : TT := fun _ H Q => Q true H
theorem pts_nil : PTs X [] tYes := fun _ _ _ H _ I h => wpAny_tests_nil ⟨H, I, h⟩
theorem pts_one {c : Expr} {t : TT} (h : PT X c t) : PTs X [c] t := fun pins s σ H Q I hw => wpAny_tests_one (h pins s σ H Q I hw)
end
theorem thnF {α : Type} {t : Sem α} {Q Q' : α → Shared → Prop} {M : Model} {A : Around} {E : Value → Shared → Prop} {s : Shared} (h : wpAny M A t Q (fun _ _ => False) s) (hQ : ∀ a s, Q a s → Q' a s) : wpAny M A t Q' E s := wpAny_mono h hQ fun _ _ z => False.elim z
theorem compLoop_any {prog : Program} {w : World} {A : Around} {R : Result → Shared → Prop} {s : Shared} {elt target iter : Expr} {ifs : List Expr} {scope : Scope} {pos : Pos} {it acc : Value} {env : Env} (I : Nat → Shared → Prop)
    (turn : ∀ n s, I n s → wpAny (model prog w) A (pyNext it) (fun r s₁ => match r with
      | none => R (.ok .next) s₁
      | some v => wpAny (model prog w) A (letOwnedTupleGo target it v) (fun _ s₁' => wpAny (model prog w) A (assign target env v) (fun _ s₂ =>
          wpAny (model prog w) A (forIn ifs true fun c r => if r = true then do let ok ← isTrue c env (eval c env); pure (ForInStep.yield ok) else pure (ForInStep.yield r)) (fun ok s₃ =>
            if ok = true then wpAny (model prog w) A (eval elt env) (fun x s₄ =>
              wpAny (model prog w) A (call (.builtin "list.append") [acc, x]) (fun _ s₅ => ∃ m, m < n ∧ I m s₅) (notedBy (model prog w) A env fun e s' => R (.error e) s') s₄) (notedBy (model prog w) A env fun e s' => R (.error e) s') s₃
            else ∃ m, m < n ∧ I m s₃) (notedBy (model prog w) A env fun e s' => R (.error e) s') s₂) (notedBy (model prog w) A env fun e s' => R (.error e) s') s₁') (notedBy (model prog w) A env fun e s' => R (.error e) s') s₁) (notedBy (model prog w) A env fun e s' => R (.error e) s') s)
    (n : Nat) (h : I n s) :
    codeAny (model prog w) A (.compLoop (.ListComp elt [⟨target, iter, ifs, 0⟩] scope pos) 0 it acc env) R s := by
  refine codeAny_loop rfl I (fun n s hI => ?_) n h
  show wpAny _ A ((compTurn (.ListComp elt [⟨target, iter, ifs, 0⟩] scope pos) 0 it acc env).onRaise (fun x => do noteFrame x env; theTreesLotGoes x)) _ _ s
  refine wpAny_noted ?_
  rw [compTurn_list]
  refine wpAny_bind (wpAny_standAt (wpAny_bind (wpAny_mono (turn n s hI) (fun r s₁ h₁ => ?_) fun _ _ h' => h')))
  cases r with
  | none => exact wpAny_pure h₁
  | some v =>
    refine wpAny_bind (wpAny_mono h₁ (fun _ s₁' h₁' => ?_) fun _ _ h' => h')
    refine wpAny_bind (wpAny_mono h₁' (fun _ s₂ h₂ => wpAny_bind (wpAny_mono h₂ (fun ok s₃ h₃ => ?_) fun _ _ h' => h')) fun _ _ h' => h')
    cases ok with
    | false => exact wpAny_pure ⟨rfl, h₃⟩
    | true =>
      exact wpAny_bind (wpAny_bind (wpAny_mono h₃ (fun x s₄ h₄ => wpAny_bind (wpAny_mono h₄ (fun _ s₅ h₅ => wpAny_pure (wpAny_pure ⟨rfl, h₅⟩)) fun _ _ h' => h')) fun _ _ h' => h'))
section
variable {X : Cx}
def tLc (wi : TI) (g : TG) (tt : TT) (te : TE) (vs : List Nat) : TE := fun σ H Q => wi σ H fun J H1 => ∀ D, H1 D = none → ∃ W : Nat → Nat → Hp → Prop, (∃ m, W 0 m (upd H1 D (.lst []))) ∧ ∀ i m H, W i m H →
  (J.stop i H ∧ Q (.ref D) H) ∨ (J.go i H ∧ ∃ Nx : Hp → Prop, (∀ H', Nx H' → ∃ m', m' < m ∧ W (i + 1) m' H') ∧ ∀ x H', J.yld i H x H' → g x (wipe σ vs) H' fun σ2 H2 => wipe σ2 vs = wipe σ vs ∧ tt σ2 H2 fun b H3 =>
    if b = true then te σ2 H3 fun y H4 => ∃ acc, H4 D = some (.lst acc) ∧ acc.length < sizeLine ∧ Nx (upd H4 D (.lst (acc ++ [y]))) else Nx H3)
theorem lc_core {pins : List (Addr × Obj)} {s : Shared} {σ : St} {H : Hp} {Q : VK} {elt tg iter : Expr} {ifs : List Expr} {scope : Scope} {own : List (Str × Nat)} {pos pos' : Pos} {wi : TI} {g : TG} {tt : TT} {te : TE} {use : Option (Value → Sem Unit)} {Qf : Value → Shared → Prop}
    (hc : X.calm = true) (hN : X.N.Nodup) (I : Inv X pins σ H s) (hi : PI X tg iter wi) (ok : BlkOk X.N X.env.scope scope own)
    (hg : ∀ (s : Shared) (H : Hp) (C : Addr) (cl : List (Str × Addr)) (fp : List Addr), PG (X.blk s H scope (compEnvC scope cl C X.env) fp) tg g) (ht : ∀ (s : Shared) (H : Hp) (C : Addr) (cl : List (Str × Addr)) (fp : List Addr), PTs (X.blk s H scope (compEnvC scope cl C X.env) fp) ifs tt)
    (he : ∀ (s : Shared) (H : Hp) (C : Addr) (cl : List (Str × Addr)) (fp : List Addr), PE (X.blk s H scope (compEnvC scope cl C X.env) fp) elt te) (hs : ∀ x, foldedSetIterable iter X.env x = pure x)
    (h : tLc wi g tt te (own.map (·.2)) σ H Q)
    (hRR : ∀ D C s' m H', Inv X pins σ H' s' → Q (.ref D) H' → s'.heap.Ns C m → FpOk X pins H' C → compPost (model X.prog X.w) X.A X.xe use Qf (.ref D) C (.ok .next) s') :
    wpAny (model X.prog X.w) X.A (comprehension (.ListComp elt [⟨tg, iter, ifs, 0⟩] scope pos) scope X.env pos' (newList []) false (eval iter X.env) use) Qf X.xe s := by
  have hfree : ∀ y ∈ scope.names, y.2 = .free → ∃ c, X.env.cells.lookup y.1 = some c := fun y hy e => by
    rcases ok.free y hy e with k | k
    · exact I.ok.has _ (.inl k)
    · exact I.ok.has _ (.inr k)
  refine wpAny_comprehension_free (use := use) rfl hs (closure_ok hfree) ok.kind (fun y hy e => by rw [ok.uniq y hy, e])
    (thn (hi pins s σ H _ I h) fun xv s1 hx => thn hx fun itv s2 h2 => ?_)
  obtain ⟨it, fp, tn, J, H2, e, I2, T, st2, f2, q⟩ := h2
  subst e
  refine wpAny_newObj_type (newEnv_comp ?_) (by show 0 ≤ sizeLine; decide)
  generalize hD : s2.heap.objs.size = D
  have hDn : H2 D = none := I2.hok.fresh (Nat.le_of_eq hD)
  obtain ⟨W, ⟨m0, w0⟩, turn⟩ := q D hDn
  -- the new list
  generalize hs3 : ({ s2 with heap := s2.heap.push { cls := .type "list", data := .seq ([] : List Value).toArray } } : Shared) = s3
  have I3 : Inv X pins σ (upd H2 D (.lst [])) s3 := by
    rw [← hs3]
    refine I2.laid (t' := s2.toks) (fun b o e => Heap.get?_push_of_some _ e) (Nat.le_of_eq hD) ⟨Nat.zero_le _, [], 0, .nil, ?_⟩
    rw [← hD]
    exact Heap.get?_push_size _ rfl
  have h3 : s3.heap = s2.heap.push { cls := .type "list", data := .seq ([] : List Value).toArray } := by rw [← hs3]
  have sz : ∀ b ∈ fp, b < s2.heap.objs.size := fun b hb => by
    obtain ⟨o, e, _⟩ := T.obj _ _ st2 b hb
    exact Heap.lt_size e
  have f3 : ∀ b ∈ fp, FpOk X pins (upd H2 D (.lst [])) b ∧ b < s3.heap.objs.size := fun b hb => by
    have hlt := sz b hb
    refine ⟨⟨?_, (f2 b hb).2⟩, by rw [h3, Heap.size_push]; exact Nat.lt_succ_of_lt hlt⟩
    rw [upd_ne (by rw [← hD]; exact Nat.ne_of_lt hlt)]
    exact (f2 b hb).1
  have st3 : tn 0 s3.heap := T.keep _ _ _ st2 fun b _ o e => by rw [h3]; exact Heap.get?_push_of_some _ e
  have I4 := block_start I3 ok hN f3
  have pg := hg s3 (upd H2 D (.lst [])) s3.heap.objs.size (cellsFrom (s3.heap.objs.size + 1) scope.names (cloFrom X.env.cells scope.names [])) fp
  have pt := ht s3 (upd H2 D (.lst [])) s3.heap.objs.size (cellsFrom (s3.heap.objs.size + 1) scope.names (cloFrom X.env.cells scope.names [])) fp
  have pe := he s3 (upd H2 D (.lst [])) s3.heap.objs.size (cellsFrom (s3.heap.objs.size + 1) scope.names (cloFrom X.env.cells scope.names [])) fp
  show codeAny _ _ (.compStart (.ListComp elt [⟨tg, iter, ifs, 0⟩] scope pos) 0 (.ref it) (.ref D) (compEnvC scope (cellsFrom (s3.heap.objs.size + 1) scope.names (cloFrom X.env.cells scope.names [])) s3.heap.objs.size X.env)) (compPost (model X.prog X.w) X.A X.xe use Qf (.ref D) s3.heap.objs.size) { s3 with heap := pushCells (s3.heap.push { cls := .type "dict", data := .dict #[] }) scope.names }
  have nfp : ∀ b ∈ fp, (upd H2 D (.lst [])) b = none := fun b hb => (f3 b hb).1.1
  generalize hce : compEnvC scope (cellsFrom (s3.heap.objs.size + 1) scope.names (cloFrom X.env.cells scope.names [])) s3.heap.objs.size X.env = ce at I4 pg pt pe ⊢
  have cL : ce.locals = s3.heap.objs.size := by subst hce; rfl
  generalize hH3 : upd H2 D (.lst []) = H3 at I3 I4 pg pt pe w0 nfp f3
  generalize hs4 : ({ s3 with heap := pushCells (s3.heap.push { cls := .type "dict", data := .dict #[] }) scope.names } : Shared) = s4 at I4 ⊢
  have st4 : tn 0 s4.heap := T.keep _ _ _ st3 fun b _ o e => by rw [← hs4]; exact pushCells_keeps _ _ _ _ (Heap.get?_push_of_some _ e)
  have stat : ∀ {σ' : St} {H' : Hp} {s' : Shared}, Inv (X.blk s3 H3 scope ce fp) [] σ' H' s' → (∀ b ∈ fp, H' b = none) → ∀ b ∈ fp, FpOk (X.blk s3 H3 scope ce fp) [] H' b := fun {σ' H' s'} I' hn b hb =>
    ⟨hn b hb, (I'.ok.exf b hb).1, I'.ok.exfs b hb, .inl hb, fun x c e => (I'.ok.exf b hb).2 x c e, fun p hp => absurd (show p ∈ ([] : List (Addr × Obj)) ++ [] from hp) (by simp)⟩
  have loop : codeAny (model X.prog X.w) X.A (.compLoop (.ListComp elt [⟨tg, iter, ifs, 0⟩] scope pos) 0 (.ref it) (.ref D) ce) (compPost (model X.prog X.w) X.A X.xe use Qf (.ref D) s3.heap.objs.size) s4 := by
    refine compLoop_any (fun n s' => ∃ i H', Inv (X.blk s3 H3 scope ce fp) [] (wipe σ (own.map (·.2))) H' s' ∧ tn i s'.heap ∧ (∀ b ∈ fp, H' b = none) ∧ W i n H') ?_ m0 ⟨0, H3, I4, st4, nfp, w0⟩
    rintro n s5 ⟨i, H5, I5, st5, n5, w5⟩
    rcases turn i n H5 w5 with ⟨stop, qq⟩ | ⟨go, Nx, hNx, step⟩
    · have td := T.done (X.blk s3 H3 scope ce fp) rfl rfl rfl hc i [] s5 _ H5 (fun _ _ => False) I5 (stat I5 n5) st5 stop
      refine thnF td fun r s6 ⟨hr, I6⟩ => ?_
      subst hr
      -- back in the def's context
      have I7 : Inv X pins σ H5 s6 := I3.call' (ch := fp) I6.os I6.base I6.hok I6.bare fun b hb => ⟨(f3 b hb).1.2.2.2.1, (f3 b hb).1.2.1, (f3 b hb).1.2.2.2.2.1, (f3 b hb).1.2.2.2.2.2⟩
      have nC : H5 s3.heap.objs.size = none := by
        have z : H5 ce.locals = none := I6.free
        rw [cL] at z
        exact z
      obtain ⟨m, hn, _⟩ := I6.loc
      have hn : s6.heap.Ns ce.locals m := hn
      rw [cL] at hn
      exact hRR D s3.heap.objs.size s6 m H5 I7 qq hn (I3.fpOk (Nat.le_refl _) nC)
    · have ti := T.item (X.blk s3 H3 scope ce fp) rfl rfl rfl hc i [] s5 _ H5 (fun _ _ => False) I5 (stat I5 n5) st5 go
      refine thnF ti fun r s6 ⟨u, hr, h6⟩ => ?_
      subst hr
      refine thnF h6 fun _ s7 ⟨x, H7, I7, r7, y7, st7, n7⟩ => ?_
      have I7' := I7.pinned (stat I7 n7) (T.obj _ _ st7)
      refine thnF (pg _ s7 _ H7 x u _ I7' r7 (step x H7 y7)) fun _ s8 ⟨σ8, H8, I8, hw8, q8⟩ => ?_
      refine thnF (pt _ s8 σ8 H8 _ I8 q8) fun b s9 ⟨H9, I9, q9⟩ => ?_
      -- the turn's end
      have fin : ∀ {s' : Shared} {H' : Hp}, Inv (X.blk s3 H3 scope ce fp) ([] ++ pinsAt fp s7.heap) σ8 H' s' → Nx H' → ∃ m, m < n ∧ ∃ i H', Inv (X.blk s3 H3 scope ce fp) [] (wipe σ (own.map (·.2))) H' s' ∧ tn i s'.heap ∧ (∀ b ∈ fp, H' b = none) ∧ W i m H' := fun {s' H'} I' nx => by
        obtain ⟨m', hm, w'⟩ := hNx H' nx
        have pin' : ∀ b ∈ fp, ∀ o, s7.heap.get? b = some o → s'.heap.get? b = some o ∧ H' b = none := fun b hb o e =>
          let z := I'.pin (b, o) (List.mem_append_right _ (List.mem_append_right _ (mem_pinsAt hb e)))
          ⟨z.1, z.2.1⟩
        have hl : (wipe σ (own.map (·.2))).length = σ8.length := by rw [← hw8, wipe_length]
        refine ⟨m', hm, i + 1, H', (I'.unpinned (pins := [])).weak hl (fun j v e => ?_), T.keep _ _ _ st7 fun b hb o e => (pin' b hb o e).1, fun b hb => ?_, w'⟩
        · rw [← hw8] at e
          exact (wipe_some e).1
        · obtain ⟨o, e, _⟩ := T.obj _ _ st7 b hb
          exact (pin' b hb o e).2
      cases b with
      | false =>
        simp only [Bool.false_eq_true, if_false] at q9 ⊢
        exact fin I9 q9
      | true =>
        simp only [if_true] at q9 ⊢
        refine thnF (pe _ s9 σ8 H9 _ I9 q9) fun z s10 ⟨yv, H10, I10, r10, acc, hD10, hz10, nx⟩ => ?_
        exact app_ok (X := X.blk s3 H3 scope ce fp) I10 hD10 hz10 r10 fun s11 I11 => fin I11 nx
  exact codeAny_compStart_list loop (T.self X.A 0 _ _ _ st4 loop)
theorem pe_lc {elt tg iter : Expr} {ifs : List Expr} {scope : Scope} {own : List (Str × Nat)} {pos : Pos} {wi : TI} {g : TG} {tt : TT} {te : TE} (hc : X.calm = true) (hN : X.N.Nodup) (hi : PI X tg iter wi) (ok : BlkOk X.N X.env.scope scope own)
    (hg : ∀ (s : Shared) (H : Hp) (C : Addr) (cl : List (Str × Addr)) (fp : List Addr), PG (X.blk s H scope (compEnvC scope cl C X.env) fp) tg g) (ht : ∀ (s : Shared) (H : Hp) (C : Addr) (cl : List (Str × Addr)) (fp : List Addr), PTs (X.blk s H scope (compEnvC scope cl C X.env) fp) ifs tt)
    (he : ∀ (s : Shared) (H : Hp) (C : Addr) (cl : List (Str × Addr)) (fp : List Addr), PE (X.blk s H scope (compEnvC scope cl C X.env) fp) elt te) (hs : ∀ x, foldedSetIterable iter X.env x = pure x := by intro _; rfl) :
    PE X (.ListComp elt [⟨tg, iter, ifs, 0⟩] scope pos) (tLc wi g tt te (own.map (·.2))) := by
  intro pins s σ H Q I h
  rw [eval_ListComp]
  refine lc_core hc hN I hi ok hg ht he hs h fun D C s' m H' I' q hn f => ⟨m, hn, fun h'' sb => ?_⟩
  obtain ⟨f0, f1, f2, f3, f4, f5⟩ := f
  exact ⟨.ref D, H', I'.turned (t' := s'.toks) (fun b o hb e => (sb.2 b hb).trans e) f0 f1 f3 f4 f5, rfl, q⟩
theorem ps_setLc {i : Nat} {y : Str} {py : Pos} {elt tg iter : Expr} {ifs : List Expr} {scope : Scope} {own : List (Str × Nat)} {pos spos : Pos} {wi : TI} {g : TG} {tt : TT} {te : TE} (hc : X.calm = true) (hN : X.N.Nodup) (hy : X.N[i]? = some y) (hyl : X.env.scope.names.lookup y = some .local)
    (hsw : swapsWith (.ListComp elt [⟨tg, iter, ifs, 0⟩] scope pos) (some (.Name y py)) spos.line X.env = pure true) (hi : PI X tg iter wi) (ok : BlkOk X.N X.env.scope scope own)
    (hg : ∀ (s : Shared) (H : Hp) (C : Addr) (cl : List (Str × Addr)) (fp : List Addr), PG (X.blk s H scope (compEnvC scope cl C X.env) fp) tg g) (ht : ∀ (s : Shared) (H : Hp) (C : Addr) (cl : List (Str × Addr)) (fp : List Addr), PTs (X.blk s H scope (compEnvC scope cl C X.env) fp) ifs tt)
    (he : ∀ (s : Shared) (H : Hp) (C : Addr) (cl : List (Str × Addr)) (fp : List Addr), PE (X.blk s H scope (compEnvC scope cl C X.env) fp) elt te) (hs : ∀ x, foldedSetIterable iter X.env x = pure x := by intro _; rfl) :
    PS X (.Assign [.Name y py] (.ListComp elt [⟨tg, iter, ifs, 0⟩] scope pos) spos) (tAsg (tLc wi g tt te (own.map (·.2))) (gName i)) := by
  intro pins s σ H D I h
  rw [exec_Assign_Name_used _ _ _ _ hsw]
  refine wpAny_bind (wpAny_standAt (wpAny_bind ?_))
  show wpAny _ X.A (do let _ ← comprehension (.ListComp elt [⟨tg, iter, ifs, 0⟩] scope pos) scope X.env (firstIterPos [⟨tg, iter, ifs, 0⟩] pos) (newList []) false (eval iter X.env) (some (assign (.Name y py) X.env))) _ _ s
  have h : tLc wi g tt te (own.map (·.2)) σ H (fun x H1 => gName i x σ H1 D.nx) := h
  refine wpAny_bind (thn (lc_core (Qf := fun _ s' => SP X pins D .next s') hc hN I hi ok hg ht he hs h fun L C s' m H' I' q hn f => ?_) fun _ s' hq => wpAny_pure (wpAny_pure hq))
  show wpAny _ _ (assign (.Name y py) X.env (.ref L)) _ _ _
  refine wpAny_assign_Name (store_ok2 (v := V.ref L) I' hN hy (.inl hyl) rfl (fun s2 I2 ⟨a, sb, ha⟩ => ?_) (.inr hyl))
  obtain ⟨f0, f1, f2, f3, f4, f5⟩ := f
  have haC : C ≠ a := by
    rcases ha with z | z
    · rw [z]; exact f1
    · exact fun e => f4 y a z e.symm
  refine ⟨m, hn.sameBut sb haC, fun h3 sb3 => ?_⟩
  exact ⟨_, H', I2.turned (t' := s2.toks) (fun b o hb e => (sb3.2 b hb).trans e) f0 f1 f3 f4 f5, q⟩
end
theorem lc_list {K : PySem.W.Frag} {a : Addr} {xs : List V} {g : TG} {tt : TT} {te : TE} {vs : List Nat} {σ : St} {H1 : Hp} {D : Addr} {Qd : Hp → Prop} (Pv : Nat → Hp → Prop) (h0 : Pv 0 (upd H1 D (.lst []))) (hl : ∀ i H, i ≤ xs.length → Pv i H → SqL K H a xs)
    (hs : ∀ i x H, xs[i]? = some x → Pv i H → g x (wipe σ vs) H fun σ2 H2 => wipe σ2 vs = wipe σ vs ∧ tt σ2 H2 fun b H3 =>
      if b = true then te σ2 H3 fun y H4 => ∃ acc, H4 D = some (.lst acc) ∧ acc.length < sizeLine ∧ Pv (i + 1) (upd H4 D (.lst (acc ++ [y]))) else Pv (i + 1) H3) (hd : ∀ H, Pv xs.length H → Qd H) :
    ∃ W : Nat → Nat → Hp → Prop, (∃ m, W 0 m (upd H1 D (.lst []))) ∧ ∀ i m H, W i m H →
      ((Itl K a).stop i H ∧ Qd H) ∨ ((Itl K a).go i H ∧ ∃ Nx : Hp → Prop, (∀ H', Nx H' → ∃ m', m' < m ∧ W (i + 1) m' H') ∧ ∀ x H', (Itl K a).yld i H x H' → g x (wipe σ vs) H' fun σ2 H2 => wipe σ2 vs = wipe σ vs ∧ tt σ2 H2 fun b H3 =>
        if b = true then te σ2 H3 fun y H4 => ∃ acc, H4 D = some (.lst acc) ∧ acc.length < sizeLine ∧ Nx (upd H4 D (.lst (acc ++ [y]))) else Nx H3) := by
  refine ⟨fun i m H => m = xs.length - i ∧ i ≤ xs.length ∧ Pv i H, ⟨xs.length, by simp, Nat.zero_le _, h0⟩, ?_⟩
  rintro i m H ⟨rfl, hi, p⟩
  have q := hl i H hi p
  by_cases hlt : i < xs.length
  · refine .inr ⟨⟨xs, xs[i], q, by simp [hlt]⟩, Pv (i + 1), fun H' p' => ⟨xs.length - (i + 1), by omega, rfl, hlt, p'⟩, fun x H' y => ?_⟩
    obtain ⟨e, y⟩ := y
    subst e
    exact hs i x _ (y xs q) p
  · have e : i = xs.length := by omega
    subst e
    exact .inl ⟨⟨xs, q, Nat.le_refl _⟩, hd H p⟩
theorem lc_tup {K : PySem.W.Frag} {a : Addr} {xs : List V} {g : TG} {tt : TT} {te : TE} {vs : List Nat} {σ : St} {H1 : Hp} {D : Addr} {Qd : Hp → Prop} (Pv : Nat → Hp → Prop) (h0 : Pv 0 (upd H1 D (.lst []))) (hl : ∀ i H, i ≤ xs.length → Pv i H → SqT K H a xs)
    (hs : ∀ i x H, xs[i]? = some x → Pv i H → g x (wipe σ vs) H fun σ2 H2 => wipe σ2 vs = wipe σ vs ∧ tt σ2 H2 fun b H3 =>
      if b = true then te σ2 H3 fun y H4 => ∃ acc, H4 D = some (.lst acc) ∧ acc.length < sizeLine ∧ Pv (i + 1) (upd H4 D (.lst (acc ++ [y]))) else Pv (i + 1) H3) (hd : ∀ H, Pv xs.length H → Qd H) :
    ∃ W : Nat → Nat → Hp → Prop, (∃ m, W 0 m (upd H1 D (.lst []))) ∧ ∀ i m H, W i m H →
      ((Itt K a).stop i H ∧ Qd H) ∨ ((Itt K a).go i H ∧ ∃ Nx : Hp → Prop, (∀ H', Nx H' → ∃ m', m' < m ∧ W (i + 1) m' H') ∧ ∀ x H', (Itt K a).yld i H x H' → g x (wipe σ vs) H' fun σ2 H2 => wipe σ2 vs = wipe σ vs ∧ tt σ2 H2 fun b H3 =>
        if b = true then te σ2 H3 fun y H4 => ∃ acc, H4 D = some (.lst acc) ∧ acc.length < sizeLine ∧ Nx (upd H4 D (.lst (acc ++ [y]))) else Nx H3) := by
  refine ⟨fun i m H => m = xs.length - i ∧ i ≤ xs.length ∧ Pv i H, ⟨xs.length, by simp, Nat.zero_le _, h0⟩, ?_⟩
  rintro i m H ⟨rfl, hi, p⟩
  have q := hl i H hi p
  by_cases hlt : i < xs.length
  · refine .inr ⟨⟨xs, xs[i], q, by simp [hlt]⟩, Pv (i + 1), fun H' p' => ⟨xs.length - (i + 1), by omega, rfl, hlt, p'⟩, fun x H' y => ?_⟩
    obtain ⟨e, y⟩ := y
    subst e
    exact hs i x _ (y xs q) p
  · have e : i = xs.length := by omega
    subst e
    exact .inl ⟨⟨xs, q, Nat.le_refl _⟩, hd H p⟩
def blkC (N : List Str) (sc scope : Scope) (own : List (Str × Nat)) : Bool :=
  (match scope.kind with | .function => true | _ => false) && (scope.names.all fun y => decide (scope.names.lookup y.1 = some y.2)) && (own.all fun p => decide (N[p.2]? = some p.1)) &&
    (scope.names.all fun y => match y.2 with
      | .free => (match sc.names.lookup y.1 with | some .cell => true | some .free => true | _ => false)
      | .local => decide (y.1 ∈ own.map (·.1)) || decide (y.1 ∉ N)
      | .cell => decide (y.1 ∈ own.map (·.1)) || decide (y.1 ∉ N)
      | _ => true)
theorem blkOk_by {N : List Str} {sc scope : Scope} {own : List (Str × Nat)} (h : blkC N sc scope own = true) : BlkOk N sc scope own := by
  unfold blkC at h
  simp only [Bool.and_eq_true, List.all_eq_true, decide_eq_true_eq] at h
  obtain ⟨⟨⟨h1, h2⟩, h3⟩, h4⟩ := h
  refine ⟨?_, h2, h3, fun y hy e => ?_, fun y hy e => ?_⟩
  · split at h1
    · assumption
    · cases h1
  · have q := h4 y hy
    simp only [e] at q
    split at q <;> first | exact .inl (by assumption) | exact .inr (by assumption) | cases q
  · have q := h4 y hy
    rcases e with e | e <;> (simp only [e, Bool.or_eq_true, decide_eq_true_eq] at q; exact q)
end L2
namespace L2
open PySem PySem.Spec PyProof.Rows
section
variable {prog : Program} {w : World} {A : Around} {R : Result → Shared → Prop} {s : Shared} {elt t0 i0 t1 i1 : Expr} {ifs0 ifs1 : List Expr} {scope : Scope} {pos : Pos} {it acc : Value} {env : Env}
end
section
variable {X : Cx}
end
end L2
namespace L2
open PySem PySem.Spec PyProof.Rows
section
variable {κ : Type} [DecidableEq κ]
def valV (kvs : List (κ × V)) (k : κ) : Option V := (kvs.find? fun kv => decide (kv.1 = k)).map (·.2)
theorem valV_pos {p : κ × V} {r : List (κ × V)} {k : κ} (e : p.1 = k) : valV (p :: r) k = some p.2 := by simp [valV, List.find?_cons, e]
theorem valV_neg {p : κ × V} {r : List (κ × V)} {k : κ} (e : ¬ p.1 = k) : valV (p :: r) k = valV r k := by simp [valV, List.find?_cons, e]
theorem KV.val {kvs : List (κ × V)} {vs : List (κ × Value)} (r : KV kvs vs) (k : κ) : RelO (valV kvs k) (valueAt vs k) := by
  unfold KV at r
  induction r with
  | nil => exact True.intro
  | @cons p q ps qs h t ih =>
    obtain ⟨h1, h2⟩ := h
    by_cases e : p.1 = k
    · have e' : q.1 = k := h1.symm.trans e
      have b : valueAt (q :: qs) k = some q.2 := by simp [valueAt, List.find?_cons, e']
      rw [valV_pos e, b]; exact h2
    · have e' : ¬ q.1 = k := fun z => e (h1.trans z)
      have b : valueAt (q :: qs) k = valueAt qs k := by simp [valueAt, List.find?_cons, e']
      rw [valV_neg e, b]; exact ih
end
theorem kV_is {P : Program} {w : World} {k : Key} {u : Value} (r : RelV (kV k) u) : (mixKind P w).is k u = true := by
  cases k with
  | inl i => obtain ⟨t, e⟩ := (show ∃ t, u = Value.int i t from r); subst e; exact mixKind_int P w i t
  | inr x => obtain ⟨t, e⟩ := (show ∃ t, u = Value.str x t from r); subst e; exact mixKind_str P w x t
section
variable {P : Program} {w : World} {H : Hp} {h : Heap} {a : Addr}
end
section
variable {X : Cx} {pins : List (Addr × Obj)} {σ : St} {H : Hp} {s : Shared} {a : Addr} {y v : V} {u r : Value} {o : Option V} {A : Around} {E : Value → Shared → Prop}
end
section
variable {X : Cx} {pins : List (Addr × Obj)} {σ : St} {H : Hp} {s : Shared} {a : Addr} {kvs : List (Key × V)} {k : Key} {u : Value} {A : Around} {E : Value → Shared → Prop}
end
def NoSl (i : Expr) : Prop := ∀ ov iv, subscripted i false ov iv = operate [ov, iv] (getItem ov iv)
theorem subD_of {prog : Program} {w : World} {A : Around} {E : Value → Shared → Prop} {s : Shared} {env : Env} {value slice : Expr} {pos : Pos} {T id : String} {Q : Value → Shared → Prop}
    (hl : typeLookup (.type T) "__getitem__" = pure (some (.builtin id))) (hs : NoSl slice)
    (h : wpAny (model prog w) A (eval value env) (fun o s₁ => wpAny (model prog w) A (eval slice env) (fun i s₂ => s₂.TypeIs o T ∧ wpAny (model prog w) A (getItem o i) Q E s₂) E s₁) E s) :
    wpAny (model prog w) A (eval (.Subscript value slice pos) env) Q E s := by
  refine Subscript_ (wpAny_mono h (fun o s₁ h₁ => wpAny_mono h₁ (fun i s₂ h₂ => ?_) fun _ _ x => x) fun _ _ x => x)
  obtain ⟨hT, h₂⟩ := h₂
  unfold subscriptTail
  refine wpAny_bind ?_
  rw [getitemInPython_of_ne hT.not_modules]
  refine wpAny_bind (wpAny_specialOf hT hl ?_)
  have fin : wpAny (model prog w) A (subscripted slice false o i) (fun r s₃ => wpAny (model prog w) A (letTemporaryGo value o r >>= fun _ => pure r) Q E s₃) E s₂ := by
    rw [hs o i]
    exact wpAny_operating (wpAny_mono h₂ (fun r s₃ h₃ => wpAny_bind (wpAny_letTemporaryGo (wpAny_pure h₃))) fun _ _ x => x)
  first
    | exact wpAny_pure (wpAny_bind fin)
    | exact wpAny_bind (wpAny_pure (wpAny_bind fin))
    | exact wpAny_bind fin
section
variable {X : Cx} {o i e value : Expr} {pos pos' tpos : Pos} {td ty tv : TE}
end
section
variable {X : Cx} {pos : Pos}
end
section
variable {X : Cx} {pins : List (Addr × Obj)} {σ : St} {H : Hp} {s : Shared} {a : Addr} {y d : V} {u r : Value} {o : Option V} {A : Around} {E : Value → Shared → Prop}
end
section
variable {X : Cx} {o e f : Expr} {apos cpos : Pos} {td ty tx : TE}
end
section
variable {X : Cx} {pins : List (Addr × Obj)} {σ : St} {H : Hp} {s : Shared} {a : Addr} {kvs : List (Key × V)} {A : Around} {E : Value → Shared → Prop}
end
section
variable {X : Cx} {pins : List (Addr × Obj)} {σ : St} {H : Hp} {s : Shared} {a : Addr} {y : V} {u : Value} {A : Around} {E : Value → Shared → Prop}
end
end L2
namespace L2
open PySem PySem.Spec PyProof.Rows
section
variable {prog : Program} {w : World} {A : Around} {E : Value → Shared → Prop}
end
section
variable {X : Cx}
end
end L2
namespace L2
open PySem PySem.Spec PyProof.Rows
section
variable {X : Cx} {pins : List (Addr × Obj)} {σ : St} {H : Hp} {s : Shared} {h' : Heap}
end
section
variable {X : Cx}
end
section
variable {X : Cx} {tg : Expr}
end
section
variable {X : Cx} {tg : Expr}
end
section
variable {prog : Program} {w : World} {A : Around} {E : Value → Shared → Prop} {s : Shared}
end
theorem paired_get {α β : Type} {G : α → β → Prop} {l₁ : List α} {l₂ : List β} (h : Paired G l₁ l₂) : ∀ {i : Nat} {a : α}, l₁[i]? = some a → ∃ b, l₂[i]? = some b ∧ G a b := by
  induction h with
  | nil => intro i a e; simp at e
  | @cons a b l₁ l₂ r t ih =>
    intro i a' e
    cases i with
    | zero =>
      simp only [List.getElem?_cons_zero, Option.some.injEq] at e
      subst e
      exact ⟨b, rfl, r⟩
    | succ j =>
      simp only [List.getElem?_cons_succ] at e ⊢
      exact ih e
section
variable {X : Cx} {pins : List (Addr × Obj)} {σ : St} {H : Hp} {s : Shared} {d : Addr} {o : Obj}
end
section
variable {P : Program} {w : World} {K : PySem.W.Frag} {tg : Expr} {d : Addr} {o : Obj} {es : Array DictEntry} {ep : Nat}
end
section
variable {X : Cx} {tg e : Expr} {td : TE} {apos cpos : Pos}
end
end L2
section 
namespace Bits
open PySem PyProof.Rows
end Bits
end 
section 
namespace TL
open PySem PySem.Builtin PySem.Builtin.Str PySem.StrLaws
end TL
end 
namespace L2
open PySem PySem.Spec PyProof.Rows
section
variable {X : Cx} {pins : List (Addr × Obj)} {σ : St} {H : Hp} {s : Shared} {Q : VK}
end
section
variable {X : Cx}
end
section
variable {X : Cx} {o e : Expr} {to te : TE}
end
end L2
namespace L2
open PySem PySem.Spec PyProof.Rows
section
variable {X : Cx}
end
end L2
namespace Att
open PySem PySem.W PySem.Calls PyProof.Rows
section
variable {prog : Program} {w : World} {A : Around} {E : Value → Shared → Prop} {s : Shared} {K : Frag}
end
end Att
namespace L2
open PySem PySem.Spec PyProof.Rows
end L2
namespace L2
open PySem PySem.Spec PyProof.Rows
end L2
namespace L2
open PySem PySem.Spec PyProof.Rows
def inClass (s : Stmt) (j : Nat) : Stmt := match s with
  | .ClassDef _ _ _ body _ _ _ _ _ _ _ => body.getD j (.Pass ⟨0, 0, 0, 0⟩)
  | _ => .Pass ⟨0, 0, 0, 0⟩
def defArgs (s : Stmt) : Arguments := match s with
  | .FunctionDef _ a _ _ _ _ _ _ _ _ => a
  | _ => { posonlyargs := [], args := [], vararg := none, kwonlyargs := [], kw_defaults := [], kwarg := none, defaults := [] }
def defBody (s : Stmt) : List Stmt := match s with
  | .FunctionDef _ _ b _ _ _ _ _ _ _ => b
  | _ => []
def defScope (s : Stmt) : Scope := match s with
  | .FunctionDef _ _ _ _ _ _ sc _ _ _ => sc
  | _ => { kind := .function, names := [], isGenerator := false, isCoroutine := false }
abbrev CX0 : CXT := fun _ _ _ _ _ _ => False
abbrev E0 : XK := fun _ _ _ => False
theorem pass0 {X : Cx} : Passes CX0 X E0 := fun _ _ _ _ _ _ _ h => h.elim
structure Fun (K : PySem.W.Frag) (x qual : Str) (st : Stmt) (f : Addr) (fd : FuncData) : Prop where
  ex : ∃ (oc : Value) (od : Option Addr) (kV doc pm : Value) (an : Option Addr) (cdv ct : Value) (osl : Array (Option Value)),
    fd = PySem.W.fnOf x qual (defArgs st) (defBody st) (defScope st) .none kV doc pm an cdv ct ∧ K.lookup f = some ⟨oc, od, .func fd, osl⟩ ∧ PySem.W.codeIn K cdv qual = true
  kp : PySem.W.keepIn K (.ref f) = true
section
variable {P : Program} {w : World} {K : PySem.W.Frag} {mg : Str → Option Value} {base : Heap}
theorem Fun.ok {x qual : Str} {st : Stmt} {f : Addr} {fd : FuncData} {N ps : List Str} {k : Nat} {sp : Sp} (F : Fun K x qual st f fd) (S : FnScope N ps (defScope st)) (len : ∀ vs H Q E, sp vs H Q E → vs.length = ps.length)
    (hbody : ∀ (cdv : Value) (A : Around) (outer : List Env) (s : Shared) (H : Hp) (vs : List V) (Q : VK) (E : XK), Room k (A.deeper (envOfC qual (defScope st) s.heap.objs.size f cdv)) → sp vs H Q E →
      ∃ t, PSs (cxOf CX0 P w K mg base N qual (defScope st) f cdv A outer s H E).nox (defBody st) t ∧ t { nx := fun _ H' => Q .non H', rt := Q } (start N vs) H) : FnOk P w K mg base CX0 (k + 1) f fd ps sp := by
  obtain ⟨oc, od, kV, doc, pm, an, cdv, ct, osl, rfl, lk, hcd⟩ := F.ex
  refine fn_of lk hcd S len fun A outer s H vs Q E hr hsp => ?_
  obtain ⟨t, h, q⟩ := hbody cdv A outer s H vs Q E hr hsp
  exact ⟨t, h.nox, q⟩
theorem Fun.binds {x qual : Str} {st : Stmt} {f : Addr} {fd : FuncData} {ps : List Str} (F : Fun K x qual st f fd)
    (h : ∀ (kV doc pm : Value) (an : Option Addr) (cdv ct : Value) (us : List Value), us.length = ps.length → bindArgs (PySem.W.fnOf x qual (defArgs st) (defBody st) (defScope st) .none kV doc pm an cdv ct) ⟨us, []⟩ = pure (ps.zip us)) : Binds K fd ps [] := by
  obtain ⟨oc, od, kV, doc, pm, an, cdv, ct, osl, rfl, lk, hcd⟩ := F.ex
  exact .all (h kV doc pm an cdv ct)
theorem fun_mk {x qual : Str} {st : Stmt} {f : Addr} {oc : Value} {od an : Option Addr} {osl : Array (Option Value)} {kV doc pm cdv ct : Value} (l : K.lookup f = some ⟨oc, od, .func (PySem.W.fnOf x qual (defArgs st) (defBody st) (defScope st) .none kV doc pm an cdv ct), osl⟩)
    (c : PySem.W.codeIn K cdv qual = true) (k : PySem.W.keepIn K (.ref f) = true) : Fun K x qual st f (PySem.W.fnOf x qual (defArgs st) (defBody st) (defScope st) .none kV doc pm an cdv ct) := ⟨⟨oc, od, kV, doc, pm, an, cdv, ct, osl, rfl, l, c⟩, k⟩
end
section
variable {X : Cx}
theorem pv (i : Nat) {x : Str} {pos : Pos} (hN : X.N[i]? = some x := by rfl) (hv : Vis X.env.scope x := by first | exact Or.inl rfl | exact Or.inr (Or.inl rfl) | exact Or.inr (Or.inr rfl)) (hd : (x == ("__debug__" : Str)) = false := by decide)
    (hcd : (x == ("__classdict__" : Str)) = false := by decide) : PE X (.Name x pos) (tVar i) := pe_var hN hv hd hcd
end
theorem iteF {A B : Prop} (h : B) : if false = true then A else B := by
  rw [if_neg Bool.false_ne_true]
  exact h
theorem iteT {A B : Prop} (h : A) : if true = true then A else B := by
  rw [if_pos rfl]
  exact h
def Same (H H' : Hp) : Prop := ∀ b o, H b = some o → H' b = some o
section
variable {κ : Type} [DecidableEq κ]
end
theorem at_of {xs : List V} {z : Int} {j : Nat} {v : V} (e : z = (j : Int)) (h : xs[j]? = some v) : atI xs z = some v := by
  rw [e]
  exact atI_nat h
theorem nd_ix {α : Type} {l : List α} (hN : l.Nodup) {i j : Nat} {x : α} (a : l[i]? = some x) (b : l[j]? = some x) : i = j := by
  obtain ⟨h1, e1⟩ := List.getElem?_eq_some_iff.mp a
  obtain ⟨h2, e2⟩ := List.getElem?_eq_some_iff.mp b
  exact (List.getElem_inj hN).mp (e1.trans e2.symm)
theorem Same.made {H H1 : Hp} {x dx C : Addr} (nx : H x = Option.none) (nd : H dx = Option.none) (k : ∀ b o, (upd (upd H dx (.own x)) x (.ins C dx [])) b = some o → b ≠ x → H1 b = some o) : Same H H1 := fun b o e =>
  k b o (by rw [upd_ne (ne_of_none e nx), upd_ne (ne_of_none e nd)]; exact e) (ne_of_none e nx)
end L2
end
section
section
set_option Elab.async false
set_option linter.all false
set_option maxRecDepth 100000
namespace L2
open PySem PySem.Spec PyProof.Rows
open PySem.W (WData Codec OpenSpec Well WellAll ReadsW ReadsAllW)
/-! ### an answer as data -/
mutual
/-- x stands for the datum d, lists and tuples all the way -/
inductive Dw (K : PySem.W.Frag) (H : Hp) : V → WData → Prop
  | non : Dw K H .non .none
  | bl (b : Bool) : Dw K H (.bl b) (.bool b)
  | int (i : Int) : Dw K H (.int i) (.int i)
  | str (x : Str) : Dw K H (.str x) (.str x)
  | byt (b : Array UInt8) : Dw K H (.byt b) (.bytes b.toList)
  | lst {a : Addr} {xs : List V} {ds : List WData} : SqL K H a xs → DwAll K H xs ds → Dw K H (.ref a) (.list ds)
  | tup {a : Addr} {xs : List V} {ds : List WData} : SqT K H a xs → DwAll K H xs ds → Dw K H (.ref a) (.tuple ds)
inductive DwAll (K : PySem.W.Frag) (H : Hp) : List V → List WData → Prop
  | nil : DwAll K H [] []
  | cons {v : V} {vs : List V} {d : WData} {ds : List WData} : Dw K H v d → DwAll K H vs ds → DwAll K H (v :: vs) (d :: ds)
end
theorem dw_ints {K : PySem.W.Frag} {H : Hp} : ∀ ns : List Int, DwAll K H (ns.map V.int) (ns.map WData.int)
  | [] => .nil
  | n :: r => .cons (.int n) (dw_ints r)
theorem ints_dw {K : PySem.W.Frag} {H : Hp} : ∀ (ns : List Int) (xs : List V), DwAll K H xs (ns.map WData.int) → xs = ns.map V.int
  | [], xs, h => by
    cases h
    rfl
  | n :: r, xs, h => by
    cases h with
    | cons h1 h2 =>
      cases h1
      rw [ints_dw r _ h2] <;> rfl
section
variable {P : Program} {w : World} {K : PySem.W.Frag} {H : Hp} {h : Heap} {R : PySem.W.WRecords} {cl : Str → Option Addr}
theorem sqL_at {a : Addr} {xs : List V} (hok : HOk P w H h) (KX : K.In h) (q : SqL K H a xs) : ∃ (its : List Value) (o : Obj) (n : Nat), Vals xs its ∧ h.get? a = some o ∧ o.cls = .type "list" ∧ o.data = .seq its.toArray n := by
  rcases q with q | ⟨o, its, n, e, hc, _, hd, _, hv⟩
  · obtain ⟨_, its, n, hv, e⟩ := (show ObjOk P w H h a (.lst xs) from q.ok hok)
    exact ⟨its, _, n, hv, e, rfl, rfl⟩
  · exact ⟨its.toList, o, n, hv, KX _ _ e, hc, by simp [hd]⟩
theorem sqT_at {a : Addr} {xs : List V} (hok : HOk P w H h) (KX : K.In h) (q : SqT K H a xs) : ∃ (its : List Value) (o : Obj) (n : Nat), Vals xs its ∧ h.get? a = some o ∧ o.cls = .type "tuple" ∧ o.data = .seq its.toArray n := by
  rcases q with q | ⟨o, its, n, e, hc, hd, _, hv⟩
  · obtain ⟨_, its, hv, o, e, hc, n, hd⟩ := (show ObjOk P w H h a (.tup xs) from q.ok hok)
    exact ⟨its, o, n, hv, e, hc, hd⟩
  · exact ⟨its.toList, o, n, hv, KX _ _ e, hc, by simp [hd]⟩
mutual
theorem Dw.reads (hok : HOk P w H h) (KX : K.In h) : ∀ (d : WData) (v : V) (u : Value), Dw K H v d → RelV v u → ∃ as, ReadsW R cl h u d as
  | .none, _, _, x, r => by
    cases x
    cases r
    exact ⟨_, ReadsW.none⟩
  | .bool b, _, _, x, r => by
    cases x
    cases r
    exact ⟨_, ReadsW.bool b⟩
  | .int i, _, _, x, r => by
    cases x
    obtain ⟨t, rfl⟩ := r
    exact ⟨_, ReadsW.int i t⟩
  | .str s, _, _, x, r => by
    cases x
    obtain ⟨t, rfl⟩ := r
    exact ⟨_, ReadsW.str s t⟩
  | .bytes b, _, _, x, r => by
    cases x
    obtain ⟨t, rfl⟩ := r
    exact ⟨_, ReadsW.bytes _ t⟩
  | .list ds, _, _, x, r => by
    cases x with
    | lst hs ha =>
      cases r
      obtain ⟨its, o, n, rv, ho, hc, hd⟩ := sqL_at hok KX hs
      obtain ⟨as, hr⟩ := Dw.readsAll hok KX ds _ its ha rv
      exact ⟨_, ReadsW.list ho hc hd hr⟩
  | .tuple ds, _, _, x, r => by
    cases x with
    | tup hs ha =>
      cases r
      obtain ⟨its, o, n, rv, ho, hc, hd⟩ := sqT_at hok KX hs
      obtain ⟨as, hr⟩ := Dw.readsAll hok KX ds _ its ha rv
      exact ⟨_, ReadsW.tuple ho hc hd hr⟩
  | .float _, _, _, x, _ => by cases x
  | .dict _, _, _, x, _ => by cases x
  | .bytearray _, _, _, x, _ => by cases x
  | .set _, _, _, x, _ => by cases x
  | .frozenset _, _, _, x, _ => by cases x
  | .obj _ _, _, _, x, _ => by cases x
theorem Dw.readsAll (hok : HOk P w H h) (KX : K.In h) : ∀ (ds : List WData) (vs : List V) (us : List Value), DwAll K H vs ds → Vals vs us → ∃ as, ReadsAllW R cl h us ds as
  | [], _, _, x, r => by
    cases x
    cases r
    exact ⟨_, ReadsAllW.nil⟩
  | d :: ds, _, _, x, r => by
    cases x with
    | cons h1 h2 =>
      cases r with
      | cons r1 r2 =>
        obtain ⟨as, q1⟩ := Dw.reads hok KX d _ _ h1 r1
        obtain ⟨bs, q2⟩ := Dw.readsAll hok KX ds _ _ h2 r2
        exact ⟨_, ReadsAllW.cons q1 q2⟩
end
end
/-! ### the arguments -/
mutual
/-- data that a codec tells -/
def plW : WData → Bool
  | .none => true
  | .bool _ => true
  | .int _ => true
  | .str _ => true
  | .bytes _ => true
  | .list xs => plWs xs
  | .tuple xs => plWs xs
  | _ => false
def plWs : List WData → Bool
  | [] => true
  | x :: r => plW x && plWs r
end
theorem plWs_map {α : Type} {f : α → WData} (h : ∀ a, plW (f a) = true) : ∀ l : List α, plWs (l.map f) = true
  | [] => rfl
  | x :: r => by
    show (plW (f x) && plWs (r.map f)) = true
    rw [h x, plWs_map h r] <;> rfl
theorem pl_enc : ∀ (c : Codec) (a : c.denote), plW (c.enc a) = true
  | .unit, _ => rfl
  | .bool, _ => rfl
  | .int _ _, _ => rfl
  | .nat _ _, _ => rfl
  | .u8, _ => rfl
  | .bytes _ _, _ => rfl
  | .text _ _ _ _, _ => rfl
  | .list _ _ c, a => plWs_map (fun x => pl_enc c x) a
  | .pair c d, a => by
    show (plW (c.enc a.1) && (plW (d.enc a.2) && true)) = true
    rw [pl_enc c a.1, pl_enc d a.2] <;> rfl
  | .triple c d e, a => by
    show (plW (c.enc a.1) && (plW (d.enc a.2.1) && (plW (e.enc a.2.2) && true))) = true
    rw [pl_enc c a.1, pl_enc d a.2.1, pl_enc e a.2.2] <;> rfl
  | .option c, none => rfl
  | .option c, some x => pl_enc c x
theorem pl_encAll : ∀ (cs : List Codec) (a : Codec.denoteAll cs), plWs (Codec.encAll cs a) = true
  | [], _ => rfl
  | c :: cs, a => by
    show (plW (c.enc a.1) && plWs (Codec.encAll cs a.2)) = true
    rw [pl_enc c a.1, pl_encAll cs a.2] <;> rfl
theorem weight_mem : ∀ {xs : List WData} {d : WData}, d ∈ xs → d.weight ≤ WData.weightAll xs
  | [], d, h => absurd h (by simp)
  | x :: r, d, h => by
    show d.weight ≤ x.weight + 1 + WData.weightAll r
    rcases List.mem_cons.mp h with e | m
    · rw [e]
      omega
    · have z := weight_mem m
      omega
def toV : Value → V
  | .none => .non
  | .bool b => .bl b
  | .int i _ => .int i
  | .str x _ => .str x
  | .bytes b _ => .byt b
  | .ref a => .ref a
  | _ => .non
/-- a value of the arguments, its objects among A -/
def OkU (A : List Addr) : Value → Prop
  | .none => True
  | .bool _ => True
  | .int _ _ => True
  | .str _ _ => True
  | .bytes _ _ => True
  | .ref a => a ∈ A
  | _ => False
theorem OkU.mono {A B : List Addr} (h : ∀ a ∈ A, a ∈ B) : ∀ {u : Value}, OkU A u → OkU B u := fun {u} x => by
  cases u with
  | ref a => exact h a x
  | none => trivial
  | bool b => trivial
  | int i t => trivial
  | str s t => trivial
  | bytes b t => trivial
  | _ => exact False.elim x
theorem relV_toV {A : List Addr} {u : Value} (x : OkU A u) : RelV (toV u) u := by
  cases u with
  | ref a => rfl
  | none => rfl
  | bool b => rfl
  | int i t => exact ⟨t, rfl⟩
  | str s t => exact ⟨t, rfl⟩
  | bytes b t => exact ⟨t, rfl⟩
  | _ => exact False.elim x
theorem vals_toV {A : List Addr} : ∀ {vs : List Value}, (∀ u ∈ vs, OkU A u) → Vals (vs.map toV) vs
  | [], _ => .nil
  | u :: r, h => .cons (relV_toV (h u (List.mem_cons_self ..))) (vals_toV fun x hx => h x (List.mem_cons_of_mem _ hx))
/-- an object of the arguments -/
def ArgOb (h : Heap) (A : List Addr) (a : Addr) : Prop := ∃ vs : List Value, vs.length ≤ sizeLine ∧ (∀ u ∈ vs, OkU A u) ∧
  (h.get? a = some { cls := .type "list", data := .seq vs.toArray } ∨ h.get? a = some { cls := .type "tuple", data := .seq vs.toArray })
theorem ArgOb.mono {h : Heap} {A B : List Addr} {a : Addr} (k : ∀ a ∈ A, a ∈ B) (x : ArgOb h A a) : ArgOb h B a := by
  obtain ⟨vs, h1, h2, h3⟩ := x
  exact ⟨vs, h1, fun u hu => (h2 u hu).mono k, h3⟩
theorem wellAll_len {P : Params} {h : Heap} : ∀ {vs : List Value} {ds : List WData}, WellAll P h vs ds → vs.length = ds.length
  | _, _, .nil => rfl
  | _, _, .cons _ b => by
    show _ + 1 = _ + 1
    rw [wellAll_len b]
theorem well_list {P : Params} {h : Heap} {v : Value} {ds : List WData} (x : Well P h v (.list ds)) : ∃ (a : Addr) (vs : List Value), v = .ref a ∧ h.get? a = some { cls := .type "list", data := .seq vs.toArray } ∧ WellAll P h vs ds := by
  cases x with
  | list ho hall => exact ⟨_, _, rfl, ho, hall⟩
theorem well_tuple {P : Params} {h : Heap} {v : Value} {ds : List WData} (x : Well P h v (.tuple ds)) : ∃ (a : Addr) (vs : List Value), v = .ref a ∧ h.get? a = some { cls := .type "tuple", data := .seq vs.toArray } ∧ WellAll P h vs ds := by
  cases x with
  | tuple ho hall => exact ⟨_, _, rfl, ho, hall⟩
theorem well_cons {P : Params} {h : Heap} {us : List Value} {d : WData} {ds : List WData} (x : WellAll P h us (d :: ds)) : ∃ (v : Value) (vs : List Value), us = v :: vs ∧ Well P h v d ∧ WellAll P h vs ds := by
  cases x with
  | cons a b => exact ⟨_, _, rfl, a, b⟩
theorem line_of {n : Nat} (h : n ≤ 1048576) : n ≤ sizeLine := Nat.le_trans h (by decide)
section
variable {P : Params} {h : Heap}
mutual
theorem area_one : ∀ (d : WData) (v : Value), Well P h v d → plW d = true → d.weight ≤ 1048576 → ∃ A : List Addr, OkU A v ∧ ∀ a ∈ A, ArgOb h A a
  | .none, _, x, _, _ => by
    cases x
    exact ⟨[], trivial, fun a m => absurd m (by simp)⟩
  | .bool b, _, x, _, _ => by
    cases x
    exact ⟨[], trivial, fun a m => absurd m (by simp)⟩
  | .int i, _, x, _, _ => by
    cases x
    exact ⟨[], trivial, fun a m => absurd m (by simp)⟩
  | .str s, _, x, _, _ => by
    cases x
    exact ⟨[], trivial, fun a m => absurd m (by simp)⟩
  | .bytes b, _, x, _, _ => by
    cases x
    exact ⟨[], trivial, fun a m => absurd m (by simp)⟩
  | .list ds, _, x, p, z => by
    obtain ⟨a, vs, rfl, ho, hall⟩ := well_list x
    have z2 : WData.weightAll ds ≤ 1048576 := z
    obtain ⟨A, h1, h2⟩ := area_all ds _ hall p fun d hd => Nat.le_trans (weight_mem hd) z2
    have k : ∀ b ∈ A, b ∈ a :: A := fun b hb => List.mem_cons_of_mem _ hb
    refine ⟨a :: A, List.mem_cons_self .., fun b hb => ?_⟩
    rcases List.mem_cons.mp hb with e | m
    · rw [e]
      exact ⟨vs, line_of (by rw [wellAll_len hall]; exact Nat.le_trans (PySem.W.length_le_weightAllW ds) z2), fun u hu => (h1 u hu).mono k, .inl ho⟩
    · exact (h2 b m).mono k
  | .tuple ds, _, x, p, z => by
    obtain ⟨a, vs, rfl, ho, hall⟩ := well_tuple x
    have z2 : WData.weightAll ds ≤ 1048576 := z
    obtain ⟨A, h1, h2⟩ := area_all ds _ hall p fun d hd => Nat.le_trans (weight_mem hd) z2
    have k : ∀ b ∈ A, b ∈ a :: A := fun b hb => List.mem_cons_of_mem _ hb
    refine ⟨a :: A, List.mem_cons_self .., fun b hb => ?_⟩
    rcases List.mem_cons.mp hb with e | m
    · rw [e]
      exact ⟨vs, line_of (by rw [wellAll_len hall]; exact Nat.le_trans (PySem.W.length_le_weightAllW ds) z2), fun u hu => (h1 u hu).mono k, .inr ho⟩
    · exact (h2 b m).mono k
  | .float _, _, _, p, _ => Bool.noConfusion (show false = true from p)
  | .dict _, _, _, p, _ => Bool.noConfusion (show false = true from p)
  | .bytearray _, _, _, p, _ => Bool.noConfusion (show false = true from p)
  | .set _, _, _, p, _ => Bool.noConfusion (show false = true from p)
  | .frozenset _, _, _, p, _ => Bool.noConfusion (show false = true from p)
  | .obj _ _, _, _, p, _ => Bool.noConfusion (show false = true from p)
theorem area_all : ∀ (ds : List WData) (vs : List Value), WellAll P h vs ds → plWs ds = true → (∀ d ∈ ds, d.weight ≤ 1048576) → ∃ A : List Addr, (∀ u ∈ vs, OkU A u) ∧ ∀ a ∈ A, ArgOb h A a
  | [], _, x, _, _ => by
    cases x
    exact ⟨[], fun u m => absurd m (by simp), fun a m => absurd m (by simp)⟩
  | d :: ds, _, x, p, z => by
    obtain ⟨v, vs, rfl, x1, x2⟩ := well_cons x
    have q : plW d = true ∧ plWs ds = true := Bool.and_eq_true_iff.mp p
    obtain ⟨A, a1, a2⟩ := area_one d v x1 q.1 (z d (List.mem_cons_self ..))
    obtain ⟨B, b1, b2⟩ := area_all ds vs x2 q.2 fun e he => z e (List.mem_cons_of_mem _ he)
    have kA : ∀ b ∈ A, b ∈ A ++ B := fun b hb => List.mem_append.mpr (.inl hb)
    have kB : ∀ b ∈ B, b ∈ A ++ B := fun b hb => List.mem_append.mpr (.inr hb)
    refine ⟨A ++ B, fun u hu => ?_, fun b hb => ?_⟩
    · rcases List.mem_cons.mp hu with e | m
      · rw [e]
        exact a1.mono kA
      · exact (b1 u m).mono kB
    · rcases List.mem_append.mp hb with m | m
      · exact (a2 b m).mono kA
      · exact (b2 b m).mono kB
end
end
/-- what is tracked of an argument's object -/
def hoOf (o : Obj) : Option HO := match o.data with
  | .seq vs _ => if (o.cls == Value.type "list") = true then some (.frz o (.lst (vs.toList.map toV))) else some (.frz o (.tup (vs.toList.map toV)))
  | _ => none
def argH (K : PySem.W.Frag) (h : Heap) (A : List Addr) : Hp := fun b => if b ∈ A then (if (K.lookup b).isNone = true then (h.get? b).bind hoOf else none) else none
/-- nothing is tracked but what is known to the object -/
def OnlyF (H : Hp) : Prop := ∀ b, H b = none ∨ ∃ o u, H b = some (.frz o u)
theorem hoOf_lst (vs : List Value) : hoOf { cls := .type "list", data := .seq vs.toArray } = some (.frz { cls := .type "list", data := .seq vs.toArray } (.lst (vs.map toV))) := by
  show (if (Value.type "list" == Value.type "list") = true then some (HO.frz { cls := .type "list", data := .seq vs.toArray } (.lst (vs.toArray.toList.map toV))) else some (HO.frz { cls := .type "list", data := .seq vs.toArray } (.tup (vs.toArray.toList.map toV)))) = _
  rw [if_pos (beq_self_eq_true _)]
theorem hoOf_tup (vs : List Value) : hoOf { cls := .type "tuple", data := .seq vs.toArray } = some (.frz { cls := .type "tuple", data := .seq vs.toArray } (.tup (vs.map toV))) := by
  show (if (Value.type "tuple" == Value.type "list") = true then some (HO.frz { cls := .type "tuple", data := .seq vs.toArray } (.lst (vs.toArray.toList.map toV))) else some (HO.frz { cls := .type "tuple", data := .seq vs.toArray } (.tup (vs.toArray.toList.map toV)))) = _
  rw [if_neg (by decide)]
section
variable {P : Program} {w : World} {K : PySem.W.Frag} {h : Heap} {A : List Addr}
theorem argH_at {b : Addr} {o : Obj} (hb : b ∈ A) (hk : K.lookup b = none) (e : h.get? b = some o) : argH K h A b = hoOf o := by
  unfold argH
  rw [if_pos hb, hk, if_pos (show (none : Option Obj).isNone = true from rfl), e] <;> rfl
theorem of_argH {b : Addr} {u : HO} (q : argH K h A b = some u) : b ∈ A ∧ K.lookup b = none := by
  unfold argH at q
  by_cases hb : b ∈ A
  · rw [if_pos hb] at q
    cases hk : K.lookup b with
    | none => exact ⟨hb, rfl⟩
    | some o =>
      rw [hk, if_neg (by simp)] at q
      cases q
  · rw [if_neg hb] at q
    cases q
/-- what stands tracked -/
theorem argH_is (ar : ∀ a ∈ A, ArgOb h A a) {b : Addr} {u : HO} (q : argH K h A b = some u) : K.lookup b = none ∧ ∃ vs : List Value, vs.length ≤ sizeLine ∧ (∀ u ∈ vs, OkU A u) ∧
    ((h.get? b = some { cls := .type "list", data := .seq vs.toArray } ∧ u = .frz { cls := .type "list", data := .seq vs.toArray } (.lst (vs.map toV))) ∨
     (h.get? b = some { cls := .type "tuple", data := .seq vs.toArray } ∧ u = .frz { cls := .type "tuple", data := .seq vs.toArray } (.tup (vs.map toV)))) := by
  obtain ⟨hb, hk⟩ := of_argH q
  obtain ⟨vs, h1, h2, h3⟩ := ar b hb
  refine ⟨hk, vs, h1, h2, ?_⟩
  rcases h3 with e | e
  · rw [argH_at hb hk e, hoOf_lst] at q
    exact .inl ⟨e, (Option.some.inj q).symm⟩
  · rw [argH_at hb hk e, hoOf_tup] at q
    exact .inr ⟨e, (Option.some.inj q).symm⟩
theorem argH_only (ar : ∀ a ∈ A, ArgOb h A a) : OnlyF (argH K h A) := fun b => by
  cases q : argH K h A b with
  | none => exact .inl rfl
  | some u =>
    obtain ⟨_, vs, _, _, ⟨_, e⟩ | ⟨_, e⟩⟩ := argH_is ar q
    · exact .inr ⟨_, _, by rw [e]⟩
    · exact .inr ⟨_, _, by rw [e]⟩
theorem argH_ok (ar : ∀ a ∈ A, ArgOb h A a) : HOk P w (argH K h A) h := fun b u q => by
  obtain ⟨_, vs, h1, h2, ⟨e, rfl⟩ | ⟨e, rfl⟩⟩ := argH_is ar q
  · exact ⟨e, by rw [List.length_map]; exact h1, vs, _, vals_toV h2, e⟩
  · exact ⟨e, by rw [List.length_map]; exact h1, vs, vals_toV h2, _, e, rfl, _, rfl⟩
theorem seq_inj {c c' : Value} {vs us : List Value} (e : (some { cls := c, data := .seq vs.toArray } : Option Obj) = some { cls := c', data := .seq us.toArray }) : c = c' ∧ vs = us := by
  have e1 := Option.some.inj e
  have e2 : c = c' := congrArg Obj.cls e1
  have e3 : Data.seq vs.toArray = Data.seq us.toArray := congrArg Obj.data e1
  injection e3 with e4
  refine ⟨e2, ?_⟩
  have e5 := congrArg Array.toList e4
  simpa using e5
/-- a list argument -/
theorem argL (KX : K.In h) (ar : ∀ a ∈ A, ArgOb h A a) {a : Addr} {vs : List Value} (ha : a ∈ A) (e : h.get? a = some { cls := .type "list", data := .seq vs.toArray }) : (∀ u ∈ vs, OkU A u) ∧ SqL K (argH K h A) a (vs.map toV) := by
  obtain ⟨us, h1, h2, h3⟩ := ar a ha
  have hu : us = vs := by
    rcases h3 with q | q
    · rw [e] at q
      exact (seq_inj q).2.symm
    · rw [e] at q
      exact absurd (Value.type.inj (seq_inj q).1) (by decide)
  subst hu
  refine ⟨h2, ?_⟩
  cases hk : K.lookup a with
  | none => exact .inl (.inr ⟨_, by rw [argH_at ha hk e, hoOf_lst]⟩)
  | some o =>
    have e2 := KX a o hk
    rw [e] at e2
    obtain rfl := Option.some.inj e2
    exact .inr ⟨_, us.toArray, _, hk, rfl, rfl, rfl, by rw [List.size_toArray]; exact h1, by simpa using vals_toV h2⟩
theorem argT (KX : K.In h) (ar : ∀ a ∈ A, ArgOb h A a) {a : Addr} {vs : List Value} (ha : a ∈ A) (e : h.get? a = some { cls := .type "tuple", data := .seq vs.toArray }) : (∀ u ∈ vs, OkU A u) ∧ SqT K (argH K h A) a (vs.map toV) := by
  obtain ⟨us, h1, h2, h3⟩ := ar a ha
  have hu : us = vs := by
    rcases h3 with q | q
    · rw [e] at q
      exact absurd (Value.type.inj (seq_inj q).1) (by decide)
    · rw [e] at q
      exact (seq_inj q).2.symm
  subst hu
  refine ⟨h2, ?_⟩
  cases hk : K.lookup a with
  | none => exact .inl (.inr ⟨_, by rw [argH_at ha hk e, hoOf_tup]⟩)
  | some o =>
    have e2 := KX a o hk
    rw [e] at e2
    obtain rfl := Option.some.inj e2
    exact .inr ⟨_, us.toArray, _, hk, rfl, rfl, by rw [List.size_toArray]; exact h1, by simpa using vals_toV h2⟩
mutual
theorem dw_one {Pm : Params} (KX : K.In h) (ar : ∀ a ∈ A, ArgOb h A a) : ∀ (d : WData) (v : Value), Well Pm h v d → plW d = true → OkU A v → Dw K (argH K h A) (toV v) d
  | .none, _, x, _, _ => by
    cases x
    exact .non
  | .bool b, _, x, _, _ => by
    cases x
    exact .bl b
  | .int i, _, x, _, _ => by
    cases x
    exact .int i
  | .str s, _, x, _, _ => by
    cases x
    exact .str s
  | .bytes b, _, x, _, _ => by
    cases x
    have z := Dw.byt (K := K) (H := argH K h A) b.toArray
    exact z
  | .list ds, _, x, p, hu => by
    obtain ⟨a, vs, rfl, ho, hall⟩ := well_list x
    obtain ⟨h2, hs⟩ := argL KX ar hu ho
    exact .lst hs (dw_all KX ar ds _ hall p h2)
  | .tuple ds, _, x, p, hu => by
    obtain ⟨a, vs, rfl, ho, hall⟩ := well_tuple x
    obtain ⟨h2, hs⟩ := argT KX ar hu ho
    exact .tup hs (dw_all KX ar ds _ hall p h2)
  | .float _, _, _, p, _ => Bool.noConfusion (show false = true from p)
  | .dict _, _, _, p, _ => Bool.noConfusion (show false = true from p)
  | .bytearray _, _, _, p, _ => Bool.noConfusion (show false = true from p)
  | .set _, _, _, p, _ => Bool.noConfusion (show false = true from p)
  | .frozenset _, _, _, p, _ => Bool.noConfusion (show false = true from p)
  | .obj _ _, _, _, p, _ => Bool.noConfusion (show false = true from p)
theorem dw_all {Pm : Params} (KX : K.In h) (ar : ∀ a ∈ A, ArgOb h A a) : ∀ (ds : List WData) (vs : List Value), WellAll Pm h vs ds → plWs ds = true → (∀ u ∈ vs, OkU A u) → DwAll K (argH K h A) (vs.map toV) ds
  | [], _, x, _, _ => by
    cases x
    exact .nil
  | d :: ds, _, x, p, hu => by
    obtain ⟨v, vs, rfl, x1, x2⟩ := well_cons x
    have q : plW d = true ∧ plWs ds = true := Bool.and_eq_true_iff.mp p
    exact .cons (dw_one KX ar d v x1 q.1 (hu _ (List.mem_cons_self ..))) (dw_all KX ar ds vs x2 q.2 fun u m => hu u (List.mem_cons_of_mem _ m))
end
end
/-! ### the call -/
theorem spec_call {P : Program} {w : World} {K : PySem.W.Frag} {mg mb : Str → Option Value} {CX : CXT} {k : Nat} {fa : Addr} {fd : FuncData} {ps : List Str} {sp : Sp} {s₁ : Shared} {vals : List Value} {ds : List WData} {R : PySem.W.WRecords} {cl : Str → Option Addr} {d0 : WData}
    (KX : K.In s₁.heap) (hns : s₁.heap.Ns mainGlobals mg) (hb : s₁.heap.Ns builtinsNs mb) (hbb : ∀ x : Str, x ≠ "__name__" → mb x = bootBuiltins x) (hlim : s₁.heap.NoLimit) (hg : s₁.gens = #[])
    (hwl : WellAll w.params s₁.heap vals ds) (hpl : plWs ds = true) (hwt : ∀ d ∈ ds, d.weight ≤ 1048576) (hr : Room k callerA)
    (F : ∀ base : Heap, K.In base → base.Ns mainGlobals mg → FnOk P w K mg base CX k fa fd ps sp) (hbind : ∀ (s : Shared) (us : List Value), us.length = ps.length → BindsTo s fd ⟨us, []⟩ (ps.zip us)) (hlen : ds.length = ps.length)
    (hsp : ∀ (H : Hp) (xs : List V), OnlyF H → DwAll K H xs ds → sp xs H (fun v H' => Dw K H' v d0) fun _ _ _ => False)
    (hCX : ∀ H e s', CX [] H s₁ (fun _ _ _ => False) e s' → False) :
    codeAny (model P w) callerA (.call (.ref fa) ⟨vals, []⟩) (fun r s' => ∃ u as, r = .ok (.ret u) ∧ ReadsW R cl s'.heap u d0 as ∧ OldK s₁.heap s'.heap ∧ s'.os = s₁.os ∧ AllBare s'.gens) s₁ := by
  obtain ⟨A, ho, ar⟩ := area_all ds vals hwl hpl hwt
  have hO : OnlyF (argH K s₁.heap A) := argH_only ar
  have hok : HOk P w (argH K s₁.heap A) s₁.heap := argH_ok ar
  have hS := dw_all KX ar ds vals hwl hpl ho
  have hV := vals_toV ho
  have hK : ∀ b u, argH K s₁.heap A b = some u → K.lookup b = none := fun b u q => (argH_is ar q).1
  have noA : ∀ {b : Addr} {o : Obj} {es : Array DictEntry} {ep : Nat}, s₁.heap.get? b = some o → o.data = .dict es ep → argH K s₁.heap A b = none := fun {b o es ep} e d => by
    cases q : argH K s₁.heap A b with
    | none => rfl
    | some u =>
      obtain ⟨_, vs, _, _, ⟨e2, _⟩ | ⟨e2, _⟩⟩ := argH_is ar q
      · rw [e2] at e
        cases e
        have d' : Data.seq vs.toArray _ = Data.dict es ep := d
        cases d'
      · rw [e2] at e
        cases e
        have d' : Data.seq vs.toArray _ = Data.dict es ep := d
        cases d'
  generalize argH K s₁.heap A = H at hO hok hS hK noA
  have base_of : ∀ {b : Addr} {o : Obj}, s₁.heap.get? b = some o → H b = none → (hidT s₁.heap H).get? b = some o := fun e n => hidT_get e n
  have nsK : ∀ {b : Addr} {m : Str → Option Value}, s₁.heap.Ns b m → (hidT s₁.heap H).Ns b m := fun {b m} ⟨o, es, ep, e, d, r⟩ => ⟨o, es, ep, base_of e (noA e d), d, r⟩
  have nK : ∀ b o, K.lookup b = some o → H b = none := fun b o e => by
    cases q : H b with
    | none => rfl
    | some u =>
      rw [hK b u q] at e
      cases e
  have hKb : K.In (hidT s₁.heap H) := fun b o e => base_of (KX b o e) (nK b o e)
  have hM : Mod K mg (hidT s₁.heap H) := ⟨hKb, nsK hns, ⟨mb, nsK hb, hbb⟩, let ⟨mc, h1, h2⟩ := hlim; ⟨mc, nsK h1, h2⟩⟩
  have e0 : Env0 P w K mg (hidT s₁.heap H) callerA [] s₁ H := ⟨rfl, hM, fun b o e => of_hidT e, Nat.le_of_eq (hidT_size _ _), trivial, fun b hb => absurd (show b ∈ ([] : List Addr) from hb) (by simp), hok, .of_eq hg⟩
  have hl : vals.length = ps.length := by rw [wellAll_len hwl]; exact hlen
  refine codeAny_mono ((F _ hKb (nsK hns)).run callerA [] s₁ H ⟨vals, []⟩ vals (vals.map toV) _ _ hr e0 (hbind s₁ vals hl) hV (hsp H _ hO hS)) fun r s' x => ?_
  cases r with
  | error e => exact (hCX H e s' x).elim
  | ok fl =>
    cases fl with
    | next => exact False.elim x
    | brk => exact False.elim x
    | cont => exact False.elim x
    | ret u =>
      obtain ⟨v, H', os, bare, un, hok', r', q⟩ := x
      have kept : ∀ b o, s₁.heap.get? b = some o → s'.heap.get? b = some o := fun b o e => by
        cases q2 : H b with
        | none => exact un.keep b o e q2 (by intro z; exact absurd (show b ∈ ([] : List Addr) from z) (by simp)) (by simp)
        | some u2 =>
          rcases hO b with z | ⟨ob, u3, z⟩
          · rw [q2] at z
            cases z
          · have z2 := un.frzs b ob _ z
            obtain ⟨e1, _⟩ := hok b _ z
            obtain ⟨e2, _⟩ := hok' b _ z2
            rw [e] at e1
            cases e1
            exact e2
      have KX' : K.In s'.heap := fun b o e => kept b o (KX b o e)
      obtain ⟨as, hrd⟩ := Dw.reads (R := R) (cl := cl) hok' KX' d0 v u q r'
      exact ⟨u, as, rfl, hrd, OldK.of_keep kept, os, bare⟩
/-! ### the row -/
theorem layable_weight {ds : List WData} (h : WData.layableAll ds = true) : ∀ d ∈ ds, d.weight ≤ 1048576 := fun d hd =>
  (PySem.W.layableW_iff.mp (List.all_eq_true.mp h d hd)).2.2
theorem encAll_len : ∀ (cs : List Codec) (a : Codec.denoteAll cs), (Codec.encAll cs a).length = cs.length
  | [], _ => rfl
  | c :: cs, a => by
    show (Codec.encAll cs a.2).length + 1 = cs.length + 1
    rw [encAll_len cs a.2]
/-- the goal that k_headS leaves (case hc), from the promise of the row's def: whatever the arguments that the codecs let and the row asks for, the def gives what stands for enc (f ..) -/
theorem walk_spec {r : OpenSpec} {k : Nat} {q : Program} {loose : List Str} {XP : (Str → Option Value) → Heap → Prop} {YP : World → Heap → Prop} {d : DefRec} {K : Params → PySem.W.Frag} {CX : World → CXT} {ps : List Str} {sp : World → Sp}
    (hwell : r.wellSaid = true) (hdf : d.params.defaults = []) (hlen : r.args.length = ps.length) (hr : Room k callerA)
    (hY : ∀ (w : World) (h : Heap), YP w h → (K w.params).In h)
    (F : ∀ (w : World) (mg : Str → Option Value) (fa : Addr) (h : Heap), YP w h → (K w.params).In h → h.Ns mainGlobals mg → mg d.name = some (.ref fa) →
      ∃ fd : FuncData, (∀ (s : Shared) (us : List Value), us.length = ps.length → BindsTo s fd ⟨us, []⟩ (ps.zip us)) ∧
        ∀ base : Heap, (K w.params).In base → base.Ns mainGlobals mg → FnOk r.prog w (K w.params) mg base (CX w) k fa fd ps (sp w))
    (hsp : ∀ (w : World) (H : Hp) (xs : List V) (a : Codec.denoteAll r.args), OnlyF H → Codec.withinAll r.args a = true → Codec.app r.args r.asked a = true → DwAll (K w.params) H xs (Codec.encAll r.args a) →
      sp w xs H (fun v H' => Dw (K w.params) H' v (r.ret.enc (Codec.app r.args r.f a))) fun _ _ _ => False)
    (hCX : ∀ (w : World) (H : Hp) (s : Shared) (e : Value) (s' : Shared), CX w [] H s (fun _ _ _ => False) e s' → False) :
    PySem.W.WalkOS q loose XP YP r d [] (fun f vs => PySem.call f vs) := by
  intro w s_0 s₁ mg mb G Y fa o pm cd doc dV kV ho hd hcd hD hmg hg args vals as hpre hlay hrd hwl hlo
  obtain ⟨a, e1, e2⟩ := PySem.W.os_pre_some hpre
  obtain ⟨e3, hwi⟩ := Codec.encAll_of_decAll r.args args a e1
  subst e3
  have KX := hY w _ Y
  obtain ⟨fd, hb, hF⟩ := F w mg fa _ Y KX G.T.g hmg
  refine PySem.W.enter_call (codeAny_mono (spec_call (R := []) (cl := classAt s_0.heap) (d0 := r.ret.enc (Codec.app r.args r.f a)) KX G.T.g G.T.b G.T.builtins G.T.nolimit hg hwl (pl_encAll _ _) (layable_weight hlay) hr hF hb (by rw [encAll_len]; exact hlen)
    (fun H xs hO hS => hsp w H xs a hO hwi e2 hS) fun H e s' => hCX w H s₁ e s') fun r' s' hq => ?_)
  obtain ⟨u, as', rfl, h1, h2, h3, h4⟩ := hq
  exact ⟨.inl ⟨u, _, as', rfl, fun _ => rfl, h1, (OpenSpec.post_iff hwell hwi _ _).mpr rfl, fun z => Bool.noConfusion (show false = true from z)⟩, h2, h3, h4⟩
/-- the same where the promise hangs on the written part alone -/
theorem walk_specK {r : OpenSpec} {k : Nat} {q : Program} {loose : List Str} {XP : (Str → Option Value) → Heap → Prop} {YP : World → Heap → Prop} {d : DefRec} {K : Params → PySem.W.Frag} {CX : CXT} {ps : List Str} {sp : PySem.W.Frag → Sp}
    (hwell : r.wellSaid = true) (hdf : d.params.defaults = []) (hlen : r.args.length = ps.length) (hr : Room k callerA)
    (hY : ∀ (w : World) (h : Heap), YP w h → (K w.params).In h)
    (F : ∀ (w : World) (mg : Str → Option Value) (fa : Addr) (h : Heap), YP w h → (K w.params).In h → h.Ns mainGlobals mg → mg d.name = some (.ref fa) →
      ∃ fd : FuncData, (∀ (s : Shared) (us : List Value), us.length = ps.length → BindsTo s fd ⟨us, []⟩ (ps.zip us)) ∧
        ∀ base : Heap, (K w.params).In base → base.Ns mainGlobals mg → FnOk r.prog w (K w.params) mg base CX k fa fd ps (sp (K w.params)))
    (hsp : ∀ (K : PySem.W.Frag) (H : Hp) (xs : List V) (a : Codec.denoteAll r.args), OnlyF H → Codec.withinAll r.args a = true → Codec.app r.args r.asked a = true → DwAll K H xs (Codec.encAll r.args a) →
      sp K xs H (fun v H' => Dw K H' v (r.ret.enc (Codec.app r.args r.f a))) fun _ _ _ => False)
    (hCX : ∀ (H : Hp) (s : Shared) (e : Value) (s' : Shared), CX [] H s (fun _ _ _ => False) e s' → False) :
    PySem.W.WalkOS q loose XP YP r d [] (fun f vs => PySem.call f vs) :=
  walk_spec (K := K) (CX := fun _ => CX) (sp := fun w => sp (K w.params)) hwell hdf hlen hr hY F (fun w H xs a h1 h2 h3 h4 => hsp (K w.params) H xs a h1 h2 h3 h4) fun _ H s e s' => hCX H s e s'
end L2
end
end
section
set_option linter.all false
namespace MA
open Vbdcaf
/-! ### what holds of every state that calls bring about -/
structure WF (s : State) : Prop where
  act : s.active ≤ 1
  ord : s.ordinary ≤ 1
  hold : s.holder ≤ 1
  stp : s.step ≤ 10
  rest : ∀ k ∈ s.rest, k ≤ 10
  restL : s.rest.length ≤ 21
  later : ∀ p ∈ s.later, p ∈ PHASES
  laterL : s.later.length ≤ 20
  extra : ∀ p ∈ s.extra, p ≤ 1
  extraL : s.extra.length ≤ 20
  stL : s.skipTurns.length = 2
  st : ∀ n ∈ s.skipTurns, n ≤ 9
  sfL : s.skipFights.length = 2
  sf : ∀ n ∈ s.skipFights, n ≤ 9
  ssL : s.skipSteps.length = 22
  ss : ∀ n ∈ s.skipSteps, n ≤ 9
  pas : s.passes ≤ 1
  things : s.stack.length + s.delays.length ≤ 64
  marksL : s.marks.length ≤ 64
  mSort : (s.marks.map (·.num)).Pairwise (· < ·)
  mNext : ∀ m ∈ s.marks, m.num < s.next
  mSide : ∀ m ∈ s.marks, m.side ≤ 1
  dSort : (s.delays.map (·.num)).Pairwise (· < ·)
  dNext : ∀ d ∈ s.delays, d.num < s.next
  dOwn : ∀ d ∈ s.delays, d.owner ≤ 1
  sNd : (s.stack.map (·.num) ++ s.delays.map (·.num)).Nodup
  sNext : ∀ i ∈ s.stack, i.num < s.next
  trL : s.turns.length = 2
  nx1 : 1 ≤ s.next
def has1 (s : State) : Bool := s.rest.any (· == 1) || s.later.any fun p => p.any (· == 1)
def spanL (l : List (List Nat)) : Nat := (l.map fun p => p.length + 1).sum
def cA (s : State) : Nat := at_ s.skipSteps 1 + at_ s.skipSteps 12
def cB (s : State) : Nat := at_ s.skipTurns 0 + at_ s.skipTurns 1
/-- what falls with each turn of going on -/
def mu (s : State) : Nat := s.rest.length + spanL s.later + 20 * (cA s + if has1 s = true then 0 else 1) + cB s
theorem at_mem {l : List Nat} {i : Nat} (h : i < l.length) : at_ l i ∈ l := by
  unfold at_
  rw [List.getD_eq_getElem?_getD, List.getElem?_eq_getElem h]
  exact List.getElem_mem h
theorem at_le {l : List Nat} {m : Nat} (h : ∀ n ∈ l, n ≤ m) (i : Nat) : at_ l i ≤ m := by
  by_cases hi : i < l.length
  · exact h _ (at_mem hi)
  · unfold at_
    rw [List.getD_eq_getElem?_getD, List.getElem?_eq_none_iff.mpr (by omega)]
    exact Nat.zero_le _
theorem spanL_le : ∀ (l : List (List Nat)), (∀ p ∈ l, p ∈ PHASES) → spanL l ≤ 5 * l.length
  | [], _ => by simp [spanL]
  | p :: r, h => by
    have ih := spanL_le r fun q hq => h q (List.mem_cons_of_mem _ hq)
    have hp : p.length ≤ 4 := by
      have := h p List.mem_cons_self
      simp [PHASES] at this
      rcases this with rfl | rfl | rfl | rfl | rfl <;> decide
    unfold spanL at ih ⊢
    rw [List.map_cons, List.sum_cons, List.length_cons]
    omega
theorem mu_le {s : State} (w : WF s) : mu s ≤ 520 := by
  have h1 := spanL_le s.later w.later
  have h2 := w.laterL
  have h3 := w.restL
  have a1 := at_le w.ss 1
  have a2 := at_le w.ss 12
  have b1 := at_le w.st 0
  have b2 := at_le w.st 1
  unfold mu cA cB
  split <;> omega
end MA
end
section
set_option linter.all false
namespace MA
open Vbdcaf
/-! ### one turn of going on -/
def tkStep (s : State) (k : Nat) (r : List Nat) : Bool × State × List Ev :=
  let s1 := { s with rest := r }
  if leftOut s1 k = true then (false, s1, [])
  else if 0 < at_ s1.skipSteps (11 * s1.active + k) then (false, { s1 with skipSteps := drop1 s1.skipSteps (11 * s1.active + k) }, [{ sort := 6, what := k }])
  else
    let x := begins s1 k
    if asks x.1 = true then (true, { x.1 with holder := x.1.active, passes := 0 }, x.2)
    else
      let y := endMarks x.1 till0
      (false, y.1, x.2 ++ y.2)
def tkPhase (s : State) (ph : List Nat) (l : List (List Nat)) : State × List Ev :=
  if ph.head? = some 4 ∧ 0 < at_ s.skipFights s.active then ({ s with later := l, skipFights := drop1 s.skipFights s.active }, [{ sort := 9, what := s.active }])
  else ({ s with rest := ph, later := l }, [])
def lkTurn (s : State) : State × List Ev :=
  let n := nextSide s
  if 0 < at_ n.2.skipTurns n.1 then ({ n.2 with skipTurns := drop1 n.2.skipTurns n.1 }, [{ sort := 7, what := n.1 }])
  else beginTurn n.2 n.1
def lvPhase (s : State) : State × List Ev :=
  let x := endMarks s till1
  let y := match x.1.later with
    | ph :: l => tkPhase x.1 ph l
    | [] => lkTurn x.1
  (y.1, x.2 ++ y.2)
def one (s : State) : Bool × State × List Ev := match s.rest with
  | k :: r => tkStep s k r
  | [] => (false, lvPhase s)
theorem onward_one (f : Nat) (s : State) (e : List Ev) : onward (f + 1) s e = if (one s).1 = true then ((one s).2.1, e ++ (one s).2.2) else onward f (one s).2.1 (e ++ (one s).2.2) := by
  rw [onward]
  unfold one
  cases hr : s.rest with
  | cons k r =>
    dsimp only
    unfold tkStep
    dsimp only
    split
    · simp
    · split
      · simp
      · split <;> simp
  | nil =>
    dsimp only
    unfold lvPhase
    dsimp only
    cases hl : (endMarks s till1).1.later with
    | cons ph l =>
      dsimp only
      unfold tkPhase
      split <;> simp
    | nil =>
      dsimp only
      unfold lkTurn
      dsimp only
      split <;> simp
/-! ### the parts keep WF -/
theorem WF.endMarks {s : State} (w : WF s) (p : Mark → Bool) : WF (endMarks s p).1 := by
  unfold Vbdcaf.endMarks
  exact { w with
    marksL := Nat.le_trans (List.length_filter_le _ _) w.marksL
    mSort := w.mSort.sublist (List.filter_sublist.map _)
    mNext := fun m hm => w.mNext m (List.mem_filter.mp hm).1
    mSide := fun m hm => w.mSide m (List.mem_filter.mp hm).1 }
theorem len_drop1 (l : List Nat) (i : Nat) : (drop1 l i).length = l.length := by unfold drop1; simp
theorem len_bump (l : List Nat) (i : Nat) : (bump l i).length = l.length := by unfold bump; simp
theorem mem_modify {f : Nat → Nat} : ∀ {l : List Nat} {i n : Nat}, n ∈ l.modify i f → n ∈ l ∨ ∃ m, m ∈ l ∧ l[i]? = some m ∧ n = f m
  | [], i, n, h => by cases i <;> simp [List.modify] at h
  | a :: r, 0, n, h => by
    simp at h
    rcases h with rfl | h
    · exact .inr ⟨a, List.mem_cons_self, rfl, rfl⟩
    · exact .inl (List.mem_cons_of_mem _ h)
  | a :: r, i + 1, n, h => by
    simp at h
    rcases h with rfl | h
    · exact .inl List.mem_cons_self
    · rcases mem_modify h with h | ⟨m, h1, h2, h3⟩
      · exact .inl (List.mem_cons_of_mem _ h)
      · exact .inr ⟨m, List.mem_cons_of_mem _ h1, by simpa using h2, h3⟩
theorem drop1_le {l : List Nat} {b : Nat} (h : ∀ n ∈ l, n ≤ b) (i : Nat) : ∀ n ∈ drop1 l i, n ≤ b := fun n hn => by
  rcases mem_modify hn with q | ⟨m, h1, _, e⟩
  · exact h n q
  · have := h m h1
    omega
theorem bump_le {l : List Nat} {b : Nat} (h : ∀ n ∈ l, n ≤ b) (i : Nat) (hi : at_ l i < b) : ∀ n ∈ bump l i, n ≤ b := fun n hn => by
  rcases mem_modify hn with q | ⟨m, h1, h2, e⟩
  · exact h n q
  · unfold at_ at hi
    rw [List.getD_eq_getElem?_getD, h2] at hi
    dsimp at hi
    omega
/-- the things that come -/
def comes (s : State) (k : Nat) : List Delay :=
  let now (d : Delay) : Bool := d.step == k && (d.side == 2 || d.side == s.active)
  (s.delays.filter fun d => now d && d.owner == s.active) ++ s.delays.filter fun d => now d && d.owner != s.active
theorem part3 {α : Type} (l : List α) (p q : α → Bool) : List.Perm ((l.filter fun d => p d && q d) ++ (l.filter fun d => p d && !q d) ++ l.filter fun d => !p d) l := by
  induction l with
  | nil => simp
  | cons a r ih =>
    cases hp : p a <;> cases hq : q a
    · simp [List.filter_cons, hp, hq]
      exact (List.perm_middle (l₁ := (r.filter fun d => p d && q d) ++ r.filter fun d => p d && !q d)).trans (.cons a ih) |> (by simpa using ·)
    · simp [List.filter_cons, hp, hq]
      exact (List.perm_middle (l₁ := (r.filter fun d => p d && q d) ++ r.filter fun d => p d && !q d)).trans (.cons a ih) |> (by simpa using ·)
    · simp [List.filter_cons, hp, hq]
      exact (List.perm_middle (l₁ := (r.filter fun d => p d && q d))).trans (.cons a (by simpa using ih)) |> (by simpa using ·)
    · simp [List.filter_cons, hp, hq]
      simpa using ih
theorem comes_perm (s : State) (k : Nat) : List.Perm (comes s k ++ s.delays.filter fun d => !(d.step == k && (d.side == 2 || d.side == s.active))) s.delays :=
  part3 s.delays (fun d => d.step == k && (d.side == 2 || d.side == s.active)) (fun d => d.owner == s.active)
theorem fire_eq (s : State) (k : Nat) : fire s k = ({ s with delays := s.delays.filter (fun d => !(d.step == k && (d.side == 2 || d.side == s.active))), stack := ((comes s k).map fun d => ({ num := d.num, side := d.owner } : Item)).reverse ++ s.stack, put := s.put + (comes s k).length }, (comes s k).map fun d => ({ sort := 5, what := d.num } : Ev)) := rfl
theorem WF.fire {s : State} (w : WF s) (k : Nat) : WF (fire s k).1 := by
  rw [fire_eq]
  have hp := comes_perm s k
  have hl := hp.length_eq
  rw [List.length_append] at hl
  have hm : ∀ d ∈ comes s k, d ∈ s.delays := fun d hd => hp.subset (List.mem_append_left _ hd)
  exact { w with
    things := by
      have := w.things
      simp only [List.length_append, List.length_reverse, List.length_map]
      omega
    dSort := w.dSort.sublist (List.filter_sublist.map _)
    dNext := fun d hd => w.dNext d (List.mem_filter.mp hd).1
    dOwn := fun d hd => w.dOwn d (List.mem_filter.mp hd).1
    sNd := by
      refine (List.Perm.nodup_iff ?_).mpr w.sNd
      simp only [List.map_append, List.map_reverse, List.map_map]
      have e : (fun d : Delay => d.num) = ((fun x : Item => x.num) ∘ fun d : Delay => ({ num := d.num, side := d.owner } : Item)) := rfl
      rw [← e]
      have h1 : List.Perm (((comes s k).map fun d => d.num).reverse ++ s.stack.map (·.num)) (s.stack.map (·.num) ++ (comes s k).map fun d => d.num) :=
        (List.perm_append_comm).trans ((List.reverse_perm _).append_left _)
      refine (h1.append_right _).trans ?_
      rw [List.append_assoc, ← List.map_append]
      exact (hp.map _).append_left _
    sNext := fun i hi => by
      rcases List.mem_append.mp hi with q | q
      · obtain ⟨d, hd, rfl⟩ := List.mem_map.mp (List.mem_reverse.mp q)
        exact w.dNext d (hm d hd)
      · exact w.sNext i q }
theorem WF.begins {s : State} (w : WF s) {k : Nat} (hk : k ≤ 10) : WF (begins s k).1 := by
  unfold Vbdcaf.begins
  have w1 : WF { s with step := k, fights := s.fights && k != 4, firsts := s.firsts && k != 4 } := { w with stp := hk }
  exact (w1.endMarks _).fire k
theorem WF.tkStep {s : State} (w : WF s) {k : Nat} {r : List Nat} (hr : s.rest = k :: r) : WF (tkStep s k r).2.1 := by
  have hk : k ≤ 10 := w.rest k (by rw [hr]; exact List.mem_cons_self)
  have w1 : WF { s with rest := r } := { w with
    rest := fun j hj => w.rest j (by rw [hr]; exact List.mem_cons_of_mem _ hj)
    restL := by have := w.restL; rw [hr, List.length_cons] at this; show r.length ≤ 21; omega }
  unfold MA.tkStep
  dsimp only
  split
  · exact w1
  · split
    · exact { w1 with ssL := by rw [len_drop1]; exact w.ssL, ss := drop1_le w.ss _ }
    · split
      · have w2 := w1.begins hk
        exact { w2 with hold := w2.act, pas := Nat.zero_le _ }
      · exact (w1.begins hk).endMarks _
theorem WF.tkPhase {s : State} (w : WF s) {ph : List Nat} {l : List (List Nat)} (hl : s.later = ph :: l) : WF (tkPhase s ph l).1 := by
  have hp : ph ∈ PHASES := w.later ph (by rw [hl]; exact List.mem_cons_self)
  have h2 : ∀ p ∈ l, p ∈ PHASES := fun p hp => w.later p (by rw [hl]; exact List.mem_cons_of_mem _ hp)
  have h3 : l.length ≤ 20 := by have := w.laterL; rw [hl, List.length_cons] at this; omega
  unfold MA.tkPhase
  split
  · exact { w with later := h2, laterL := h3, sfL := by rw [len_drop1]; exact w.sfL, sf := drop1_le w.sf _ }
  · refine { w with later := h2, laterL := h3, rest := ?_, restL := ?_ }
    · simp [PHASES] at hp
      rcases hp with rfl | rfl | rfl | rfl | rfl <;> simp
    · simp [PHASES] at hp
      rcases hp with rfl | rfl | rfl | rfl | rfl <;> simp
theorem WF.beginTurn {s : State} (w : WF s) {p : Nat} (hp : p ≤ 1) : WF (beginTurn s p).1 := by
  unfold Vbdcaf.beginTurn
  have w1 := w.endMarks fun m => m.till == 3 && m.side == p
  have e : ∀ l : List Mark, (l.map fun m => if m.till = 4 ∧ m.side = p then { m with till := 2 } else m).map (·.num) = l.map (·.num) := fun l => by
    rw [List.map_map]
    refine List.map_congr_left fun m _ => ?_
    dsimp
    split <;> rfl
  exact { w1 with
    act := hp
    later := fun q hq => hq
    laterL := by show PHASES.length ≤ 20; decide
    trL := by rw [len_bump]; exact w.trL
    marksL := by rw [List.length_map]; exact w1.marksL
    mSort := by rw [e]; exact w1.mSort
    mNext := fun m hm => by
      obtain ⟨m', h1, rfl⟩ := List.mem_map.mp hm
      have := w1.mNext m' h1
      dsimp
      split <;> exact this
    mSide := fun m hm => by
      obtain ⟨m', h1, rfl⟩ := List.mem_map.mp hm
      have := w1.mSide m' h1
      split <;> exact this }
theorem WF.nextSide {s : State} (w : WF s) : WF (nextSide s).2 ∧ (nextSide s).1 ≤ 1 := by
  unfold Vbdcaf.nextSide
  cases h : s.extra with
  | cons p r =>
    exact ⟨{ w with extra := fun q hq => w.extra q (by rw [h]; exact List.mem_cons_of_mem _ hq), extraL := by have := w.extraL; rw [h, List.length_cons] at this; show r.length ≤ 20; omega }, w.extra p (by rw [h]; exact List.mem_cons_self)⟩
  | nil =>
    exact ⟨{ w with ord := by show other s.ordinary ≤ 1; unfold other; omega, extra := fun q hq => (by cases hq), extraL := Nat.zero_le _ }, by show other s.ordinary ≤ 1; unfold other; omega⟩
theorem WF.lkTurn {s : State} (w : WF s) : WF (lkTurn s).1 := by
  unfold MA.lkTurn
  obtain ⟨w1, h1⟩ := w.nextSide
  dsimp only
  split
  · exact { w1 with stL := by rw [len_drop1]; exact w1.stL, st := drop1_le w1.st _ }
  · exact w1.beginTurn h1
theorem WF.lvPhase {s : State} (w : WF s) : WF (lvPhase s).1 := by
  unfold MA.lvPhase
  have w1 := w.endMarks till1
  dsimp only
  split
  · rename_i ph l h
    exact w1.tkPhase h
  · exact w1.lkTurn
theorem WF.one {s : State} (w : WF s) : WF (one s).2.1 := by
  unfold MA.one
  split
  · rename_i k r h
    exact w.tkStep h
  · exact w.lvPhase
end MA
end
section
set_option linter.all false
namespace MA
open Vbdcaf
/-! ### the measure falls -/
theorem at_eq (l : List Nat) (i : Nat) : at_ l i = (l[i]?).getD 0 := by unfold at_; rw [List.getD_eq_getElem?_getD]
theorem at_drop1_self {l : List Nat} {i : Nat} (h : 0 < at_ l i) : at_ (drop1 l i) i + 1 = at_ l i := by
  rw [at_eq] at *
  rw [at_eq]
  unfold drop1
  rw [List.getElem?_modify]
  cases e : l[i]? with
  | none => rw [e] at h; simp at h
  | some n =>
    rw [e] at h
    have h' : 0 < n := h
    simp
    omega
theorem at_drop1_ne {l : List Nat} {i j : Nat} (h : j ≠ i) : at_ (drop1 l i) j = at_ l j := by
  unfold at_ drop1
  rw [List.getD_eq_getElem?_getD, List.getD_eq_getElem?_getD, List.getElem?_modify]
  cases e : l[j]? with
  | none => simp
  | some n => simp [Ne.symm h]
/-- what of a state the measure reads -/
theorem mu_same {s t : State} (h1 : t.rest = s.rest) (h2 : t.later = s.later) (h3 : t.skipSteps = s.skipSteps) (h4 : t.skipTurns = s.skipTurns) : mu t = mu s := by
  unfold mu cA cB has1
  rw [h1, h2, h3, h4]
theorem mu_rest {s : State} {k : Nat} {r : List Nat} (hr : s.rest = k :: r) (hk : k ≠ 1) : mu { s with rest := r } + 1 = mu s := by
  unfold mu cA cB has1
  rw [hr]
  have e : (k == 1) = false := by simpa using hk
  simp only [List.any_cons, e, Bool.false_or, List.length_cons]
  omega
theorem leftOut_ne {s : State} {k : Nat} (h : leftOut s k = true) : k ≠ 1 := by
  rintro rfl
  simp [leftOut] at h
theorem fields_endMarks (s : State) (p : Mark → Bool) : (endMarks s p).1.rest = s.rest ∧ (endMarks s p).1.later = s.later ∧ (endMarks s p).1.skipSteps = s.skipSteps ∧ (endMarks s p).1.skipTurns = s.skipTurns := ⟨rfl, rfl, rfl, rfl⟩
theorem mu_endMarks (s : State) (p : Mark → Bool) : mu (endMarks s p).1 = mu s := mu_same rfl rfl rfl rfl
theorem mu_begins (s : State) (k : Nat) : mu (begins s k).1 = mu s := mu_same rfl rfl rfl rfl
theorem step_begins (s : State) (k : Nat) : (begins s k).1.step = k := rfl
theorem mu_tkStep {s : State} (w : WF s) {k : Nat} {r : List Nat} (hr : s.rest = k :: r) (ha : (tkStep s k r).1 = false) : mu (tkStep s k r).2.1 < mu s := by
  unfold tkStep at *
  dsimp only at *
  split
  · rename_i h
    have := mu_rest hr (leftOut_ne h)
    show mu { s with rest := r } < mu s
    omega
  · rename_i h
    rw [if_neg h] at ha
    split
    · rename_i h2
      by_cases hk : k = 1
      · subst hk
        have hs := at_drop1_self h2
        have hact := w.act
        have key : mu { s with rest := r, skipSteps := drop1 s.skipSteps (11 * s.active + 1) } < mu s := by
          unfold mu cA cB has1
          rw [hr]
          have e : ((1 : Nat) == 1) = true := rfl
          simp only [List.any_cons, e, Bool.true_or, List.length_cons, if_true]
          have ca : at_ (drop1 s.skipSteps (11 * s.active + 1)) 1 + at_ (drop1 s.skipSteps (11 * s.active + 1)) 12 + 1 = at_ s.skipSteps 1 + at_ s.skipSteps 12 := by
            rcases Nat.lt_or_ge s.active 1 with q | q
            · have e0 : s.active = 0 := by omega
              rw [e0] at hs ⊢
              have e1 := at_drop1_ne (l := s.skipSteps) (i := 11 * 0 + 1) (j := 12) (by omega)
              rw [e1]
              have hs' : at_ (drop1 s.skipSteps (11 * 0 + 1)) 1 + 1 = at_ s.skipSteps 1 := hs
              omega
            · have e0 : s.active = 1 := by omega
              rw [e0] at hs ⊢
              have e1 := at_drop1_ne (l := s.skipSteps) (i := 11 * 1 + 1) (j := 1) (by omega)
              rw [e1]
              have hs' : at_ (drop1 s.skipSteps (11 * 1 + 1)) 12 + 1 = at_ s.skipSteps 12 := hs
              omega
          split <;> omega
        exact key
      · have e1 : mu { s with rest := r, skipSteps := drop1 s.skipSteps (11 * s.active + k) } = mu { s with rest := r } := by
          have hact := w.act
          have hk10 : k ≤ 10 := w.rest k (by rw [hr]; exact List.mem_cons_self)
          unfold mu cA cB has1
          dsimp only
          rw [at_drop1_ne (by omega), at_drop1_ne (by omega)]
        have := mu_rest hr hk
        show mu { s with rest := r, skipSteps := drop1 s.skipSteps (11 * s.active + k) } < mu s
        omega
    · rename_i h2
      rw [if_neg h2] at ha
      split
      · rename_i h3
        rw [if_pos h3] at ha
        cases ha
      · rename_i h3
        have hk : k ≠ 1 := by
          rintro rfl
          apply h3
          unfold asks
          rw [step_begins]
          rfl
        rw [mu_endMarks, mu_begins]
        have := mu_rest hr hk
        omega
theorem mu_tkPhase {s : State} (w : WF s) (hr : s.rest = []) {ph : List Nat} {l : List (List Nat)} (hl : s.later = ph :: l) : mu (tkPhase s ph l).1 < mu s := by
  have hp : ph ∈ PHASES := w.later ph (by rw [hl]; exact List.mem_cons_self)
  unfold tkPhase
  split
  · rename_i h
    have e : ph.any (· == 1) = false := by
      simp [PHASES] at hp
      rcases hp with rfl | rfl | rfl | rfl | rfl <;> first | rfl | (simp at h)
    unfold mu cA cB has1 spanL
    rw [hl, hr]
    simp only [List.any_cons, e, Bool.false_or, List.map_cons, List.sum_cons, List.any_nil]
    omega
  · unfold mu cA cB has1 spanL
    rw [hl, hr]
    dsimp only
    simp only [List.any_cons, List.map_cons, List.sum_cons, List.any_nil, Bool.false_or, List.length_nil]
    omega
theorem mu_lkTurn {s : State} (w : WF s) (hr : s.rest = []) (hl : s.later = []) : mu (lkTurn s).1 < mu s := by
  have f : (nextSide s).2.rest = s.rest ∧ (nextSide s).2.later = s.later ∧ (nextSide s).2.skipSteps = s.skipSteps ∧ (nextSide s).2.skipTurns = s.skipTurns := by
    unfold nextSide
    split <;> exact ⟨rfl, rfl, rfl, rfl⟩
  obtain ⟨f1, f2, f3, f4⟩ := f
  have hp := w.nextSide.2
  unfold lkTurn
  dsimp only
  split
  · rename_i h
    rw [f4] at h
    have hs := at_drop1_self h
    unfold mu cA cB has1
    dsimp only
    rw [f1, f2, f3, f4]
    rcases Nat.lt_or_ge (nextSide s).1 1 with q | q
    · have e0 : (nextSide s).1 = 0 := by omega
      rw [e0] at hs ⊢
      rw [at_drop1_ne (show (1 : Nat) ≠ 0 by omega)]
      omega
    · have e0 : (nextSide s).1 = 1 := by omega
      rw [e0] at hs ⊢
      rw [at_drop1_ne (show (0 : Nat) ≠ 1 by omega)]
      omega
  · have e : mu (beginTurn (nextSide s).2 (nextSide s).1).1 = 16 + 20 * cA s + cB s := by
      have g1 : (beginTurn (nextSide s).2 (nextSide s).1).1.rest = s.rest := f1
      have g2 : (beginTurn (nextSide s).2 (nextSide s).1).1.later = PHASES := rfl
      have g3 : (beginTurn (nextSide s).2 (nextSide s).1).1.skipSteps = s.skipSteps := f3
      have g4 : (beginTurn (nextSide s).2 (nextSide s).1).1.skipTurns = s.skipTurns := f4
      unfold mu cA cB has1
      rw [g1, g2, g3, g4, hr]
      have e1 : spanL PHASES = 16 := rfl
      have e2 : (([] : List Nat).any (· == 1) || PHASES.any fun p => p.any (· == 1)) = true := rfl
      rw [e1, e2]
      simp
    rw [e]
    unfold mu has1
    rw [hr, hl]
    simp [spanL]
    omega
theorem mu_lvPhase {s : State} (w : WF s) (hr : s.rest = []) : mu (lvPhase s).1 < mu s := by
  have w1 := w.endMarks till1
  have e := mu_endMarks s till1
  unfold lvPhase
  dsimp only
  split
  · rename_i ph l h
    have := mu_tkPhase w1 hr h
    omega
  · rename_i h
    have := mu_lkTurn w1 hr h
    omega
theorem mu_one {s : State} (w : WF s) (ha : (one s).1 = false) : mu (one s).2.1 < mu s := by
  unfold one at *
  split
  · rename_i k r h
    rw [h] at ha
    exact mu_tkStep w h ha
  · rename_i h
    exact mu_lvPhase w h
/-! ### how much happens -/
def pot (s : State) : Nat := s.marks.length + s.delays.length
theorem filter_parts {α : Type} (l : List α) (p : α → Bool) : (l.filter fun x => !p x).length + (l.filter p).length = l.length := by
  induction l with
  | nil => rfl
  | cons a r ih =>
    cases h : p a <;> simp [List.filter_cons, h] <;> omega
theorem pot_endMarks (s : State) (p : Mark → Bool) : (endMarks s p).2.length + pot (endMarks s p).1 = pot s := by
  unfold endMarks pot
  dsimp only
  rw [List.length_map]
  have := filter_parts s.marks p
  omega
theorem pot_fire (s : State) (k : Nat) : (fire s k).2.length + pot (fire s k).1 = pot s := by
  rw [fire_eq]
  unfold pot
  dsimp only
  rw [List.length_map]
  have := (comes_perm s k).length_eq
  rw [List.length_append] at this
  omega
theorem pot_begins (s : State) (k : Nat) : (begins s k).2.length + pot (begins s k).1 = pot s + 1 := by
  unfold begins
  dsimp only
  rw [List.length_cons, List.length_append]
  have h1 := pot_endMarks { s with step := k, fights := s.fights && k != 4, firsts := s.firsts && k != 4 } fun m => (m.till == 2 && k == DUSK) || (m.till == 5 && (m.side == s.active && m.step == k))
  have h2 := pot_fire (endMarks { s with step := k, fights := s.fights && k != 4, firsts := s.firsts && k != 4 } fun m => (m.till == 2 && k == DUSK) || (m.till == 5 && (m.side == s.active && m.step == k))).1 k
  have h3 : pot { s with step := k, fights := s.fights && k != 4, firsts := s.firsts && k != 4 } = pot s := rfl
  omega
theorem pot_beginTurn (s : State) (p : Nat) : (beginTurn s p).2.length + pot (beginTurn s p).1 = pot s + 1 := by
  unfold beginTurn
  dsimp only
  have h1 := pot_endMarks s fun m => m.till == 3 && m.side == p
  unfold pot at *
  rw [List.length_cons]
  dsimp only
  rw [List.length_map]
  have h2 : (endMarks s fun m => m.till == 3 && m.side == p).1.delays = s.delays := rfl
  rw [h2] at h1
  show _ + 1 + (_ + s.delays.length) = _
  omega
theorem pot_tkPhase (s : State) (ph : List Nat) (l : List (List Nat)) : (tkPhase s ph l).2.length + pot (tkPhase s ph l).1 ≤ pot s + 1 := by
  unfold tkPhase
  split
  · exact Nat.le_of_eq (Nat.add_comm 1 (pot s))
  · exact Nat.le_trans (Nat.le_of_eq (Nat.zero_add (pot s))) (Nat.le_succ _)
theorem pot_lkTurn (s : State) : (lkTurn s).2.length + pot (lkTurn s).1 ≤ pot s + 1 := by
  have h3 : pot (nextSide s).2 = pot s := by
    unfold nextSide
    split <;> rfl
  unfold lkTurn
  dsimp only
  split
  · rw [← h3]
    exact Nat.le_of_eq (Nat.add_comm 1 (pot (nextSide s).2))
  · have h4 := pot_beginTurn (nextSide s).2 (nextSide s).1
    omega
theorem pot_one (s : State) : (one s).2.2.length + pot (one s).2.1 ≤ pot s + 1 := by
  unfold one
  split
  · rename_i k r _
    unfold tkStep
    dsimp only
    split
    · exact Nat.le_add_right_of_le (Nat.le_of_eq (Nat.zero_add _))
    · split
      · exact Nat.le_of_eq (Nat.add_comm _ _)
      · have h1 := pot_begins { s with rest := r } k
        have h3 : pot { s with rest := r } = pot s := rfl
        split
        · exact Nat.le_of_eq h1
        · have h2 := pot_endMarks (begins { s with rest := r } k).1 till0
          dsimp only
          rw [List.length_append]
          omega
  · unfold lvPhase
    dsimp only
    rw [List.length_append]
    have h1 := pot_endMarks s till1
    split
    · rename_i ph l _
      have := pot_tkPhase (endMarks s till1).1 ph l
      omega
    · have := pot_lkTurn (endMarks s till1).1
      omega
/-- going on to its end: enough fuel, what is kept, how much happens -/
theorem onward_ok : ∀ (f : Nat) (s : State) (e : List Ev), WF s → mu s < f → WF (onward f s e).1 ∧ (onward f s e).2.length + pot (onward f s e).1 ≤ e.length + pot s + mu s + 1
  | 0, s, e, w, h => absurd h (Nat.not_lt_zero _)
  | f + 1, s, e, w, h => by
    rw [onward_one]
    have hp := pot_one s
    have w1 := w.one
    split
    · refine ⟨w1, ?_⟩
      dsimp only
      rw [List.length_append]
      omega
    · rename_i ha
      have hm := mu_one w (by simpa using ha)
      obtain ⟨h1, h2⟩ := onward_ok f (one s).2.1 (e ++ (one s).2.2) w1 (by omega)
      refine ⟨h1, ?_⟩
      rw [List.length_append] at h2
      omega
end MA
end
section
set_option linter.all false
namespace MA
open Vbdcaf
def room : Nat := 2000
theorem len_flat (l : List Ev) : (l.flatMap fun e => [e.sort, e.what]).length = 2 * l.length := by
  induction l with
  | nil => rfl
  | cons a r ih => rw [List.flatMap_cons, List.length_append, ih, List.length_cons]; simp; omega
theorem len_tell (x : State × List Ev) : (tell x).2.length = 2 * x.2.length + 1 := by
  unfold tell yes
  dsimp only
  rw [List.length_cons, List.length_map, len_flat]
theorem len_no (s : State) (k : Nat) : (no s k).2.length = 1 := rfl
theorem len_yes (s : State) (l : List Nat) : (yes s l).2.length = l.length + 1 := by
  unfold yes
  dsimp only
  rw [List.length_cons, List.length_map]
/-- what holds between two calls -/
structure WK (s : State) : Prop extends WF s where
  r20 : s.rest.length ≤ 20
theorem wk_start : WK start := by
  refine { act := ?_, ord := ?_, hold := ?_, stp := ?_, rest := ?_, restL := ?_, later := ?_, laterL := ?_, extra := ?_, extraL := ?_, stL := ?_, st := ?_, sfL := ?_, sf := ?_, ssL := ?_, ss := ?_, pas := ?_, things := ?_, marksL := ?_, mSort := ?_, mNext := ?_, mSide := ?_, dSort := ?_, dNext := ?_, dOwn := ?_, sNd := ?_, sNext := ?_, trL := ?_, nx1 := ?_, r20 := ?_ } <;> simp [start]
theorem one_asked {s : State} (w : WF s) (h : (one s).1 = true) : (one s).2.1.rest.length ≤ 20 ∧ 1 ≤ (one s).2.1.turn + 1 := by
  refine ⟨?_, Nat.le_add_left _ _⟩
  unfold one at *
  split
  · rename_i k r hr
    rw [hr] at h
    dsimp only at h
    have hl := w.restL
    rw [hr, List.length_cons] at hl
    unfold tkStep at *
    dsimp only at *
    split
    · show r.length ≤ 20
      omega
    · split
      · show r.length ≤ 20
        omega
      · split
        · show r.length ≤ 20
          omega
        · show r.length ≤ 20
          omega
  · rename_i hr
    rw [hr] at h
    cases h
theorem onward_rest : ∀ (f : Nat) (s : State) (e : List Ev), WF s → mu s < f → (onward f s e).1.rest.length ≤ 20
  | 0, s, e, w, h => absurd h (Nat.not_lt_zero _)
  | f + 1, s, e, w, h => by
    rw [onward_one]
    split
    · rename_i ha
      exact (one_asked w ha).1
    · rename_i ha
      have hm := mu_one w (by simpa using ha)
      exact onward_rest f _ _ w.one (by omega)
def Good (x : State × List Int) : Prop := WK x.1 ∧ x.2.length ≤ room
theorem good_no {s : State} (w : WK s) (k : Nat) : Good (no s k) := ⟨w, by rw [len_no]; decide⟩
theorem good_yes {s : State} {l : List Nat} (w : WK s) (h : l.length ≤ 1999) : Good (yes s l) := ⟨w, by rw [len_yes]; unfold room; omega⟩
theorem pot_le {s : State} (w : WF s) : pot s ≤ 128 := by
  have h1 := w.marksL
  have h2 := w.things
  unfold pot
  omega
theorem good_on {s : State} {e : List Ev} (w : WF s) (h : e.length + pot s ≤ 300) : Good (tell (onward FUEL s e)) := by
  have hm := mu_le w
  obtain ⟨h1, h2⟩ := onward_ok FUEL s e w (by unfold FUEL; omega)
  refine ⟨⟨h1, onward_rest FUEL s e w (by unfold FUEL; omega)⟩, ?_⟩
  rw [len_tell]
  unfold room
  omega
theorem good_endStep {s : State} (w : WK s) : Good (tell (endStep s)) := by
  unfold endStep
  have w1 := w.toWF.endMarks till0
  have h1 := pot_endMarks s till0
  have h2 := pot_le w.toWF
  have h3 := w.r20
  dsimp only
  split
  · refine good_on (s := { (endMarks s till0).1 with rest := DUSK :: (endMarks s till0).1.rest }) { w1 with rest := ?_, restL := ?_ } ?_
    · intro k hk
      rcases List.mem_cons.mp hk with rfl | hk
      · decide
      · exact w.rest k hk
    · show (DUSK :: s.rest).length ≤ 21
      rw [List.length_cons]
      omega
    · show _ + pot (endMarks s till0).1 ≤ 300
      omega
  · exact good_on w1 (by omega)
theorem from_ok {n lo hi : Int} (h : ¬ from_ n lo hi = false) : lo ≤ n ∧ n ≤ hi := by
  unfold from_ at h
  simpa using h
theorem wf_clear {s : State} (w : WF s) : WF (clear s).1 := by
  unfold clear
  exact { w with
    things := by have := w.things; show 0 + s.delays.length ≤ 64; omega
    sNd := by
      have := w.sNd
      exact (List.nodup_append.mp this).2.1
    sNext := fun i hi => by cases hi }
theorem len_clear (s : State) : (clear s).2.length = s.stack.length := by unfold clear; simp
theorem pot_clear (s : State) : pot (clear s).1 = pot s := rfl
theorem wk_pass {s : State} (w : WK s) : Good (tell (pass_ s)) := by
  unfold pass_
  split
  · refine ⟨{ w with hold := by show other s.holder ≤ 1; unfold other; omega, pas := Nat.le_refl _ }, ?_⟩
    rw [len_tell]
    show 2 * 0 + 1 ≤ room
    decide
  · split
    · rename_i i r h
      refine ⟨?_, by rw [len_tell]; show 2 * 1 + 1 ≤ room; decide⟩
      exact { w with
        hold := w.act, pas := Nat.zero_le _
        things := by have := w.things; rw [h, List.length_cons] at this; show r.length + s.delays.length ≤ 64; omega
        sNd := by
          have := w.sNd
          rw [h, List.map_cons, List.cons_append] at this
          exact (List.nodup_cons.mp this).2
        sNext := fun j hj => w.sNext j (by rw [h]; exact List.mem_cons_of_mem _ hj) }
    · exact good_endStep w
theorem pair_snoc {l : List Nat} {n : Nat} (h : l.Pairwise (· < ·)) (hn : ∀ x ∈ l, x < n) : (l ++ [n]).Pairwise (· < ·) := by
  rw [List.pairwise_append]
  refine ⟨h, List.pairwise_singleton _ _, fun a ha b hb => ?_⟩
  rw [List.mem_singleton] at hb
  subst hb
  exact hn a ha
theorem len_flat3 (l : List Item) : (l.flatMap fun i => [i.num, i.side, bit i.shut]).length = 3 * l.length := by
  induction l with
  | nil => rfl
  | cons a r ih => rw [List.flatMap_cons, List.length_append, ih, List.length_cons]; simp; omega
theorem len_flat4 (l : List Mark) : (l.flatMap fun m => [m.num, m.till, m.side, m.step]).length = 4 * l.length := by
  induction l with
  | nil => rfl
  | cons a r ih => rw [List.flatMap_cons, List.length_append, ih, List.length_cons]; simp; omega
theorem len_flat5 (l : List Delay) : (l.flatMap fun d => [d.num, d.owner, d.side, d.step]).length = 4 * l.length := by
  induction l with
  | nil => rfl
  | cons a r ih => rw [List.flatMap_cons, List.length_append, ih, List.length_cons]; simp; omega
theorem len_flat6 (l : List (List Nat)) : (l.flatMap fun p => p.length :: p).length = spanL l := by
  induction l with
  | nil => rfl
  | cons a r ih =>
    rw [List.flatMap_cons, List.length_append, ih, List.length_cons]
    unfold spanL
    rw [List.map_cons, List.sum_cons]
theorem at_bump_lt {l : List Nat} (h : ∀ n ∈ l, n ≤ 9) {i : Nat} (hi : ¬ TIMES ≤ at_ l i) : ∀ n ∈ bump l i, n ≤ 9 := bump_le h i (by unfold TIMES at hi; omega)
theorem good_does {s : State} (w : WK s) (c : Call) : Good (does s c) := by
  have hp := pot_le w.toWF
  have ht := w.things
  have hm := w.marksL
  cases c with
  | begin_ side => dsimp only [does]; split <;> exact good_no w _
  | pass side =>
    dsimp only [does]
    split
    · exact good_no w _
    · split
      · exact good_no w _
      · exact wk_pass w
  | act side shut slow =>
    dsimp only [does]
    split
    · exact good_no w _
    · rename_i h1
      split
      · exact good_no w _
      · rename_i h2
        split
        · exact good_no w _
        · split
          · exact good_no w _
          · have hf : s.stack.length + s.delays.length < 64 := by
              unfold full PLACES at h2
              simp at h2
              omega
            refine good_yes ?_ (by simp)
            exact { w with
              pas := Nat.zero_le _
              things := by show s.stack.length + 1 + s.delays.length ≤ 64; omega
              mNext := fun m hx => Nat.lt_succ_of_lt (w.mNext m hx)
              dNext := fun m hx => Nat.lt_succ_of_lt (w.dNext m hx)
              sNd := by
                show (s.next :: (s.stack.map (·.num) ++ s.delays.map (·.num))).Nodup
                refine List.nodup_cons.mpr ⟨fun hx => ?_, w.sNd⟩
                rcases List.mem_append.mp hx with q | q
                · obtain ⟨i, hi, e⟩ := List.mem_map.mp q
                  have := w.sNext i hi
                  omega
                · obtain ⟨i, hi, e⟩ := List.mem_map.mp q
                  have := w.dNext i hi
                  omega
              sNext := fun i hi => by
                rcases List.mem_cons.mp hi with rfl | hi
                · exact Nat.lt_succ_self _
                · exact Nat.lt_succ_of_lt (w.sNext i hi)
              nx1 := Nat.le_succ_of_le w.nx1 }
  | play side =>
    dsimp only [does]
    split
    · exact good_no w _
    · split
      · exact good_no w _
      · split
        · exact good_no w _
        · exact good_yes { w with pas := Nat.zero_le _ } (by simp)
  | now side =>
    dsimp only [does]
    split
    · exact good_no w _
    · exact good_yes w (by simp)
  | fight k =>
    dsimp only [does]
    split
    · exact good_no w _
    · split
      · exact good_no w _
      · exact good_yes { w with } (by simp)
  | extraTurn side =>
    dsimp only [does]
    split
    · exact good_no w _
    · rename_i h1
      have h1 := from_ok h1
      split
      · exact good_no w _
      · rename_i h2
        refine good_yes { w with extra := ?_, extraL := ?_ } (by simp)
        · intro p hx
          rcases List.mem_cons.mp hx with rfl | hx
          · omega
          · exact w.extra p hx
        · unfold LONG at h2
          show s.extra.length + 1 ≤ 20
          omega
  | extraPhase k =>
    dsimp only [does]
    split
    · exact good_no w _
    · rename_i h1
      have h1 := from_ok h1
      by_cases h2 : LONG ≤ s.later.length + (if k = 2 then 1 else 0)
      · rw [if_pos h2]
        exact good_no w _
      · rw [if_neg h2]
        unfold LONG at h2
        refine good_yes { w with later := ?_, laterL := ?_ } (by simp)
        · intro p hx
          rcases List.mem_append.mp hx with q | q
          · split at q
            · rw [List.mem_singleton.mp q]; decide
            · split at q
              · rw [List.mem_singleton.mp q]; decide
              · simp at q
                rcases q with rfl | rfl <;> decide
          · exact w.later p q
        · show ((if k = 0 then [[8]] else if k = 1 then [FIGHT] else [FIGHT, [8]]) ++ s.later).length ≤ 20
          rw [List.length_append]
          by_cases k2 : k = 2
          · rw [if_pos k2] at h2
            have e0 : ¬ k = 0 := by omega
            have e1 : ¬ k = 1 := by omega
            rw [if_neg e0, if_neg e1]
            show 2 + s.later.length ≤ 20
            omega
          · rw [if_neg k2] at h2
            by_cases e0 : k = 0
            · rw [if_pos e0]
              show 1 + s.later.length ≤ 20
              omega
            · rw [if_neg e0, if_pos (by omega)]
              show 1 + s.later.length ≤ 20
              omega
  | extraStep k =>
    dsimp only [does]
    split
    · exact good_no w _
    · rename_i h1
      split
      · exact good_no w _
      · rename_i h2
        unfold LONG at h2
        have hk : k = 1 ∨ k = 2 ∨ k = 9 := by omega
        refine good_yes { w with rest := ?_, restL := ?_, r20 := ?_ } (by simp)
        · intro p hx
          rcases List.mem_cons.mp hx with rfl | hx
          · omega
          · exact w.rest p hx
        · show s.rest.length + 1 ≤ 21
          omega
        · show s.rest.length + 1 ≤ 20
          omega
  | skipTurn side =>
    dsimp only [does]
    split
    · exact good_no w _
    · split
      · exact good_no w _
      · rename_i h2
        exact good_yes { w with stL := by rw [len_bump]; exact w.stL, st := at_bump_lt w.st h2 } (by simp)
  | skipStep side k =>
    dsimp only [does]
    split
    · exact good_no w _
    · split
      · exact good_no w _
      · rename_i h2
        exact good_yes { w with ssL := by rw [len_bump]; exact w.ssL, ss := at_bump_lt w.ss h2 } (by simp)
  | skipFight side =>
    dsimp only [does]
    split
    · exact good_no w _
    · split
      · exact good_no w _
      · rename_i h2
        exact good_yes { w with sfL := by rw [len_bump]; exact w.sfL, sf := at_bump_lt w.sf h2 } (by simp)
  | allow n =>
    dsimp only [does]
    split
    · exact good_no w _
    · exact good_yes { w with } (by simp)
  | counter n =>
    dsimp only [does]
    split
    · exact good_no w _
    · refine good_yes { w with things := ?_, sNd := ?_, sNext := ?_ } (by simp)
      · have := List.length_filter_le (fun i : Item => (i.num : Int) != n) s.stack
        show (s.stack.filter _).length + s.delays.length ≤ 64
        omega
      · exact w.sNd.sublist ((List.filter_sublist.map _).append (List.Sublist.refl _))
      · exact fun i hi => w.sNext i (List.mem_filter.mp hi).1
  | mark till side k =>
    dsimp only [does]
    split
    · exact good_no w _
    · rename_i h1
      split
      · exact good_no w _
      · rename_i h2
        unfold PLACES at h2
        have h3 : ¬ from_ side 0 1 = false := fun q => h1 (.inr (.inl q))
        have h3 := from_ok h3
        refine good_yes { w with marksL := ?_, mSort := ?_, mNext := ?_, mSide := ?_, dNext := fun m hx => Nat.lt_succ_of_lt (w.dNext m hx), sNext := fun m hx => Nat.lt_succ_of_lt (w.sNext m hx), nx1 := Nat.le_succ_of_le w.nx1 } (by simp)
        · rw [List.length_append]
          show s.marks.length + 1 ≤ 64
          omega
        · rw [List.map_append]
          refine pair_snoc w.mSort fun x hx => ?_
          obtain ⟨m, hm, rfl⟩ := List.mem_map.mp hx
          exact w.mNext m hm
        · intro m hx
          rcases List.mem_append.mp hx with q | q
          · exact Nat.lt_succ_of_lt (w.mNext m q)
          · rw [List.mem_singleton.mp q]
            exact Nat.lt_succ_self _
        · intro m hx
          rcases List.mem_append.mp hx with q | q
          · exact w.mSide m q
          · rw [List.mem_singleton.mp q]
            show side.toNat ≤ 1
            omega
  | unmark n =>
    dsimp only [does]
    split
    · exact good_no w _
    · refine good_yes { w with marksL := ?_, mSort := ?_, mNext := ?_, mSide := ?_ } (by simp)
      · exact Nat.le_trans (List.length_filter_le _ _) w.marksL
      · exact w.mSort.sublist (List.filter_sublist.map _)
      · exact fun m hm => w.mNext m (List.mem_filter.mp hm).1
      · exact fun m hm => w.mSide m (List.mem_filter.mp hm).1
  | delay owner side k =>
    dsimp only [does]
    split
    · exact good_no w _
    · rename_i h1
      split
      · exact good_no w _
      · rename_i h2
        have hf : s.stack.length + s.delays.length < 64 := by
          unfold full PLACES at h2
          simp at h2
          omega
        have h3 : ¬ from_ owner 0 1 = false := fun q => h1 (.inl q)
        have h3 := from_ok h3
        refine good_yes { w with things := ?_, dSort := ?_, dNext := ?_, dOwn := ?_, sNd := ?_, mNext := fun m hx => Nat.lt_succ_of_lt (w.mNext m hx), sNext := fun m hx => Nat.lt_succ_of_lt (w.sNext m hx), nx1 := Nat.le_succ_of_le w.nx1 } (by simp)
        · rw [List.length_append]
          show s.stack.length + (s.delays.length + 1) ≤ 64
          omega
        · rw [List.map_append]
          refine pair_snoc w.dSort fun x hx => ?_
          obtain ⟨m, hm, rfl⟩ := List.mem_map.mp hx
          exact w.dNext m hm
        · intro m hx
          rcases List.mem_append.mp hx with q | q
          · exact Nat.lt_succ_of_lt (w.dNext m q)
          · rw [List.mem_singleton.mp q]
            exact Nat.lt_succ_self _
        · intro m hx
          rcases List.mem_append.mp hx with q | q
          · exact w.dOwn m q
          · rw [List.mem_singleton.mp q]
            show owner.toNat ≤ 1
            omega
        · rw [List.map_append, ← List.append_assoc]
          rw [List.nodup_append]
          refine ⟨w.sNd, by simp, fun a ha b hb => ?_⟩
          have e : b = s.next := by simpa using hb
          subst e
          rcases List.mem_append.mp ha with q | q
          · obtain ⟨i, hi, rfl⟩ := List.mem_map.mp q
            exact Nat.ne_of_lt (w.sNext i hi)
          · obtain ⟨i, hi, rfl⟩ := List.mem_map.mp q
            exact Nat.ne_of_lt (w.dNext i hi)
  | undelay n =>
    dsimp only [does]
    split
    · exact good_no w _
    · refine good_yes { w with things := ?_, dSort := ?_, dNext := ?_, dOwn := ?_, sNd := ?_ } (by simp)
      · have := List.length_filter_le (fun i : Delay => (i.num : Int) != n) s.delays
        show s.stack.length + (s.delays.filter _).length ≤ 64
        omega
      · exact w.dSort.sublist (List.filter_sublist.map _)
      · exact fun m hm => w.dNext m (List.mem_filter.mp hm).1
      · exact fun m hm => w.dOwn m (List.mem_filter.mp hm).1
      · exact w.sNd.sublist ((List.Sublist.refl _).append (List.filter_sublist.map _))
  | endTurn =>
    dsimp only [does]
    have w1 := wf_clear w.toWF
    have w2 := w1.endMarks till0
    have w3 := w2.endMarks till1
    have p1 := pot_endMarks (clear s).1 till0
    have p2 := pot_endMarks (endMarks (clear s).1 till0).1 till1
    have p0 := pot_clear s
    have l0 := len_clear s
    refine good_on (s := { (endMarks (endMarks (clear s).1 till0).1 till1).1 with rest := [DUSK], later := [] }) { w3 with rest := ?_, restL := ?_, later := ?_, laterL := ?_ } ?_
    · intro k hk
      rw [List.mem_singleton.mp hk]
      decide
    · show 1 ≤ 21
      omega
    · intro p hx
      cases hx
    · exact Nat.zero_le _
    · simp only [List.length_append]
      show _ + pot (endMarks (endMarks (clear s).1 till0).1 till1).1 ≤ 300
      omega
  | breakOff =>
    dsimp only [does]
    split
    · exact good_no w _
    · have w1 := wf_clear w.toWF
      have w2 := w1.endMarks till0
      have p1 := pot_endMarks (clear s).1 till0
      have p0 := pot_clear s
      have l0 := len_clear s
      refine good_on (s := { (endMarks (clear s).1 till0).1 with rest := [] }) { w2 with rest := ?_, restL := ?_ } ?_
      · intro k hk
        cases hk
      · exact Nat.zero_le _
      · simp only [List.length_append]
        show _ + pot (endMarks (clear s).1 till0).1 ≤ 300
        omega
  | state => exact good_yes w (by simp)
  | stack => exact good_yes w (by rw [len_flat3]; omega)
  | coming =>
    have h1 := spanL_le s.later w.later
    have h2 := w.laterL
    have h3 := w.r20
    have h4 := w.extraL
    have h5 := w.ssL
    refine good_yes w ?_
    simp only [List.length_cons, List.length_append, len_flat6, List.length_nil, h5]
    omega
  | marks => exact good_yes w (by rw [len_flat4]; omega)
  | delays => exact good_yes w (by rw [len_flat5]; omega)
  | ledger => exact good_yes w (by simp)
theorem good_step {s : State} (w : WK s) (c : Call) : Good (step s c) := by
  unfold step
  split
  · split
    · rename_i side
      split
      · exact good_no w _
      · rename_i h
        have h := from_ok h
        have hp := pot_le w.toWF
        refine good_on (s := { s with ordinary := other side.toNat }) { w.toWF with ord := ?_ } ?_
        · show other side.toNat ≤ 1
          unfold other
          omega
        · show 0 + pot s ≤ 300
          omega
    · exact good_no w _
  · exact good_does w c
end MA
end
section
set_option linter.all false
namespace MA
open Vbdcaf
theorem call_cons {p : Int} {r : List Int} {n : Nat} (h : PyVbdcaf.shape p = some (n, 0)) (hl : n ≤ r.length) : PyFlat.call PyVbdcaf.shape (p :: r) = some ([p :: r.take n], r.drop n) := by
  unfold PyFlat.call
  dsimp only
  rw [h]
  dsimp only
  rw [if_neg (by omega)]
  rfl
theorem shape_none {p : Int} (h : ¬ (0 ≤ p ∧ p ≤ 25)) : PyVbdcaf.shape p = none := by
  unfold PyVbdcaf.shape
  iterate 26 rw [if_neg (by omega)]
theorem shape_range {p : Int} {x : Nat × Nat} (h : PyVbdcaf.shape p = some x) : 0 ≤ p ∧ p ≤ 25 := by
  by_cases q : 0 ≤ p ∧ p ≤ 25
  · exact q
  · rw [shape_none q] at h
    cases h
theorem place26 {p : Int} (h : 0 ≤ p ∧ p ≤ 25) : p = 0 ∨ p = 1 ∨ p = 2 ∨ p = 3 ∨ p = 4 ∨ p = 5 ∨ p = 6 ∨ p = 7 ∨ p = 8 ∨ p = 9 ∨ p = 10 ∨ p = 11 ∨ p = 12 ∨ p = 13 ∨ p = 14 ∨ p = 15 ∨ p = 16 ∨ p = 17 ∨ p = 18 ∨ p = 19 ∨ p = 20 ∨ p = 21 ∨ p = 22 ∨ p = 23 ∨ p = 24 ∨ p = 25 := by omega
theorem shape_zero {p : Int} {n k : Nat} (h : PyVbdcaf.shape p = some (n, k)) : k = 0 := by
  rcases place26 (shape_range h) with rfl | rfl | rfl | rfl | rfl | rfl | rfl | rfl | rfl | rfl | rfl | rfl | rfl | rfl | rfl | rfl | rfl | rfl | rfl | rfl | rfl | rfl | rfl | rfl | rfl | rfl <;>
    exact (Prod.mk.inj (Option.some.inj (h.symm.trans rfl))).2
theorem calls_cons {p : Int} {r : List Int} {f : Nat} {cs : List (List (List Int))} (h : PyFlat.calls PyVbdcaf.shape f (p :: r) = some cs) :
    ∃ n f' cs', PyVbdcaf.shape p = some (n, 0) ∧ n ≤ r.length ∧ cs = [p :: r.take n] :: cs' ∧ PyFlat.calls PyVbdcaf.shape f' (r.drop n) = some cs' := by
  cases f with
  | zero => simp [PyFlat.calls] at h
  | succ f =>
    rw [PyFlat.calls] at h
    cases hs : PyVbdcaf.shape p with
    | none =>
      have e : PyFlat.call PyVbdcaf.shape (p :: r) = none := by
        unfold PyFlat.call
        dsimp only
        rw [hs]
      rw [e] at h
      cases h
    | some x =>
      obtain ⟨n, k⟩ := x
      have hk := shape_zero hs
      subst hk
      by_cases hl : r.length < n
      · have e : PyFlat.call PyVbdcaf.shape (p :: r) = none := by
          unfold PyFlat.call
          dsimp only
          rw [hs]
          dsimp only
          rw [if_pos hl]
        rw [e] at h
        cases h
      · rw [call_cons hs (by omega)] at h
        dsimp only at h
        cases hc : PyFlat.calls PyVbdcaf.shape f (r.drop n) with
        | none => rw [hc] at h; cases h
        | some cs' =>
          rw [hc] at h
          cases h
          exact ⟨n, f, cs', rfl, by omega, rfl, hc⟩
/-- the call that stands at p with its numbers -/
def callAt (p : Int) (a : List Int) : Option Call := VbdcafNeutral.callOf [p :: a]
/-- a list of a written length, item by item -/
theorem len0 {α : Type} {a : List α} (h : a.length = 0) : a = [] := List.length_eq_zero_iff.mp h
theorem len1 {α : Type} {a : List α} (h : a.length = 1) : ∃ x, a = [x] := by
  match a, h with
  | [x], _ => exact ⟨x, rfl⟩
theorem len2 {α : Type} {a : List α} (h : a.length = 2) : ∃ x y, a = [x, y] := by
  match a, h with
  | [x, y], _ => exact ⟨x, y, rfl⟩
theorem len3 {α : Type} {a : List α} (h : a.length = 3) : ∃ x y z, a = [x, y, z] := by
  match a, h with
  | [x, y, z], _ => exact ⟨x, y, z, rfl⟩
/-- the calls, one by one -/
inductive Is : Int → List Int → Call → Prop
  | c0 (a : Int) : Is 0 [a] (.begin_ a)
  | c1 (a : Int) : Is 1 [a] (.pass a)
  | c2 (a b c : Int) : Is 2 [a, b, c] (.act a b c)
  | c3 (a : Int) : Is 3 [a] (.play a)
  | c4 (a : Int) : Is 4 [a] (.now a)
  | c5 (a : Int) : Is 5 [a] (.fight a)
  | c6 (a : Int) : Is 6 [a] (.extraTurn a)
  | c7 (a : Int) : Is 7 [a] (.extraPhase a)
  | c8 (a : Int) : Is 8 [a] (.extraStep a)
  | c9 (a : Int) : Is 9 [a] (.skipTurn a)
  | c10 (a b : Int) : Is 10 [a, b] (.skipStep a b)
  | c11 (a : Int) : Is 11 [a] (.skipFight a)
  | c12 (a : Int) : Is 12 [a] (.allow a)
  | c13 (a : Int) : Is 13 [a] (.counter a)
  | c14 (a b c : Int) : Is 14 [a, b, c] (.mark a b c)
  | c15 (a : Int) : Is 15 [a] (.unmark a)
  | c16 (a b c : Int) : Is 16 [a, b, c] (.delay a b c)
  | c17 (a : Int) : Is 17 [a] (.undelay a)
  | c18 : Is 18 [] .endTurn
  | c19 : Is 19 [] .breakOff
  | c20 : Is 20 [] .state
  | c21 : Is 21 [] .stack
  | c22 : Is 22 [] .coming
  | c23 : Is 23 [] .marks
  | c24 : Is 24 [] .delays
  | c25 : Is 25 [] .ledger
theorem is_of {p : Int} {n : Nat} {a : List Int} (h : PyVbdcaf.shape p = some (n, 0)) (hl : a.length = n) : ∃ d, Is p a d := by
  have hp := place26 (shape_range h)
  rcases hp with rfl | rfl | rfl | rfl | rfl | rfl | rfl | rfl | rfl | rfl | rfl | rfl | rfl | rfl | rfl | rfl | rfl | rfl | rfl | rfl | rfl | rfl | rfl | rfl | rfl | rfl <;>
    (have e : n = _ := (Prod.mk.inj (Option.some.inj (h.symm.trans rfl))).1
     subst e
     first
      | (obtain ⟨x, rfl⟩ := len1 hl; exact ⟨_, by constructor⟩)
      | (obtain ⟨x, y, rfl⟩ := len2 hl; exact ⟨_, by constructor⟩)
      | (obtain ⟨x, y, z, rfl⟩ := len3 hl; exact ⟨_, by constructor⟩)
      | (obtain rfl := len0 hl; exact ⟨_, by constructor⟩))
theorem is_step {p : Int} {a : List Int} {d : Call} (h : Is p a d) (s : State) : VbdcafNeutral.step s (PyVbdcaf.whole [p :: a]) = step s d := by
  cases h <;> rfl
def cap : Nat := 802400
/-- what holds ahead of each turn of the loop over the calls: i numbers taken, out answered, s the state -/
structure LI (l : List Int) (i : Nat) (out : List Int) (s : State) : Prop where
  le : i ≤ l.length
  wk : WK s
  cs : ∃ f cs, PyFlat.calls PyVbdcaf.shape f (l.drop i) = some cs ∧ PyVbdcaf.answers l = out ++ PyFlat.told (PyFlat.played VbdcafNeutral.step s (cs.map PyVbdcaf.whole)) ∧ out.length + 2001 * cs.length ≤ cap
theorem li_start {l : List Int} (h : PyVbdcaf.answers_asked l = true) : LI l 0 [] start := by
  unfold PyVbdcaf.answers_asked PyVbdcaf.calls at h
  cases hc : PyFlat.calls PyVbdcaf.shape l.length l with
  | none => rw [hc] at h; cases h
  | some cs =>
    rw [hc] at h
    dsimp only at h
    refine ⟨Nat.zero_le _, wk_start, l.length, cs, hc, ?_, ?_⟩
    · unfold PyVbdcaf.answers PyVbdcaf.calls
      rw [hc]
      rfl
    · rw [Bool.and_eq_true] at h
      have h1 := h.1
      unfold PyFlat.atMost at h1
      have h1 := of_decide_eq_true h1
      rw [List.length_map] at h1
      show 0 + 2001 * cs.length ≤ cap
      unfold cap
      omega
theorem li_end {l out : List Int} {i : Nat} {s : State} (h : LI l i out s) (hi : l.length ≤ i) : PyVbdcaf.answers l = out := by
  obtain ⟨f, cs, h1, h2, _⟩ := h.cs
  rw [List.drop_eq_nil_of_le hi] at h1
  have e : cs = [] := by
    cases f <;> (rw [PyFlat.calls] at h1; exact (Option.some.inj h1).symm)
  subst e
  rw [h2]
  simp [PyFlat.told, PyFlat.played]
set_option maxRecDepth 100000 in
theorem cap1 {a b c : Nat} (h : a + 2001 * (b + 1) ≤ c) : a + 2001 ≤ c := by omega
set_option maxRecDepth 100000 in
theorem cap2 {a b c m : Nat} (h : a + 2001 * (b + 1) ≤ c) (hm : m ≤ 2000) : a + (m + 1) + 2001 * b ≤ c := by omega
theorem li_next {l out : List Int} {i : Nat} {s : State} (h : LI l i out s) (hi : i < l.length) :
    ∃ p n d, l[i]? = some p ∧ PyVbdcaf.shape p = some (n, 0) ∧ i + 1 + n ≤ l.length ∧ Is p ((l.drop (i + 1)).take n) d ∧ (step s d).2.length ≤ room ∧
      LI l (i + 1 + n) (out ++ ((step s d).2.length : Int) :: (step s d).2) (step s d).1 ∧ out.length + 2001 ≤ cap := by
  obtain ⟨f, cs, h1, h2, h3⟩ := h.cs
  have e := List.drop_eq_getElem_cons hi
  rw [e] at h1
  obtain ⟨n, f', cs', q1, q2, q3, q4⟩ := calls_cons h1
  rw [List.length_drop] at q2
  have hlen : ((l.drop (i + 1)).take n).length = n := by rw [List.length_take, List.length_drop]; omega
  obtain ⟨d, hd⟩ := is_of q1 hlen
  obtain ⟨g1, g2⟩ := good_step h.wk d
  have hc3 : out.length + 2001 * (cs'.length + 1) ≤ cap := by rw [q3] at h3; exact h3
  have hcap : out.length + 2001 ≤ cap := cap1 hc3
  have hle : i + 1 + n ≤ l.length := by omega
  refine ⟨l[i], n, d, List.getElem?_eq_getElem hi, q1, hle, hd, g2, ⟨hle, g1, f', cs', ?_, ?_, ?_⟩, hcap⟩
  · rw [← q4, List.drop_drop]
  · rw [h2, q3, List.map_cons, PyFlat.played, is_step hd]
    unfold PyFlat.told
    rw [List.flatMap_cons]
    simp
  · rw [List.length_append, List.length_cons]
    exact cap2 hc3 g2
end MA
end
section
set_option Elab.async false
set_option linter.all false
set_option maxRecDepth 100000
set_option maxHeartbeats 2000000
namespace L2
open PySem PySem.Spec PyProof.Rows
section
variable {X : Cx}
/-! ### rules that the layer lacks -/
def rInsert0 : V → List V → Hp → VK → Prop := fun x vs H Q => ∃ l xs y, x = .ref l ∧ vs = [.int 0, y] ∧ H l = some (.lst xs) ∧ xs.length < sizeLine ∧ Q .non (upd H l (.lst (y :: xs)))
theorem mt_insert0 : MtM X "list.insert" rInsert0 := by
  intro pins s σ H x vs v us Q I rx rv h
  obtain ⟨l, xs, y, rfl, rfl, hH, hz, q⟩ := h
  cases rx
  obtain ⟨u0, u, rfl, ⟨t, rfl⟩, ru⟩ := rv.two
  obtain ⟨z, its, n, r, hl, e⟩ := I.lstM hH
  refine call_meets F.slot_list_insert ⟨_, e, rfl⟩ F.entry_list_insert (F.args_list_insert_3 _ _ _) (AutoSeq1.list_insert_list_int_val_1 l its.toArray n 0 t u (by decide) (by rw [List.size_toArray]; omega)) ⟨e, ?_⟩
  refine ⟨.non, _, I.lset (its' := u :: its) hH e (by simp) (.cons ru r) ?_, rfl, q⟩
  rw [List.length_cons]
  omega
/-- o[i] of a list, the place not below 0 -/
theorem pget_list : PGet X (rIxL X.K) := by
  intro pins s σ H o i ov iv Q I rx ry h
  obtain ⟨p, xs, i, z, rfl, rfl, hq, he, q⟩ := h
  cases rx
  obtain ⟨t, rfl⟩ := ry
  obtain ⟨its, r, pl, hz⟩ := I.list hq
  obtain ⟨j, h1, h2, h3, h4, h5⟩ := atI_get he
  obtain ⟨w, ew, rw'⟩ := r.get h2
  have hl := r.length
  have hn := line63
  have fin : EP X pins σ Q w s := ⟨z, H, I, rw', q⟩
  by_cases h0 : 0 ≤ i
  · have hj : i.toNat = j := by
      rw [seqIndex_of h0 h5] at h1
      exact Option.some.inj h1
    exact wpAny_getItem_list pl.isList h0 (by omega) (by rw [hj]; simpa using ew) fin
  · have hj : (i + (its.toArray.size : Int)).toNat = j := by
      rw [seqIndex_neg (by omega) h4] at h1
      rw [List.size_toArray, ← hl]
      exact Option.some.inj h1
    exact wpAny_getItem_list_neg pl.isList (by omega) (by rw [List.size_toArray] <;> omega) (by omega) (by rw [hj]; simpa using ew) fin
/-- a dict of the module's -/
def DicK (K : PySem.W.Frag) (a : Addr) (kvs : List (Key × V)) : Prop := ∀ (P : Program) (w : World) (h : Heap), K.In h → ∃ vs, KV kvs vs ∧ h.DictOf (mixKind P w) a vs
def tDGetK (K : PySem.W.Frag) (td ty : TE) : TE := fun σ H Q => td σ H fun x H1 => ty σ H1 fun y H2 => ∃ a kvs k v, x = .ref a ∧ DicK K a kvs ∧ y = kV k ∧ valV kvs k = some v ∧ Q v H2
theorem pe_dgetK {o i : Expr} {pos : Pos} {td ty : TE} (ho : PE X o td) (hi : PE X i ty) (hs : NoSl i) : PE X (.Subscript o i pos) (tDGetK X.K td ty) := by
  intro pins s σ H Q I h
  refine subD_of PySem.F.slot_dict_getitem.lookup hs (thn (ho pins s σ H _ I h) fun u s1 ⟨x, H1, I1, rx, q1⟩ => thn (hi pins s1 σ H1 _ I1 q1) fun iv s2 ⟨y, H2, I2, ry, a, kvs, k, v, ex, g, ey, l, q2⟩ => ?_)
  subst ex
  subst ey
  obtain rfl : u = Value.ref a := rx
  obtain ⟨vs, rel, dd⟩ := g X.prog X.w s2.heap I2.kIn
  obtain ⟨w', hw, rw'⟩ := RelO.some_of (v := v) (o := valueAt vs k) (by rw [← l]; exact rel.val k)
  exact ⟨dd.typeIs, wpAny_getItem_of (kV_is ry) dd.mapOf hw ⟨v, H2, I2.tok _, rw', q2⟩⟩
end
/-! ### the rules with the written part by its own name (within a comprehension the context is another) -/
section
variable {X : Cx} {o e value a l : Expr} {es : List Expr} {f name : Str} {pos pos' tpos apos cpos : Pos} {ta tv to tl te : TE} {t : TA} {tg : Expr} {T id : String} {r : V → List V → Hp → VK → Prop}
theorem pe_fldK (K : PySem.W.Frag) (he : PE X e ta) (hb : attributeBase e f X.env (eval e X.env) = eval e X.env) (hK : X.K = K := by rfl) : PE X (.Attribute e f pos) (tFld K ta f) := hK ▸ pe_fld he hb
theorem ps_fldK (K : PySem.W.Frag) (ha : PE X o ta) (hv : PE X value tv) (hs : swapsWith value (some (.Attribute o f pos')) pos.line X.env = pure false) (hK : X.K = K := by rfl) : PS X (.Assign [.Attribute o f pos'] value pos) (sFld K ta tv f) := hK ▸ ps_fld ha hv hs
theorem ps_fldaugK (K : PySem.W.Frag) {op : Operator} {rd : V → V → Hp → VK → Prop} (ha : PE X o ta) (hv : PE X value tv) (hop : InOp X op rd) (hK : X.K = K := by rfl) : PS X (.AugAssign (.Attribute o f tpos) op value pos) (sFldAug K ta tv rd f) := hK ▸ ps_fldaug ha hv hop
theorem op_inK (K : PySem.W.Frag) (hK : X.K = K := by rfl) : OpR X (compareOp .In) (rIn K false) := hK ▸ op_in_seq
theorem op_notInK (K : PySem.W.Frag) (hK : X.K = K := by rfl) : OpR X (compareOp .NotIn) (rIn K true) := hK ▸ op_notIn_seq
theorem pi_listK (K : PySem.W.Frag) (hl : PE X l tl) (hK : X.K = K := by rfl) : PI X tg l (iList K tl) := hK ▸ pi_list hl
theorem pi_tupK (K : PySem.W.Frag) (hl : PE X l tl) (hK : X.K = K := by rfl) : PI X tg l (iTup K tl) := hK ▸ pi_tup hl
theorem ix_listK (K : PySem.W.Frag) (hK : X.K = K := by rfl) : IxR X (rIxL K) := hK ▸ ix_list
theorem ix_tupK (K : PySem.W.Frag) (hK : X.K = K := by rfl) : IxR X (rIxT K) := hK ▸ ix_tup
theorem pget_listK (K : PySem.W.Frag) (hK : X.K = K := by rfl) : PGet X (rIxL K) := hK ▸ pget_list
theorem sl_listK (K : PySem.W.Frag) (hK : X.K = K := by rfl) : SlR X (rSlL K) := hK ▸ sl_list
theorem cr_anyK (K : PySem.W.Frag) (hc : X.calm = true) (hK : X.K = K := by rfl) : CallR X (.builtin "any") (rAny K) := hK ▸ cr_any hc
/-- len, list(..), of lists and tuples -/
def rLen (K : PySem.W.Frag) : List V → Hp → VK → Prop := fun xs H Q => ∃ p ys, xs = [.ref p] ∧ (SqL K H p ys ∨ SqT K H p ys) ∧ Q (.int ys.length) H
theorem cr_lenK (K : PySem.W.Frag) (hK : X.K = K := by rfl) : CallR X (.builtin "len") (rLen K) := hK ▸ call_len_seq
def rList (K : PySem.W.Frag) : List V → Hp → VK → Prop := fun xs H Q => ∃ p ys, xs = [.ref p] ∧ (SqL K H p ys ∨ SqT K H p ys) ∧ ∀ l, H l = none → Q (.ref l) (upd H l (.lst ys))
theorem cr_listOfK (K : PySem.W.Frag) (hK : X.K = K := by rfl) : CallR X (.type "list") (rList K) := hK ▸ call_list_of
theorem pe_dgetKK (K : PySem.W.Frag) {i : Expr} {td ty : TE} (ho : PE X o td) (hi : PE X i ty) (hs : NoSl i) (hK : X.K = K := by rfl) : PE X (.Subscript o i pos) (tDGetK K td ty) := hK ▸ pe_dgetK ho hi hs
theorem pe_bmK (K : PySem.W.Frag) (pa : PlainAttrs T) (slot : Slot T name id) (hty : typeOf (.builtin id) = pure (.type "method_descriptor")) (hm : MtR X id r) (ho : PE X o to) (ha : PA X (e :: es) t)
    (hbase : attributeBase o name X.env (eval o X.env) = eval o X.env := by rfl)
    (hfew : ((backTo cpos (starEach (e :: es) X.env)).all (fun x => !x.1) && (backToKw cpos (keywordEach [] X.env)).all (fun x => x.1.isSome)
      && decide ((e :: es).length + ([] : List Keyword).length + (if ([] : List Keyword).isEmpty then 0 else 1) < 30)) = true := by rfl)
    (hline : (apos.endLine == cpos.line) = true := by rfl) (hs : starEach (e :: es) X.env = (false, eval e X.env) :: starEach es X.env := by rfl) (hplain : (backTo cpos (starEach es X.env)).any (·.1) = false := by rfl) (hK : X.K = K := by rfl) :
    PE X (.Call (.Attribute o name apos) (e :: es) [] cpos) (tBM K T r to t) := hK ▸ pe_bm pa slot hty hm ho ha hbase hfew hline hs hplain
theorem pe_bm0K (K : PySem.W.Frag) (pa : PlainAttrs T) (slot : Slot T name id) (hty : typeOf (.builtin id) = pure (.type "method_descriptor")) (hm : MtR X id r) (ho : PE X o to)
    (hbase : attributeBase o name X.env (eval o X.env) = eval o X.env := by rfl) (hline : (apos.endLine == cpos.line) = true := by rfl) (hK : X.K = K := by rfl) : PE X (.Call (.Attribute o name apos) [] [] cpos) (tBM0 K T r to) := hK ▸ pe_bm0 pa slot hty hm ho hbase hline
end
/-! ### defs of the text by their names -/
section
variable {P : Program} {w : World} {K : PySem.W.Frag} {mg : Str → Option Value} {base : Heap}
/-- a def of the text as the module holds it -/
def Has (K : PySem.W.Frag) (mg : Str → Option Value) (x : Str) (st : Stmt) (ps : List Str) : Prop := ∃ f fd, Fun K x x st f fd ∧ mg x = some (.ref f) ∧ Binds K fd ps []
/-- it keeps its promise -/
structure OkF (P : Program) (w : World) (K : PySem.W.Frag) (mg : Str → Option Value) (base : Heap) (k : Nat) (x : Str) (ps : List Str) (sp : Sp) : Prop where
  ex : ∃ f fd, FnOk P w K mg base CX0 k f fd ps sp ∧ mg x = some (.ref f) ∧ PySem.W.keepIn K (.ref f) = true ∧ Binds K fd ps []
theorem Has.ok {x : Str} {st : Stmt} {N ps : List Str} {k : Nat} {sp : Sp} (h : Has K mg x st ps) (S : FnScope N ps (defScope st)) (len : ∀ vs H Q E, sp vs H Q E → vs.length = ps.length)
    (hbody : ∀ (f : Addr) (cdv : Value) (A : Around) (outer : List Env) (s : Shared) (H : Hp) (vs : List V) (Q : VK) (E : XK), Room k (A.deeper (envOfC x (defScope st) s.heap.objs.size f cdv)) → sp vs H Q E →
      ∃ t, PSs (cxOf CX0 P w K mg base N x (defScope st) f cdv A outer s H E).nox (defBody st) t ∧ t { nx := fun _ H' => Q .non H', rt := Q } (start N vs) H) : OkF P w K mg base (k + 1) x ps sp := by
  obtain ⟨f, fd, F, h1, h2⟩ := h
  exact ⟨f, fd, F.ok S len fun cdv A outer s H vs Q E hr hs => hbody f cdv A outer s H vs Q E hr hs, h1, F.kp, h2⟩
/-- a class with its __init__ -/
def HasC (K : PySem.W.Frag) (mg : Str → Option Value) (x q : Str) (st : Stmt) (ps : List Str) (C : Addr) : Prop := ∃ f fd, Fun K "__init__" q st f fd ∧ mg x = some (.ref C) ∧ Mk K C f ∧ Binds K fd ps []
structure OkC (P : Program) (w : World) (K : PySem.W.Frag) (mg : Str → Option Value) (base : Heap) (k : Nat) (x : Str) (ps : List Str) (C : Addr) (sp : Sp) : Prop where
  ex : ∃ f fd, FnOk P w K mg base CX0 k f fd ps sp ∧ mg x = some (.ref C) ∧ Mk K C f ∧ Binds K fd ps []
theorem HasC.ok {x q : Str} {st : Stmt} {N ps : List Str} {k : Nat} {sp : Sp} {C : Addr} (h : HasC K mg x q st ps C) (S : FnScope N ps (defScope st)) (len : ∀ vs H Q E, sp vs H Q E → vs.length = ps.length)
    (hbody : ∀ (f : Addr) (cdv : Value) (A : Around) (outer : List Env) (s : Shared) (H : Hp) (vs : List V) (Q : VK) (E : XK), Room k (A.deeper (envOfC q (defScope st) s.heap.objs.size f cdv)) → sp vs H Q E →
      ∃ t, PSs (cxOf CX0 P w K mg base N q (defScope st) f cdv A outer s H E).nox (defBody st) t ∧ t { nx := fun _ H' => Q .non H', rt := Q } (start N vs) H) : OkC P w K mg base (k + 1) x ps C sp := by
  obtain ⟨f, fd, F, h1, h2, h3⟩ := h
  exact ⟨f, fd, F.ok S len fun cdv A outer s H vs Q E hr hs => hbody f cdv A outer s H vs Q E hr hs, h1, h2, h3⟩
variable {X : Cx} {k : Nat} {x : Str} {ps : List Str} {sp : Sp} {p pos : Pos} {e : Expr} {es : List Expr} {t : TA} {C : Addr}
theorem pe_fn (F : OkF X.prog X.w X.K X.mg X.base k x ps sp) (hr : Room k X.A) (hg : Gl X x) (ha : PA X (e :: es) t) (hdb : (x == ("__debug__" : Str)) = false := by decide)
    (he : starEach (e :: es) X.env = (false, eval e X.env) :: starEach es X.env := by rfl) (hpl : (backTo pos (starEach es X.env)).any (·.1) = false := by rfl) : PE X (.Call (.Name x p) (e :: es) [] pos) (tCall sp [] E0 t) := by
  obtain ⟨f, fd, F, hm, hk, hb⟩ := F.ex
  exact pe_call F hr hg hm hk hb .nil pass0 ha hdb he hpl
theorem pe_mk (F : OkC X.prog X.w X.K X.mg X.base k x ps C sp) (hr : Room (k + 1) X.A) (hg : Gl X x) (ha : PA X (e :: es) t) (hdb : (x == ("__debug__" : Str)) = false := by decide)
    (he : starEach (e :: es) X.env = (false, eval e X.env) :: starEach es X.env := by rfl) (hpl : (backTo pos (starEach es X.env)).any (·.1) = false := by rfl) : PE X (.Call (.Name x p) (e :: es) [] pos) (tMake C sp [] E0 t) := by
  obtain ⟨f, fd, F, hm, M, hb⟩ := F.ex
  exact pe_make M F hr hg hm hb .nil pass0 ha hdb he hpl
theorem pe_mk0 (F : OkC X.prog X.w X.K X.mg X.base k x ps C sp) (hr : Room (k + 1) X.A) (hg : Gl X x) (hdb : (x == ("__debug__" : Str)) = false := by decide) : PE X (.Call (.Name x p) [] [] pos) (tMake C sp [] E0 tNil) := by
  obtain ⟨f, fd, F, hm, M, hb⟩ := F.ex
  exact pe_make0 M F hr hg hm hb .nil pass0 hdb
/-- a name of the module's, by what it is worth -/
def Glb (mg : Str → Option Value) (x : Str) (v : V) : Prop := ∃ u, mg x = some u ∧ RelV v u
theorem pe_gl {x : Str} {v : V} {pos : Pos} (hg : Gl X x) (h : Glb X.mg x v) (hd : (x == ("__debug__" : Str)) = false := by decide) : PE X (.Name x pos) (tC v) := by
  obtain ⟨u, h1, h2⟩ := h
  exact pe_glob hg h1 h2 hd
/-- a tuple of the module's -/
def TupK (K : PySem.W.Frag) (a : Addr) (xs : List V) : Prop := ∃ (o : Obj) (its : Array Value) (n : Nat), K.lookup a = some o ∧ o.cls = .type "tuple" ∧ o.data = .seq its n ∧ its.size ≤ sizeLine ∧ Vals xs its.toList
theorem TupK.sq {K : PySem.W.Frag} {a : Addr} {xs : List V} (h : TupK K a xs) (H : Hp) : SqT K H a xs := .inr h
end
/-! ### the reading, step by step -/
section
variable {K : PySem.W.Frag} {D : Ends} {σ : L2.St} {H : Hp} {Q : VK} {QB : Bool → Hp → Prop}
theorem w_seq {t u : TS} (h : t { D with nx := u D } σ H) : tSeq t u D σ H := h
theorem w_next (h : D.nx σ H) : tNext D σ H := h
theorem w_ifS {c : TT} {t u : TS} (h : c σ H fun b H1 => if b = true then t D σ H1 else u D σ H1) : tIfS c t u D σ H := h
theorem w_drop {te : TE} (h : te σ H fun _ H1 => D.nx σ H1) : tDrop te D σ H := h
theorem w_ret {te : TE} (h : te σ H D.rt) : tRet te D σ H := h
theorem w_retN (h : D.rt .non H) : tRetN D σ H := h
theorem w_asg {te : TE} {i : Nat} (h : te σ H fun x H1 => D.nx (σ.set i (some x)) H1) : tAsg te (gName i) D σ H := h
theorem w_var {i : Nat} {v : V} (e : σ[i]? = some (some v)) (h : Q v H) : tVar i σ H Q := ⟨v, e, h⟩
theorem w_c {v : V} (h : Q v H) : tC v σ H Q := h
theorem w_op {r : R2} {ta tb : TE} (h : ta σ H fun x H1 => tb σ H1 fun y H2 => r x y H2 Q) : tOp r ta tb σ H Q := h
theorem w_i0 {g : Int → Int → V} {i j : Int} (h : Q (g i j) H) : rI0 g (.int i) (.int j) H Q := ⟨i, j, rfl, rfl, h⟩
theorem w_ip {f : Int → Int → Int} {i j : Int} (h : Q (.int (f i j)) H) : ipI f (.int i) (.int j) H Q := ⟨i, j, rfl, rfl, h⟩
theorem w_rAdd {i j : Int} (h : Q (.int (i + j)) H) : rAdd (.int i) (.int j) H Q := ⟨i, j, rfl, rfl, h⟩
theorem w_rSub {i j : Int} (h : Q (.int (i - j)) H) : rSub (.int i) (.int j) H Q := ⟨i, j, rfl, rfl, h⟩
theorem dec_iff {p q : Prop} [Decidable p] [Decidable q] (h : p ↔ q) : decide p = decide q := by
  by_cases hp : p
  · rw [decide_eq_true hp, decide_eq_true (h.mp hp)]
  · rw [decide_eq_false hp, decide_eq_false (fun z => hp (h.mpr z))]
theorem w_eqI {i j : Int} (h : Q (.bl (decide (i = j))) H) : rEq (.int i) (.int j) H Q := by
  refine ⟨rfl, ?_⟩
  rw [dec_iff (p := V.int i = V.int j) (q := i = j) ⟨fun z => V.int.inj z, fun z => congrArg V.int z⟩]
  exact h
theorem w_neI {i j : Int} (h : Q (.bl (!decide (i = j))) H) : rNe (.int i) (.int j) H Q := by
  refine ⟨rfl, ?_⟩
  rw [dec_iff (p := V.int i = V.int j) (q := i = j) ⟨fun z => V.int.inj z, fun z => congrArg V.int z⟩]
  exact h
theorem w_test {t : TE} (h : t σ H fun x H' => ∃ k, x = .bl k ∧ QB k H') : tTest t σ H QB := h
theorem w_tB {t : TE} (h : t σ H fun x H' => ∃ k, x = .bl k ∧ QB k H') : tB t σ H QB := h
theorem w_ebl {R : Bool → Prop} {k : Bool} (h : R k) : ∃ k', V.bl k = .bl k' ∧ R k' := ⟨k, rfl, h⟩
theorem w_and {t u : TT} (h : t σ H fun c H1 => if c = true then u σ H1 QB else QB false H1) : tAnd t u σ H QB := h
theorem w_or {t u : TT} (h : t σ H fun c H1 => if c = true then QB true H1 else u σ H1 QB) : tOr t u σ H QB := h
theorem w_not {t : TT} (h : t σ H fun c H1 => QB (!c) H1) : tNot t σ H QB := h
theorem w_andV {ta tb : TE} (h : ta σ H fun x H1 => ∃ c, x = .bl c ∧ if c = true then tb σ H1 Q else Q (.bl false) H1) : tAndV ta tb σ H Q := h
theorem w_orV {ta tb : TE} (h : ta σ H fun x H1 => ∃ c, x = .bl c ∧ if c = true then Q (.bl true) H1 else tb σ H1 Q) : tOrV ta tb σ H Q := h
theorem w_notV {ta : TE} (h : ta σ H fun x H1 => ∃ c, x = .bl c ∧ Q (.bl (!c)) H1) : tNotV ta σ H Q := h
theorem w_ifE {t : TT} {ta tb : TE} (h : t σ H fun c H1 => if c = true then ta σ H1 Q else tb σ H1 Q) : tIf t ta tb σ H Q := h
theorem w_call {sp : Sp} {E : XK} {t : TA} (h : t σ H fun vs H1 => sp (vs ++ []) H1 Q E) : tCall sp [] E t σ H Q := h
theorem w_cons {QA : List V → Hp → Prop} {ta : TE} {tr : TA} (h : ta σ H fun x H1 => tr σ H1 fun xs H2 => QA (x :: xs) H2) : tCons ta tr σ H QA := h
theorem w_nil {QA : List V → Hp → Prop} (h : QA [] H) : tNil σ H QA := h
/-- a new tuple, a new list -/
def NewT (xs : List V) (H : Hp) (Q : VK) : Prop := xs.length ≤ sizeLine ∧ ∀ p, H p = none → Q (.ref p) (upd H p (.tup xs))
def NewL (xs : List V) (H : Hp) (Q : VK) : Prop := xs.length ≤ sizeLine ∧ ∀ p, H p = none → Q (.ref p) (upd H p (.lst xs))
theorem w_tup {t : TA} (h : t σ H fun xs H1 => NewT xs H1 Q) : tTup t σ H Q := h
theorem w_lst {t : TA} (h : t σ H fun xs H1 => NewL xs H1 Q) : tLst t σ H Q := h
theorem w_cb {r : List V → Hp → VK → Prop} {t : TA} (h : t σ H fun vs H1 => r vs H1 Q) : tCB r t σ H Q := h
theorem w_fld {ta : TE} {f : Str} (h : ta σ H fun x H1 => ∃ a C dx fs v, x = .ref a ∧ H1 a = some (.ins C dx fs) ∧ Cls K C ∧ NoAttr K C f ∧ fs.lookup f = some v ∧ Q v H1) : tFld K ta f σ H Q := h
theorem w_bm {T : String} {r : V → List V → Hp → VK → Prop} {to : TE} {t : TA} (h : to σ H fun x H1 => tyV K T x H1 ∧ t σ H1 fun xs H2 => r x xs H2 Q) : tBM K T r to t σ H Q := h
theorem w_part {te : TE} {QO : Option Int → Hp → Prop} (h : te σ H fun x H1 => ∃ i, x = .int i ∧ QO (some i) H1) : tPart te σ H QO := h
theorem w_ei {R : Int → Prop} {k : Int} (h : R k) : ∃ k', V.int k = .int k' ∧ R k' := ⟨k, rfl, h⟩
theorem w_nop {QO : Option Int → Hp → Prop} (h : QO none H) : tNoPart σ H QO := h
theorem w_sl {r : V → Option Int → Option Int → Hp → VK → Prop} {te : TE} {tl th : TO} (h : te σ H fun x H1 => tl σ H1 fun l H2 => th σ H2 fun u H3 => r x l u H3 Q) : tSl r te tl th σ H Q := h
theorem w_ite {c A B : Prop} [Decidable c] (h1 : c → A) (h2 : ¬ c → B) : if decide c = true then A else B := by
  by_cases h : c
  · rw [decide_eq_true h]; exact h1 h
  · rw [decide_eq_false h]; exact h2 h
theorem w_iteN {c A B : Prop} [Decidable c] (h1 : ¬ c → A) (h2 : c → B) : if (!decide c) = true then A else B := by
  by_cases h : c
  · rw [decide_eq_true h]; exact h2 h
  · rw [decide_eq_false h]; exact h1 h
theorem w_iteB {b : Bool} {A B : Prop} (h1 : b = true → A) (h2 : b = false → B) : if b = true then A else B := by
  cases b
  · exact iteF (h2 rfl)
  · exact iteT (h1 rfl)
theorem w_iteNB {b : Bool} {A B : Prop} (h1 : b = false → A) (h2 : b = true → B) : if (!b) = true then A else B := by
  cases b
  · exact iteT (h1 rfl)
  · exact iteF (h2 rfl)
end
end L2
end
section
set_option Elab.async false
set_option linter.all false
set_option maxRecDepth 100000
set_option maxHeartbeats 2000000
namespace D
open PySem PySem.Spec PyProof.Rows L2
open Vbdcaf (State Ev)
/-! ### the text by places -/
def top (i : Nat) : Stmt := PySem.Challenge.pw_turnsteps_s01_answers.main.body.getD i (.Pass ⟨0, 0, 0, 0⟩)
/-! ### objects by their fields -/
def fsI (i : Vbdcaf.Item) : List (Str × V) := [("number", .int (i.num : Nat)), ("side", .int (i.side : Nat)), ("shuts", .bl i.shut)]
def fsM (m : Vbdcaf.Mark) : List (Str × V) := [("number", .int (m.num : Nat)), ("till", .int (m.till : Nat)), ("side", .int (m.side : Nat)), ("step", .int (m.step : Nat))]
def fsL (d : Vbdcaf.Delay) : List (Str × V) := [("number", .int (d.num : Nat)), ("owner", .int (d.owner : Nat)), ("side", .int (d.side : Nat)), ("step", .int (d.step : Nat))]
section
variable (i : Vbdcaf.Item) (m : Vbdcaf.Mark) (d : Vbdcaf.Delay)
theorem i_number : (fsI i).lookup ("number" : Str) = some (.int (i.num : Nat)) := by kernel_rfl
theorem i_side : (fsI i).lookup ("side" : Str) = some (.int (i.side : Nat)) := by kernel_rfl
theorem i_shuts : (fsI i).lookup ("shuts" : Str) = some (.bl i.shut) := by kernel_rfl
theorem m_number : (fsM m).lookup ("number" : Str) = some (.int (m.num : Nat)) := by kernel_rfl
theorem m_till : (fsM m).lookup ("till" : Str) = some (.int (m.till : Nat)) := by kernel_rfl
theorem m_side : (fsM m).lookup ("side" : Str) = some (.int (m.side : Nat)) := by kernel_rfl
theorem m_step : (fsM m).lookup ("step" : Str) = some (.int (m.step : Nat)) := by kernel_rfl
theorem d_number : (fsL d).lookup ("number" : Str) = some (.int (d.num : Nat)) := by kernel_rfl
theorem d_owner : (fsL d).lookup ("owner" : Str) = some (.int (d.owner : Nat)) := by kernel_rfl
theorem d_side : (fsL d).lookup ("side" : Str) = some (.int (d.side : Nat)) := by kernel_rfl
theorem d_step : (fsL d).lookup ("step" : Str) = some (.int (d.step : Nat)) := by kernel_rfl
end
structure DV where
  turns : V
  tos : V
  active : V
  last : V
  step : V
  rest : V
  phases : V
  extra : V
  st : V
  sf : V
  ss : V
  holder : V
  passed : V
  plays : V
  fight : V
  first : V
  stack : V
  marks : V
  delayed : V
  lastn : V
  come : V
  dn : V
  undn : V
  gn : V
def fsD (d : DV) : List (Str × V) := [("turns", d.turns), ("turns_of_side", d.tos), ("active", d.active), ("last_ordinary", d.last), ("step", d.step), ("rest", d.rest), ("phases", d.phases), ("extra_turns", d.extra), ("skipped_turns", d.st), ("skipped_fights", d.sf), ("skipped_steps", d.ss), ("holder", d.holder), ("passed", d.passed), ("plays", d.plays), ("fighting", d.fight), ("first_blows", d.first), ("stack", d.stack), ("marks", d.marks), ("delayed", d.delayed), ("last_number", d.lastn), ("items_come", d.come), ("items_done", d.dn), ("items_countered", d.undn), ("items_gone", d.gn)]
section
variable (d : DV) (v : V)
theorem l_turns : (fsD d).lookup ("turns" : Str) = some d.turns := by kernel_rfl
theorem l_turns_of_side : (fsD d).lookup ("turns_of_side" : Str) = some d.tos := by kernel_rfl
theorem l_active : (fsD d).lookup ("active" : Str) = some d.active := by kernel_rfl
theorem l_last_ordinary : (fsD d).lookup ("last_ordinary" : Str) = some d.last := by kernel_rfl
theorem l_step : (fsD d).lookup ("step" : Str) = some d.step := by kernel_rfl
theorem l_rest : (fsD d).lookup ("rest" : Str) = some d.rest := by kernel_rfl
theorem l_phases : (fsD d).lookup ("phases" : Str) = some d.phases := by kernel_rfl
theorem l_extra_turns : (fsD d).lookup ("extra_turns" : Str) = some d.extra := by kernel_rfl
theorem l_skipped_turns : (fsD d).lookup ("skipped_turns" : Str) = some d.st := by kernel_rfl
theorem l_skipped_fights : (fsD d).lookup ("skipped_fights" : Str) = some d.sf := by kernel_rfl
theorem l_skipped_steps : (fsD d).lookup ("skipped_steps" : Str) = some d.ss := by kernel_rfl
theorem l_holder : (fsD d).lookup ("holder" : Str) = some d.holder := by kernel_rfl
theorem l_passed : (fsD d).lookup ("passed" : Str) = some d.passed := by kernel_rfl
theorem l_plays : (fsD d).lookup ("plays" : Str) = some d.plays := by kernel_rfl
theorem l_fighting : (fsD d).lookup ("fighting" : Str) = some d.fight := by kernel_rfl
theorem l_first_blows : (fsD d).lookup ("first_blows" : Str) = some d.first := by kernel_rfl
theorem l_stack : (fsD d).lookup ("stack" : Str) = some d.stack := by kernel_rfl
theorem l_marks : (fsD d).lookup ("marks" : Str) = some d.marks := by kernel_rfl
theorem l_delayed : (fsD d).lookup ("delayed" : Str) = some d.delayed := by kernel_rfl
theorem l_last_number : (fsD d).lookup ("last_number" : Str) = some d.lastn := by kernel_rfl
theorem l_items_come : (fsD d).lookup ("items_come" : Str) = some d.come := by kernel_rfl
theorem l_items_done : (fsD d).lookup ("items_done" : Str) = some d.dn := by kernel_rfl
theorem l_items_countered : (fsD d).lookup ("items_countered" : Str) = some d.undn := by kernel_rfl
theorem l_items_gone : (fsD d).lookup ("items_gone" : Str) = some d.gn := by kernel_rfl
theorem p_turns : putF ("turns" : Str) v (fsD d) = fsD { d with turns := v } := by kernel_rfl
theorem p_turns_of_side : putF ("turns_of_side" : Str) v (fsD d) = fsD { d with tos := v } := by kernel_rfl
theorem p_active : putF ("active" : Str) v (fsD d) = fsD { d with active := v } := by kernel_rfl
theorem p_last_ordinary : putF ("last_ordinary" : Str) v (fsD d) = fsD { d with last := v } := by kernel_rfl
theorem p_step : putF ("step" : Str) v (fsD d) = fsD { d with step := v } := by kernel_rfl
theorem p_rest : putF ("rest" : Str) v (fsD d) = fsD { d with rest := v } := by kernel_rfl
theorem p_phases : putF ("phases" : Str) v (fsD d) = fsD { d with phases := v } := by kernel_rfl
theorem p_extra_turns : putF ("extra_turns" : Str) v (fsD d) = fsD { d with extra := v } := by kernel_rfl
theorem p_skipped_turns : putF ("skipped_turns" : Str) v (fsD d) = fsD { d with st := v } := by kernel_rfl
theorem p_skipped_fights : putF ("skipped_fights" : Str) v (fsD d) = fsD { d with sf := v } := by kernel_rfl
theorem p_skipped_steps : putF ("skipped_steps" : Str) v (fsD d) = fsD { d with ss := v } := by kernel_rfl
theorem p_holder : putF ("holder" : Str) v (fsD d) = fsD { d with holder := v } := by kernel_rfl
theorem p_passed : putF ("passed" : Str) v (fsD d) = fsD { d with passed := v } := by kernel_rfl
theorem p_plays : putF ("plays" : Str) v (fsD d) = fsD { d with plays := v } := by kernel_rfl
theorem p_fighting : putF ("fighting" : Str) v (fsD d) = fsD { d with fight := v } := by kernel_rfl
theorem p_first_blows : putF ("first_blows" : Str) v (fsD d) = fsD { d with first := v } := by kernel_rfl
theorem p_stack : putF ("stack" : Str) v (fsD d) = fsD { d with stack := v } := by kernel_rfl
theorem p_marks : putF ("marks" : Str) v (fsD d) = fsD { d with marks := v } := by kernel_rfl
theorem p_delayed : putF ("delayed" : Str) v (fsD d) = fsD { d with delayed := v } := by kernel_rfl
theorem p_last_number : putF ("last_number" : Str) v (fsD d) = fsD { d with lastn := v } := by kernel_rfl
theorem p_items_come : putF ("items_come" : Str) v (fsD d) = fsD { d with come := v } := by kernel_rfl
theorem p_items_done : putF ("items_done" : Str) v (fsD d) = fsD { d with dn := v } := by kernel_rfl
theorem p_items_countered : putF ("items_countered" : Str) v (fsD d) = fsD { d with undn := v } := by kernel_rfl
theorem p_items_gone : putF ("items_gone" : Str) v (fsD d) = fsD { d with gn := v } := by kernel_rfl
theorem len_fsD : (fsD d).length = 24 := rfl
theorem few_fsD : (fsD d).length < 1000 := by rw [len_fsD]; decide
end
/-- where the duel's parts stand: its dict, its lists, and the references that the lists of objects hold -/
structure Lay where
  dx : Addr
  a : Nat → Addr
  v : Nat → List V
structure Cs where
  item : Addr
  mark : Addr
  del : Addr
  duel : Addr
  tu : Nat → Addr
def nats (l : List Nat) : List V := l.map fun n => V.int (n : Nat)
theorem len_nats (l : List Nat) : (nats l).length = l.length := List.length_map _
def dv (L : Lay) (s : State) : DV where
  turns := .int ((s.turn : Nat) : Int)
  tos := .ref (L.a 11)
  active := .int ((s.active : Nat) : Int)
  last := .int ((s.ordinary : Nat) : Int)
  step := .int ((s.step : Nat) : Int)
  rest := .ref (L.a 0)
  phases := .ref (L.a 1)
  extra := .ref (L.a 2)
  st := .ref (L.a 3)
  sf := .ref (L.a 4)
  ss := .ref (L.a 5)
  holder := .int ((s.holder : Nat) : Int)
  passed := .bl (s.passes == 1)
  plays := .int ((s.plays : Nat) : Int)
  fight := .bl s.fights
  first := .bl s.firsts
  stack := .ref (L.a 8)
  marks := .ref (L.a 9)
  delayed := .ref (L.a 10)
  lastn := .int ((s.next : Int) - 1)
  come := .int ((s.put : Nat) : Int)
  dn := .int ((s.done : Nat) : Int)
  undn := .int ((s.undone : Nat) : Int)
  gn := .int ((s.gone : Nat) : Int)
/-- what is never written: tuples, and small objects -/
def Const : HO → Prop
  | .tup _ => True
  | .frz _ _ => True
  | .ins _ _ fs => fs.length ≤ 6
  | _ => False
def Keep (H H' : Hp) : Prop := ∀ b o, H b = some o → Const o → H' b = some o
theorem Keep.refl (H : Hp) : Keep H H := fun _ _ e _ => e
theorem Keep.trans {H H1 H2 : Hp} (a : Keep H H1) (b : Keep H1 H2) : Keep H H2 := fun c o e h => b c o (a c o e h) h
theorem Keep.same {H H' : Hp} (h : Same H H') : Keep H H' := fun b o e _ => h b o e
theorem Keep.upd {H : Hp} {a : Addr} {o o' : HO} (h : H a = some o) (n : ¬ Const o) : Keep H (L2.upd H a o') := fun b u e c => by
  rw [upd_ne (ne_of e h (fun z => n (z ▸ c)))]
  exact e
theorem Keep.new {H : Hp} {a : Addr} {o' : HO} (h : H a = none) : Keep H (L2.upd H a o') := fun b u e c => by
  rw [upd_ne (ne_of_none e h)]
  exact e
theorem lst_not {xs : List V} : ¬ Const (.lst xs) := fun h => h
theorem duel_not {C dx : Addr} {d : DV} : ¬ Const (.ins C dx (fsD d)) := fun h => by
  have h : (fsD d).length ≤ 6 := h
  rw [len_fsD] at h
  exact absurd h (by decide)
def RT (K : PySem.W.Frag) (H : Hp) (v : V) (p : List Nat) : Prop := ∃ a, v = .ref a ∧ SqT K H a (nats p)
def RI (C : Cs) (H : Hp) (v : V) (i : Vbdcaf.Item) : Prop := ∃ a dx, v = .ref a ∧ H a = some (.ins C.item dx (fsI i))
def RM (C : Cs) (H : Hp) (v : V) (i : Vbdcaf.Mark) : Prop := ∃ a dx, v = .ref a ∧ H a = some (.ins C.mark dx (fsM i))
def RL (C : Cs) (H : Hp) (v : V) (i : Vbdcaf.Delay) : Prop := ∃ a dx, v = .ref a ∧ H a = some (.ins C.del dx (fsL i))
theorem sqT_keep {K : PySem.W.Frag} {H H' : Hp} {a : Addr} {xs : List V} (k : Keep H H') (h : SqT K H a xs) : SqT K H' a xs := by
  rcases h with (h | ⟨o, h⟩) | h
  · exact .inl (.inl (k _ _ h trivial))
  · exact .inl (.inr ⟨o, k _ _ h trivial⟩)
  · exact .inr h
theorem RT.keep {K : PySem.W.Frag} {H H' : Hp} (k : Keep H H') {v : V} {p : List Nat} (h : RT K H v p) : RT K H' v p := by
  obtain ⟨a, e, h⟩ := h
  exact ⟨a, e, sqT_keep k h⟩
theorem RI.keep {C : Cs} {H H' : Hp} (k : Keep H H') {v : V} {p : Vbdcaf.Item} (h : RI C H v p) : RI C H' v p := by
  obtain ⟨a, dx, e, h⟩ := h
  exact ⟨a, dx, e, k _ _ h (show 3 ≤ 6 by decide)⟩
theorem RM.keep {C : Cs} {H H' : Hp} (k : Keep H H') {v : V} {p : Vbdcaf.Mark} (h : RM C H v p) : RM C H' v p := by
  obtain ⟨a, dx, e, h⟩ := h
  exact ⟨a, dx, e, k _ _ h (show 4 ≤ 6 by decide)⟩
theorem RL.keep {C : Cs} {H H' : Hp} (k : Keep H H') {v : V} {p : Vbdcaf.Delay} (h : RL C H v p) : RL C H' v p := by
  obtain ⟨a, dx, e, h⟩ := h
  exact ⟨a, dx, e, k _ _ h (show 4 ≤ 6 by decide)⟩
theorem pairs_keep {α β : Type} {F G : α → β → Prop} (f : ∀ {a b}, F a b → G a b) {l : List α} {m : List β} (h : Paired F l m) : Paired G l m := Paired.mapP h fun _ _ => f
def Lay.set (L : Lay) (i : Nat) (l : Addr) : Lay := ⟨L.dx, fun j => if j = i then l else L.a j, L.v⟩
def Lay.setv (L : Lay) (i : Nat) (vs : List V) : Lay := ⟨L.dx, L.a, fun j => if j = i then vs else L.v j⟩
theorem set_same {L : Lay} {i : Nat} {l : Addr} : (L.set i l).a i = l := if_pos rfl
theorem set_ne {L : Lay} {i j : Nat} {l : Addr} (h : j ≠ i) : (L.set i l).a j = L.a j := if_neg h
theorem setv_same {L : Lay} {i : Nat} {l : List V} : (L.setv i l).v i = l := if_pos rfl
theorem setv_ne {L : Lay} {i j : Nat} {l : List V} (h : j ≠ i) : (L.setv i l).v j = L.v j := if_neg h
/-- THE RELATION: the duel at p, laid out by L, stands for s -/
structure Rep (K : PySem.W.Frag) (C : Cs) (H : Hp) (p : Addr) (L : Lay) (s : State) : Prop where
  duel : H p = some (.ins C.duel L.dx (fsD (dv L s)))
  inj : ∀ i j, i < 12 → j < 12 → L.a i = L.a j → i = j
  rest : H (L.a 0) = some (.lst (nats s.rest))
  phs : H (L.a 1) = some (.lst (L.v 1))
  phsR : Paired (RT K H) (L.v 1) s.later
  extra : H (L.a 2) = some (.lst (nats s.extra))
  st : H (L.a 3) = some (.lst (nats s.skipTurns))
  sf : H (L.a 4) = some (.lst (nats s.skipFights))
  ss : H (L.a 5) = some (.lst ([.ref (L.a 6), .ref (L.a 7)]))
  s0 : H (L.a 6) = some (.lst (nats (s.skipSteps.take 11)))
  s1 : H (L.a 7) = some (.lst (nats (s.skipSteps.drop 11)))
  stk : H (L.a 8) = some (.lst (L.v 8))
  stkR : Paired (RI C H) (L.v 8) s.stack
  mks : H (L.a 9) = some (.lst (L.v 9))
  mksR : Paired (RM C H) (L.v 9) s.marks
  dls : H (L.a 10) = some (.lst (L.v 10))
  dlsR : Paired (RL C H) (L.v 10) s.delays
  tos : H (L.a 11) = some (.lst (nats s.turns))
section
variable {K : PySem.W.Frag} {C : Cs} {H H' : Hp} {p : Addr} {L : Lay} {s : State}
theorem Rep.lst (R : Rep K C H p L s) : ∀ i, i < 12 → ∃ xs, H (L.a i) = some (.lst xs)
  | 0, _ => ⟨_, R.rest⟩
  | 1, _ => ⟨_, R.phs⟩
  | 2, _ => ⟨_, R.extra⟩
  | 3, _ => ⟨_, R.st⟩
  | 4, _ => ⟨_, R.sf⟩
  | 5, _ => ⟨_, R.ss⟩
  | 6, _ => ⟨_, R.s0⟩
  | 7, _ => ⟨_, R.s1⟩
  | 8, _ => ⟨_, R.stk⟩
  | 9, _ => ⟨_, R.mks⟩
  | 10, _ => ⟨_, R.dls⟩
  | 11, _ => ⟨_, R.tos⟩
  | i + 12, h => absurd h (by omega)
theorem Rep.ne (R : Rep K C H p L s) {i j : Nat} (hij : i ≠ j) (hi : i < 12) (hj : j < 12) : L.a i ≠ L.a j := fun e => hij (R.inj i j hi hj e)
theorem Rep.np (R : Rep K C H p L s) {i : Nat} (hi : i < 12) : L.a i ≠ p := by
  obtain ⟨xs, h⟩ := R.lst i hi
  exact ne_of h R.duel (by intro z; cases z)
theorem Rep.pn (R : Rep K C H p L s) {i : Nat} (hi : i < 12) : p ≠ L.a i := fun e => R.np hi e.symm
/-- all that it leans on is kept -/
theorem Rep.keep (R : Rep K C H p L s) (k : Keep H H') (hp : ∀ o, H p = some o → H' p = some o) (ha : ∀ i o, i < 12 → H (L.a i) = some o → H' (L.a i) = some o) : Rep K C H' p L s where
  duel := hp _ R.duel
  inj := R.inj
  rest := ha 0 _ (by decide) R.rest
  phs := ha 1 _ (by decide) R.phs
  phsR := pairs_keep (RT.keep k) R.phsR
  extra := ha 2 _ (by decide) R.extra
  st := ha 3 _ (by decide) R.st
  sf := ha 4 _ (by decide) R.sf
  ss := ha 5 _ (by decide) R.ss
  s0 := ha 6 _ (by decide) R.s0
  s1 := ha 7 _ (by decide) R.s1
  stk := ha 8 _ (by decide) R.stk
  stkR := pairs_keep (RI.keep k) R.stkR
  mks := ha 9 _ (by decide) R.mks
  mksR := pairs_keep (RM.keep k) R.mksR
  dls := ha 10 _ (by decide) R.dls
  dlsR := pairs_keep (RL.keep k) R.dlsR
  tos := ha 11 _ (by decide) R.tos
theorem Rep.same (R : Rep K C H p L s) (h : Same H H') : Rep K C H' p L s := R.keep (Keep.same h) (fun o e => h _ _ e) fun i o _ e => h _ _ e
/-- outside of the layout -/
def Out (L : Lay) (b : Addr) : Prop := ∀ i, i < 12 → b ≠ L.a i
theorem Rep.out_none (R : Rep K C H p L s) {b : Addr} (h : H b = none) : Out L b := fun i hi e => by
  obtain ⟨xs, q⟩ := R.lst i hi
  rw [← e, h] at q
  cases q
/-- another list is written -/
theorem Rep.other (R : Rep K C H p L s) {t : Addr} {xs ys : List V} (ht : H t = some (.lst xs)) (ho : Out L t) : Rep K C (upd H t (.lst ys)) p L s :=
  R.keep (Keep.upd ht lst_not) (fun o e => by rw [upd_ne (ne_of R.duel ht (by intro z; cases z))]; exact e) fun i o hi e => by rw [upd_ne (Ne.symm (ho i hi))]; exact e
/-- a new object -/
theorem same_new {H : Hp} {a : Addr} {o : HO} (h : H a = none) : Same H (upd H a o) := fun b u e => by rw [upd_ne (ne_of_none e h)]; exact e
theorem Rep.fresh (R : Rep K C H p L s) {l : Addr} {o : HO} (hl : H l = none) : Rep K C (upd H l o) p L s := R.same (same_new hl)
/-- plain fields are written -/
theorem Rep.setf (R : Rep K C H p L s) {fs : List (Str × V)} (s' : State) (ef : fs = fsD (dv L s')) (e0 : s'.rest = s.rest := by rfl) (e1 : s'.later = s.later := by rfl) (e2 : s'.extra = s.extra := by rfl) (e3 : s'.skipTurns = s.skipTurns := by rfl) (e4 : s'.skipFights = s.skipFights := by rfl) (e5 : s'.skipSteps = s.skipSteps := by rfl) (e6 : s'.stack = s.stack := by rfl) (e7 : s'.marks = s.marks := by rfl) (e8 : s'.delays = s.delays := by rfl) (e9 : s'.turns = s.turns := by rfl) : Rep K C (upd H p (.ins C.duel L.dx fs)) p L s' where
  duel := by rw [upd_same, ef]
  inj := R.inj
  rest := by rw [upd_ne (R.np (by decide)), e0]; exact R.rest
  phs := by rw [upd_ne (R.np (by decide))]; exact R.phs
  phsR := by rw [e1]; exact pairs_keep (RT.keep (Keep.upd R.duel duel_not)) R.phsR
  extra := by rw [upd_ne (R.np (by decide)), e2]; exact R.extra
  st := by rw [upd_ne (R.np (by decide)), e3]; exact R.st
  sf := by rw [upd_ne (R.np (by decide)), e4]; exact R.sf
  ss := by rw [upd_ne (R.np (by decide))]; exact R.ss
  s0 := by rw [upd_ne (R.np (by decide)), e5]; exact R.s0
  s1 := by rw [upd_ne (R.np (by decide)), e5]; exact R.s1
  stk := by rw [upd_ne (R.np (by decide))]; exact R.stk
  stkR := by rw [e6]; exact pairs_keep (RI.keep (Keep.upd R.duel duel_not)) R.stkR
  mks := by rw [upd_ne (R.np (by decide))]; exact R.mks
  mksR := by rw [e7]; exact pairs_keep (RM.keep (Keep.upd R.duel duel_not)) R.mksR
  dls := by rw [upd_ne (R.np (by decide))]; exact R.dls
  dlsR := by rw [e8]; exact pairs_keep (RL.keep (Keep.upd R.duel duel_not)) R.dlsR
  tos := by rw [upd_ne (R.np (by decide)), e9]; exact R.tos
theorem Rep.wRest (R : Rep K C H p L s) (r : List Nat) : Rep K C (upd H (L.a 0) (.lst (nats r))) p L { s with rest := r } where
  duel := by show upd H (L.a 0) _ p = _; rw [upd_ne (R.pn (by decide))]; exact R.duel
  inj := R.inj
  rest := upd_same
  phs := by show upd H (L.a 0) _ (L.a 1) = _; rw [upd_ne (R.ne (by decide) (by decide) (by decide))]; exact R.phs
  phsR := by exact pairs_keep (RT.keep (let ⟨_, h⟩ := R.lst 0 (by decide); Keep.upd h lst_not)) R.phsR
  extra := by show upd H (L.a 0) _ (L.a 2) = _; rw [upd_ne (R.ne (by decide) (by decide) (by decide))]; exact R.extra
  st := by show upd H (L.a 0) _ (L.a 3) = _; rw [upd_ne (R.ne (by decide) (by decide) (by decide))]; exact R.st
  sf := by show upd H (L.a 0) _ (L.a 4) = _; rw [upd_ne (R.ne (by decide) (by decide) (by decide))]; exact R.sf
  ss := by show upd H (L.a 0) _ (L.a 5) = _; rw [upd_ne (R.ne (by decide) (by decide) (by decide))]; exact R.ss
  s0 := by show upd H (L.a 0) _ (L.a 6) = _; rw [upd_ne (R.ne (by decide) (by decide) (by decide))]; exact R.s0
  s1 := by show upd H (L.a 0) _ (L.a 7) = _; rw [upd_ne (R.ne (by decide) (by decide) (by decide))]; exact R.s1
  stk := by show upd H (L.a 0) _ (L.a 8) = _; rw [upd_ne (R.ne (by decide) (by decide) (by decide))]; exact R.stk
  stkR := by exact pairs_keep (RI.keep (let ⟨_, h⟩ := R.lst 0 (by decide); Keep.upd h lst_not)) R.stkR
  mks := by show upd H (L.a 0) _ (L.a 9) = _; rw [upd_ne (R.ne (by decide) (by decide) (by decide))]; exact R.mks
  mksR := by exact pairs_keep (RM.keep (let ⟨_, h⟩ := R.lst 0 (by decide); Keep.upd h lst_not)) R.mksR
  dls := by show upd H (L.a 0) _ (L.a 10) = _; rw [upd_ne (R.ne (by decide) (by decide) (by decide))]; exact R.dls
  dlsR := by exact pairs_keep (RL.keep (let ⟨_, h⟩ := R.lst 0 (by decide); Keep.upd h lst_not)) R.dlsR
  tos := by show upd H (L.a 0) _ (L.a 11) = _; rw [upd_ne (R.ne (by decide) (by decide) (by decide))]; exact R.tos
theorem Rep.wExtra (R : Rep K C H p L s) (r : List Nat) : Rep K C (upd H (L.a 2) (.lst (nats r))) p L { s with extra := r } where
  duel := by show upd H (L.a 2) _ p = _; rw [upd_ne (R.pn (by decide))]; exact R.duel
  inj := R.inj
  rest := by show upd H (L.a 2) _ (L.a 0) = _; rw [upd_ne (R.ne (by decide) (by decide) (by decide))]; exact R.rest
  phs := by show upd H (L.a 2) _ (L.a 1) = _; rw [upd_ne (R.ne (by decide) (by decide) (by decide))]; exact R.phs
  phsR := by exact pairs_keep (RT.keep (let ⟨_, h⟩ := R.lst 2 (by decide); Keep.upd h lst_not)) R.phsR
  extra := upd_same
  st := by show upd H (L.a 2) _ (L.a 3) = _; rw [upd_ne (R.ne (by decide) (by decide) (by decide))]; exact R.st
  sf := by show upd H (L.a 2) _ (L.a 4) = _; rw [upd_ne (R.ne (by decide) (by decide) (by decide))]; exact R.sf
  ss := by show upd H (L.a 2) _ (L.a 5) = _; rw [upd_ne (R.ne (by decide) (by decide) (by decide))]; exact R.ss
  s0 := by show upd H (L.a 2) _ (L.a 6) = _; rw [upd_ne (R.ne (by decide) (by decide) (by decide))]; exact R.s0
  s1 := by show upd H (L.a 2) _ (L.a 7) = _; rw [upd_ne (R.ne (by decide) (by decide) (by decide))]; exact R.s1
  stk := by show upd H (L.a 2) _ (L.a 8) = _; rw [upd_ne (R.ne (by decide) (by decide) (by decide))]; exact R.stk
  stkR := by exact pairs_keep (RI.keep (let ⟨_, h⟩ := R.lst 2 (by decide); Keep.upd h lst_not)) R.stkR
  mks := by show upd H (L.a 2) _ (L.a 9) = _; rw [upd_ne (R.ne (by decide) (by decide) (by decide))]; exact R.mks
  mksR := by exact pairs_keep (RM.keep (let ⟨_, h⟩ := R.lst 2 (by decide); Keep.upd h lst_not)) R.mksR
  dls := by show upd H (L.a 2) _ (L.a 10) = _; rw [upd_ne (R.ne (by decide) (by decide) (by decide))]; exact R.dls
  dlsR := by exact pairs_keep (RL.keep (let ⟨_, h⟩ := R.lst 2 (by decide); Keep.upd h lst_not)) R.dlsR
  tos := by show upd H (L.a 2) _ (L.a 11) = _; rw [upd_ne (R.ne (by decide) (by decide) (by decide))]; exact R.tos
theorem Rep.wSt (R : Rep K C H p L s) (r : List Nat) : Rep K C (upd H (L.a 3) (.lst (nats r))) p L { s with skipTurns := r } where
  duel := by show upd H (L.a 3) _ p = _; rw [upd_ne (R.pn (by decide))]; exact R.duel
  inj := R.inj
  rest := by show upd H (L.a 3) _ (L.a 0) = _; rw [upd_ne (R.ne (by decide) (by decide) (by decide))]; exact R.rest
  phs := by show upd H (L.a 3) _ (L.a 1) = _; rw [upd_ne (R.ne (by decide) (by decide) (by decide))]; exact R.phs
  phsR := by exact pairs_keep (RT.keep (let ⟨_, h⟩ := R.lst 3 (by decide); Keep.upd h lst_not)) R.phsR
  extra := by show upd H (L.a 3) _ (L.a 2) = _; rw [upd_ne (R.ne (by decide) (by decide) (by decide))]; exact R.extra
  st := upd_same
  sf := by show upd H (L.a 3) _ (L.a 4) = _; rw [upd_ne (R.ne (by decide) (by decide) (by decide))]; exact R.sf
  ss := by show upd H (L.a 3) _ (L.a 5) = _; rw [upd_ne (R.ne (by decide) (by decide) (by decide))]; exact R.ss
  s0 := by show upd H (L.a 3) _ (L.a 6) = _; rw [upd_ne (R.ne (by decide) (by decide) (by decide))]; exact R.s0
  s1 := by show upd H (L.a 3) _ (L.a 7) = _; rw [upd_ne (R.ne (by decide) (by decide) (by decide))]; exact R.s1
  stk := by show upd H (L.a 3) _ (L.a 8) = _; rw [upd_ne (R.ne (by decide) (by decide) (by decide))]; exact R.stk
  stkR := by exact pairs_keep (RI.keep (let ⟨_, h⟩ := R.lst 3 (by decide); Keep.upd h lst_not)) R.stkR
  mks := by show upd H (L.a 3) _ (L.a 9) = _; rw [upd_ne (R.ne (by decide) (by decide) (by decide))]; exact R.mks
  mksR := by exact pairs_keep (RM.keep (let ⟨_, h⟩ := R.lst 3 (by decide); Keep.upd h lst_not)) R.mksR
  dls := by show upd H (L.a 3) _ (L.a 10) = _; rw [upd_ne (R.ne (by decide) (by decide) (by decide))]; exact R.dls
  dlsR := by exact pairs_keep (RL.keep (let ⟨_, h⟩ := R.lst 3 (by decide); Keep.upd h lst_not)) R.dlsR
  tos := by show upd H (L.a 3) _ (L.a 11) = _; rw [upd_ne (R.ne (by decide) (by decide) (by decide))]; exact R.tos
theorem Rep.wSf (R : Rep K C H p L s) (r : List Nat) : Rep K C (upd H (L.a 4) (.lst (nats r))) p L { s with skipFights := r } where
  duel := by show upd H (L.a 4) _ p = _; rw [upd_ne (R.pn (by decide))]; exact R.duel
  inj := R.inj
  rest := by show upd H (L.a 4) _ (L.a 0) = _; rw [upd_ne (R.ne (by decide) (by decide) (by decide))]; exact R.rest
  phs := by show upd H (L.a 4) _ (L.a 1) = _; rw [upd_ne (R.ne (by decide) (by decide) (by decide))]; exact R.phs
  phsR := by exact pairs_keep (RT.keep (let ⟨_, h⟩ := R.lst 4 (by decide); Keep.upd h lst_not)) R.phsR
  extra := by show upd H (L.a 4) _ (L.a 2) = _; rw [upd_ne (R.ne (by decide) (by decide) (by decide))]; exact R.extra
  st := by show upd H (L.a 4) _ (L.a 3) = _; rw [upd_ne (R.ne (by decide) (by decide) (by decide))]; exact R.st
  sf := upd_same
  ss := by show upd H (L.a 4) _ (L.a 5) = _; rw [upd_ne (R.ne (by decide) (by decide) (by decide))]; exact R.ss
  s0 := by show upd H (L.a 4) _ (L.a 6) = _; rw [upd_ne (R.ne (by decide) (by decide) (by decide))]; exact R.s0
  s1 := by show upd H (L.a 4) _ (L.a 7) = _; rw [upd_ne (R.ne (by decide) (by decide) (by decide))]; exact R.s1
  stk := by show upd H (L.a 4) _ (L.a 8) = _; rw [upd_ne (R.ne (by decide) (by decide) (by decide))]; exact R.stk
  stkR := by exact pairs_keep (RI.keep (let ⟨_, h⟩ := R.lst 4 (by decide); Keep.upd h lst_not)) R.stkR
  mks := by show upd H (L.a 4) _ (L.a 9) = _; rw [upd_ne (R.ne (by decide) (by decide) (by decide))]; exact R.mks
  mksR := by exact pairs_keep (RM.keep (let ⟨_, h⟩ := R.lst 4 (by decide); Keep.upd h lst_not)) R.mksR
  dls := by show upd H (L.a 4) _ (L.a 10) = _; rw [upd_ne (R.ne (by decide) (by decide) (by decide))]; exact R.dls
  dlsR := by exact pairs_keep (RL.keep (let ⟨_, h⟩ := R.lst 4 (by decide); Keep.upd h lst_not)) R.dlsR
  tos := by show upd H (L.a 4) _ (L.a 11) = _; rw [upd_ne (R.ne (by decide) (by decide) (by decide))]; exact R.tos
theorem Rep.wTs (R : Rep K C H p L s) (r : List Nat) : Rep K C (upd H (L.a 11) (.lst (nats r))) p L { s with turns := r } where
  duel := by show upd H (L.a 11) _ p = _; rw [upd_ne (R.pn (by decide))]; exact R.duel
  inj := R.inj
  rest := by show upd H (L.a 11) _ (L.a 0) = _; rw [upd_ne (R.ne (by decide) (by decide) (by decide))]; exact R.rest
  phs := by show upd H (L.a 11) _ (L.a 1) = _; rw [upd_ne (R.ne (by decide) (by decide) (by decide))]; exact R.phs
  phsR := by exact pairs_keep (RT.keep (let ⟨_, h⟩ := R.lst 11 (by decide); Keep.upd h lst_not)) R.phsR
  extra := by show upd H (L.a 11) _ (L.a 2) = _; rw [upd_ne (R.ne (by decide) (by decide) (by decide))]; exact R.extra
  st := by show upd H (L.a 11) _ (L.a 3) = _; rw [upd_ne (R.ne (by decide) (by decide) (by decide))]; exact R.st
  sf := by show upd H (L.a 11) _ (L.a 4) = _; rw [upd_ne (R.ne (by decide) (by decide) (by decide))]; exact R.sf
  ss := by show upd H (L.a 11) _ (L.a 5) = _; rw [upd_ne (R.ne (by decide) (by decide) (by decide))]; exact R.ss
  s0 := by show upd H (L.a 11) _ (L.a 6) = _; rw [upd_ne (R.ne (by decide) (by decide) (by decide))]; exact R.s0
  s1 := by show upd H (L.a 11) _ (L.a 7) = _; rw [upd_ne (R.ne (by decide) (by decide) (by decide))]; exact R.s1
  stk := by show upd H (L.a 11) _ (L.a 8) = _; rw [upd_ne (R.ne (by decide) (by decide) (by decide))]; exact R.stk
  stkR := by exact pairs_keep (RI.keep (let ⟨_, h⟩ := R.lst 11 (by decide); Keep.upd h lst_not)) R.stkR
  mks := by show upd H (L.a 11) _ (L.a 9) = _; rw [upd_ne (R.ne (by decide) (by decide) (by decide))]; exact R.mks
  mksR := by exact pairs_keep (RM.keep (let ⟨_, h⟩ := R.lst 11 (by decide); Keep.upd h lst_not)) R.mksR
  dls := by show upd H (L.a 11) _ (L.a 10) = _; rw [upd_ne (R.ne (by decide) (by decide) (by decide))]; exact R.dls
  dlsR := by exact pairs_keep (RL.keep (let ⟨_, h⟩ := R.lst 11 (by decide); Keep.upd h lst_not)) R.dlsR
  tos := upd_same
theorem Rep.wPhs (R : Rep K C H p L s) {vs : List V} {r : List (List Nat)} (hv : Paired (RT K H) vs r) : Rep K C (upd H (L.a 1) (.lst (vs))) p (L.setv 1 vs) { s with later := r } where
  duel := by show upd H (L.a 1) _ p = _; rw [upd_ne (R.pn (by decide))]; exact R.duel
  inj := R.inj
  rest := by show upd H (L.a 1) _ (L.a 0) = _; rw [upd_ne (R.ne (by decide) (by decide) (by decide))]; exact R.rest
  phs := by show upd H (L.a 1) _ (L.a 1) = _; rw [upd_same, setv_same]
  phsR := by rw [setv_same]; exact pairs_keep (RT.keep (let ⟨_, h⟩ := R.lst 1 (by decide); Keep.upd h lst_not)) hv
  extra := by show upd H (L.a 1) _ (L.a 2) = _; rw [upd_ne (R.ne (by decide) (by decide) (by decide))]; exact R.extra
  st := by show upd H (L.a 1) _ (L.a 3) = _; rw [upd_ne (R.ne (by decide) (by decide) (by decide))]; exact R.st
  sf := by show upd H (L.a 1) _ (L.a 4) = _; rw [upd_ne (R.ne (by decide) (by decide) (by decide))]; exact R.sf
  ss := by show upd H (L.a 1) _ (L.a 5) = _; rw [upd_ne (R.ne (by decide) (by decide) (by decide))]; exact R.ss
  s0 := by show upd H (L.a 1) _ (L.a 6) = _; rw [upd_ne (R.ne (by decide) (by decide) (by decide))]; exact R.s0
  s1 := by show upd H (L.a 1) _ (L.a 7) = _; rw [upd_ne (R.ne (by decide) (by decide) (by decide))]; exact R.s1
  stk := by show upd H (L.a 1) _ (L.a 8) = _; rw [upd_ne (R.ne (by decide) (by decide) (by decide)), setv_ne (by decide)]; exact R.stk
  stkR := by rw [setv_ne (by decide)]; exact pairs_keep (RI.keep (let ⟨_, h⟩ := R.lst 1 (by decide); Keep.upd h lst_not)) R.stkR
  mks := by show upd H (L.a 1) _ (L.a 9) = _; rw [upd_ne (R.ne (by decide) (by decide) (by decide)), setv_ne (by decide)]; exact R.mks
  mksR := by rw [setv_ne (by decide)]; exact pairs_keep (RM.keep (let ⟨_, h⟩ := R.lst 1 (by decide); Keep.upd h lst_not)) R.mksR
  dls := by show upd H (L.a 1) _ (L.a 10) = _; rw [upd_ne (R.ne (by decide) (by decide) (by decide)), setv_ne (by decide)]; exact R.dls
  dlsR := by rw [setv_ne (by decide)]; exact pairs_keep (RL.keep (let ⟨_, h⟩ := R.lst 1 (by decide); Keep.upd h lst_not)) R.dlsR
  tos := by show upd H (L.a 1) _ (L.a 11) = _; rw [upd_ne (R.ne (by decide) (by decide) (by decide))]; exact R.tos
theorem Rep.wStk (R : Rep K C H p L s) {vs : List V} {r : List (Vbdcaf.Item)} (hv : Paired (RI C H) vs r) : Rep K C (upd H (L.a 8) (.lst (vs))) p (L.setv 8 vs) { s with stack := r } where
  duel := by show upd H (L.a 8) _ p = _; rw [upd_ne (R.pn (by decide))]; exact R.duel
  inj := R.inj
  rest := by show upd H (L.a 8) _ (L.a 0) = _; rw [upd_ne (R.ne (by decide) (by decide) (by decide))]; exact R.rest
  phs := by show upd H (L.a 8) _ (L.a 1) = _; rw [upd_ne (R.ne (by decide) (by decide) (by decide)), setv_ne (by decide)]; exact R.phs
  phsR := by rw [setv_ne (by decide)]; exact pairs_keep (RT.keep (let ⟨_, h⟩ := R.lst 8 (by decide); Keep.upd h lst_not)) R.phsR
  extra := by show upd H (L.a 8) _ (L.a 2) = _; rw [upd_ne (R.ne (by decide) (by decide) (by decide))]; exact R.extra
  st := by show upd H (L.a 8) _ (L.a 3) = _; rw [upd_ne (R.ne (by decide) (by decide) (by decide))]; exact R.st
  sf := by show upd H (L.a 8) _ (L.a 4) = _; rw [upd_ne (R.ne (by decide) (by decide) (by decide))]; exact R.sf
  ss := by show upd H (L.a 8) _ (L.a 5) = _; rw [upd_ne (R.ne (by decide) (by decide) (by decide))]; exact R.ss
  s0 := by show upd H (L.a 8) _ (L.a 6) = _; rw [upd_ne (R.ne (by decide) (by decide) (by decide))]; exact R.s0
  s1 := by show upd H (L.a 8) _ (L.a 7) = _; rw [upd_ne (R.ne (by decide) (by decide) (by decide))]; exact R.s1
  stk := by show upd H (L.a 8) _ (L.a 8) = _; rw [upd_same, setv_same]
  stkR := by rw [setv_same]; exact pairs_keep (RI.keep (let ⟨_, h⟩ := R.lst 8 (by decide); Keep.upd h lst_not)) hv
  mks := by show upd H (L.a 8) _ (L.a 9) = _; rw [upd_ne (R.ne (by decide) (by decide) (by decide)), setv_ne (by decide)]; exact R.mks
  mksR := by rw [setv_ne (by decide)]; exact pairs_keep (RM.keep (let ⟨_, h⟩ := R.lst 8 (by decide); Keep.upd h lst_not)) R.mksR
  dls := by show upd H (L.a 8) _ (L.a 10) = _; rw [upd_ne (R.ne (by decide) (by decide) (by decide)), setv_ne (by decide)]; exact R.dls
  dlsR := by rw [setv_ne (by decide)]; exact pairs_keep (RL.keep (let ⟨_, h⟩ := R.lst 8 (by decide); Keep.upd h lst_not)) R.dlsR
  tos := by show upd H (L.a 8) _ (L.a 11) = _; rw [upd_ne (R.ne (by decide) (by decide) (by decide))]; exact R.tos
theorem Rep.wMks (R : Rep K C H p L s) {vs : List V} {r : List (Vbdcaf.Mark)} (hv : Paired (RM C H) vs r) : Rep K C (upd H (L.a 9) (.lst (vs))) p (L.setv 9 vs) { s with marks := r } where
  duel := by show upd H (L.a 9) _ p = _; rw [upd_ne (R.pn (by decide))]; exact R.duel
  inj := R.inj
  rest := by show upd H (L.a 9) _ (L.a 0) = _; rw [upd_ne (R.ne (by decide) (by decide) (by decide))]; exact R.rest
  phs := by show upd H (L.a 9) _ (L.a 1) = _; rw [upd_ne (R.ne (by decide) (by decide) (by decide)), setv_ne (by decide)]; exact R.phs
  phsR := by rw [setv_ne (by decide)]; exact pairs_keep (RT.keep (let ⟨_, h⟩ := R.lst 9 (by decide); Keep.upd h lst_not)) R.phsR
  extra := by show upd H (L.a 9) _ (L.a 2) = _; rw [upd_ne (R.ne (by decide) (by decide) (by decide))]; exact R.extra
  st := by show upd H (L.a 9) _ (L.a 3) = _; rw [upd_ne (R.ne (by decide) (by decide) (by decide))]; exact R.st
  sf := by show upd H (L.a 9) _ (L.a 4) = _; rw [upd_ne (R.ne (by decide) (by decide) (by decide))]; exact R.sf
  ss := by show upd H (L.a 9) _ (L.a 5) = _; rw [upd_ne (R.ne (by decide) (by decide) (by decide))]; exact R.ss
  s0 := by show upd H (L.a 9) _ (L.a 6) = _; rw [upd_ne (R.ne (by decide) (by decide) (by decide))]; exact R.s0
  s1 := by show upd H (L.a 9) _ (L.a 7) = _; rw [upd_ne (R.ne (by decide) (by decide) (by decide))]; exact R.s1
  stk := by show upd H (L.a 9) _ (L.a 8) = _; rw [upd_ne (R.ne (by decide) (by decide) (by decide)), setv_ne (by decide)]; exact R.stk
  stkR := by rw [setv_ne (by decide)]; exact pairs_keep (RI.keep (let ⟨_, h⟩ := R.lst 9 (by decide); Keep.upd h lst_not)) R.stkR
  mks := by show upd H (L.a 9) _ (L.a 9) = _; rw [upd_same, setv_same]
  mksR := by rw [setv_same]; exact pairs_keep (RM.keep (let ⟨_, h⟩ := R.lst 9 (by decide); Keep.upd h lst_not)) hv
  dls := by show upd H (L.a 9) _ (L.a 10) = _; rw [upd_ne (R.ne (by decide) (by decide) (by decide)), setv_ne (by decide)]; exact R.dls
  dlsR := by rw [setv_ne (by decide)]; exact pairs_keep (RL.keep (let ⟨_, h⟩ := R.lst 9 (by decide); Keep.upd h lst_not)) R.dlsR
  tos := by show upd H (L.a 9) _ (L.a 11) = _; rw [upd_ne (R.ne (by decide) (by decide) (by decide))]; exact R.tos
theorem Rep.wDls (R : Rep K C H p L s) {vs : List V} {r : List (Vbdcaf.Delay)} (hv : Paired (RL C H) vs r) : Rep K C (upd H (L.a 10) (.lst (vs))) p (L.setv 10 vs) { s with delays := r } where
  duel := by show upd H (L.a 10) _ p = _; rw [upd_ne (R.pn (by decide))]; exact R.duel
  inj := R.inj
  rest := by show upd H (L.a 10) _ (L.a 0) = _; rw [upd_ne (R.ne (by decide) (by decide) (by decide))]; exact R.rest
  phs := by show upd H (L.a 10) _ (L.a 1) = _; rw [upd_ne (R.ne (by decide) (by decide) (by decide)), setv_ne (by decide)]; exact R.phs
  phsR := by rw [setv_ne (by decide)]; exact pairs_keep (RT.keep (let ⟨_, h⟩ := R.lst 10 (by decide); Keep.upd h lst_not)) R.phsR
  extra := by show upd H (L.a 10) _ (L.a 2) = _; rw [upd_ne (R.ne (by decide) (by decide) (by decide))]; exact R.extra
  st := by show upd H (L.a 10) _ (L.a 3) = _; rw [upd_ne (R.ne (by decide) (by decide) (by decide))]; exact R.st
  sf := by show upd H (L.a 10) _ (L.a 4) = _; rw [upd_ne (R.ne (by decide) (by decide) (by decide))]; exact R.sf
  ss := by show upd H (L.a 10) _ (L.a 5) = _; rw [upd_ne (R.ne (by decide) (by decide) (by decide))]; exact R.ss
  s0 := by show upd H (L.a 10) _ (L.a 6) = _; rw [upd_ne (R.ne (by decide) (by decide) (by decide))]; exact R.s0
  s1 := by show upd H (L.a 10) _ (L.a 7) = _; rw [upd_ne (R.ne (by decide) (by decide) (by decide))]; exact R.s1
  stk := by show upd H (L.a 10) _ (L.a 8) = _; rw [upd_ne (R.ne (by decide) (by decide) (by decide)), setv_ne (by decide)]; exact R.stk
  stkR := by rw [setv_ne (by decide)]; exact pairs_keep (RI.keep (let ⟨_, h⟩ := R.lst 10 (by decide); Keep.upd h lst_not)) R.stkR
  mks := by show upd H (L.a 10) _ (L.a 9) = _; rw [upd_ne (R.ne (by decide) (by decide) (by decide)), setv_ne (by decide)]; exact R.mks
  mksR := by rw [setv_ne (by decide)]; exact pairs_keep (RM.keep (let ⟨_, h⟩ := R.lst 10 (by decide); Keep.upd h lst_not)) R.mksR
  dls := by show upd H (L.a 10) _ (L.a 10) = _; rw [upd_same, setv_same]
  dlsR := by rw [setv_same]; exact pairs_keep (RL.keep (let ⟨_, h⟩ := R.lst 10 (by decide); Keep.upd h lst_not)) hv
  tos := by show upd H (L.a 10) _ (L.a 11) = _; rw [upd_ne (R.ne (by decide) (by decide) (by decide))]; exact R.tos
theorem Rep.wS0 (R : Rep K C H p L s) {r : List Nat} {vs : List V} (e1 : vs = nats (r.take 11)) (e2 : r.drop 11 = s.skipSteps.drop 11) : Rep K C (upd H (L.a 6) (.lst (vs))) p L { s with skipSteps := r } where
  duel := by show upd H (L.a 6) _ p = _; rw [upd_ne (R.pn (by decide))]; exact R.duel
  inj := R.inj
  rest := by show upd H (L.a 6) _ (L.a 0) = _; rw [upd_ne (R.ne (by decide) (by decide) (by decide))]; exact R.rest
  phs := by show upd H (L.a 6) _ (L.a 1) = _; rw [upd_ne (R.ne (by decide) (by decide) (by decide))]; exact R.phs
  phsR := by exact pairs_keep (RT.keep (let ⟨_, h⟩ := R.lst 6 (by decide); Keep.upd h lst_not)) R.phsR
  extra := by show upd H (L.a 6) _ (L.a 2) = _; rw [upd_ne (R.ne (by decide) (by decide) (by decide))]; exact R.extra
  st := by show upd H (L.a 6) _ (L.a 3) = _; rw [upd_ne (R.ne (by decide) (by decide) (by decide))]; exact R.st
  sf := by show upd H (L.a 6) _ (L.a 4) = _; rw [upd_ne (R.ne (by decide) (by decide) (by decide))]; exact R.sf
  ss := by show upd H (L.a 6) _ (L.a 5) = _; rw [upd_ne (R.ne (by decide) (by decide) (by decide))]; exact R.ss
  s0 := by rw [upd_same, e1]
  s1 := by show _ = some (HO.lst (nats (r.drop 11))); rw [upd_ne (R.ne (by decide) (by decide) (by decide)), e2]; exact R.s1
  stk := by show upd H (L.a 6) _ (L.a 8) = _; rw [upd_ne (R.ne (by decide) (by decide) (by decide))]; exact R.stk
  stkR := by exact pairs_keep (RI.keep (let ⟨_, h⟩ := R.lst 6 (by decide); Keep.upd h lst_not)) R.stkR
  mks := by show upd H (L.a 6) _ (L.a 9) = _; rw [upd_ne (R.ne (by decide) (by decide) (by decide))]; exact R.mks
  mksR := by exact pairs_keep (RM.keep (let ⟨_, h⟩ := R.lst 6 (by decide); Keep.upd h lst_not)) R.mksR
  dls := by show upd H (L.a 6) _ (L.a 10) = _; rw [upd_ne (R.ne (by decide) (by decide) (by decide))]; exact R.dls
  dlsR := by exact pairs_keep (RL.keep (let ⟨_, h⟩ := R.lst 6 (by decide); Keep.upd h lst_not)) R.dlsR
  tos := by show upd H (L.a 6) _ (L.a 11) = _; rw [upd_ne (R.ne (by decide) (by decide) (by decide))]; exact R.tos
theorem Rep.wS1 (R : Rep K C H p L s) {r : List Nat} {vs : List V} (e1 : vs = nats (r.drop 11)) (e2 : r.take 11 = s.skipSteps.take 11) : Rep K C (upd H (L.a 7) (.lst (vs))) p L { s with skipSteps := r } where
  duel := by show upd H (L.a 7) _ p = _; rw [upd_ne (R.pn (by decide))]; exact R.duel
  inj := R.inj
  rest := by show upd H (L.a 7) _ (L.a 0) = _; rw [upd_ne (R.ne (by decide) (by decide) (by decide))]; exact R.rest
  phs := by show upd H (L.a 7) _ (L.a 1) = _; rw [upd_ne (R.ne (by decide) (by decide) (by decide))]; exact R.phs
  phsR := by exact pairs_keep (RT.keep (let ⟨_, h⟩ := R.lst 7 (by decide); Keep.upd h lst_not)) R.phsR
  extra := by show upd H (L.a 7) _ (L.a 2) = _; rw [upd_ne (R.ne (by decide) (by decide) (by decide))]; exact R.extra
  st := by show upd H (L.a 7) _ (L.a 3) = _; rw [upd_ne (R.ne (by decide) (by decide) (by decide))]; exact R.st
  sf := by show upd H (L.a 7) _ (L.a 4) = _; rw [upd_ne (R.ne (by decide) (by decide) (by decide))]; exact R.sf
  ss := by show upd H (L.a 7) _ (L.a 5) = _; rw [upd_ne (R.ne (by decide) (by decide) (by decide))]; exact R.ss
  s0 := by show _ = some (HO.lst (nats (r.take 11))); rw [upd_ne (R.ne (by decide) (by decide) (by decide)), e2]; exact R.s0
  s1 := by rw [upd_same, e1]
  stk := by show upd H (L.a 7) _ (L.a 8) = _; rw [upd_ne (R.ne (by decide) (by decide) (by decide))]; exact R.stk
  stkR := by exact pairs_keep (RI.keep (let ⟨_, h⟩ := R.lst 7 (by decide); Keep.upd h lst_not)) R.stkR
  mks := by show upd H (L.a 7) _ (L.a 9) = _; rw [upd_ne (R.ne (by decide) (by decide) (by decide))]; exact R.mks
  mksR := by exact pairs_keep (RM.keep (let ⟨_, h⟩ := R.lst 7 (by decide); Keep.upd h lst_not)) R.mksR
  dls := by show upd H (L.a 7) _ (L.a 10) = _; rw [upd_ne (R.ne (by decide) (by decide) (by decide))]; exact R.dls
  dlsR := by exact pairs_keep (RL.keep (let ⟨_, h⟩ := R.lst 7 (by decide); Keep.upd h lst_not)) R.dlsR
  tos := by show upd H (L.a 7) _ (L.a 11) = _; rw [upd_ne (R.ne (by decide) (by decide) (by decide))]; exact R.tos
theorem out_set {i : Nat} {l b : Addr} (h : Out L b) (hl : b ≠ l) : Out (L.set i l) b := fun j hj => by
  by_cases e : j = i
  · subst e; rw [set_same]; exact hl
  · rw [set_ne e]; exact h j hj
theorem inj_set (R : ∀ i j, i < 12 → j < 12 → L.a i = L.a j → i = j) {l : Addr} (ho : Out L l) {k : Nat} : ∀ i j, i < 12 → j < 12 → (L.set k l).a i = (L.set k l).a j → i = j := fun i j hi hj e => by
  by_cases e1 : i = k
  · by_cases e2 : j = k
    · rw [e1, e2]
    · subst e1; rw [set_same, set_ne e2] at e; exact absurd e (ho j hj)
  · by_cases e2 : j = k
    · subst e2; rw [set_same, set_ne e1] at e; exact absurd e.symm (ho i hi)
    · rw [set_ne e1, set_ne e2] at e; exact R i j hi hj e
theorem Rep.nRest (R : Rep K C H p L s) {l : Addr} {fs : List (Str × V)} (ho : Out L l) {r : List Nat} (hl : H l = some (.lst (nats r))) (ef : fs = fsD { dv L s with rest := .ref l }) : Rep K C (upd H p (.ins C.duel L.dx fs)) p (L.set 0 l) { s with rest := r } where
  duel := by rw [upd_same, ef]; rfl
  inj := inj_set R.inj ho
  rest := by show upd H p _ ((L.set 0 l).a 0) = _; rw [set_same, upd_ne (ne_of hl R.duel (by intro z; cases z))]; exact hl
  phs := by show upd H p _ ((L.set 0 l).a 1) = _; rw [set_ne (by decide), upd_ne (R.np (by decide))]; exact R.phs
  phsR := by exact pairs_keep (RT.keep (Keep.upd R.duel duel_not)) R.phsR
  extra := by show upd H p _ ((L.set 0 l).a 2) = _; rw [set_ne (by decide), upd_ne (R.np (by decide))]; exact R.extra
  st := by show upd H p _ ((L.set 0 l).a 3) = _; rw [set_ne (by decide), upd_ne (R.np (by decide))]; exact R.st
  sf := by show upd H p _ ((L.set 0 l).a 4) = _; rw [set_ne (by decide), upd_ne (R.np (by decide))]; exact R.sf
  ss := by show upd H p _ ((L.set 0 l).a 5) = _; rw [set_ne (by decide), upd_ne (R.np (by decide))]; exact R.ss
  s0 := by show upd H p _ ((L.set 0 l).a 6) = _; rw [set_ne (by decide), upd_ne (R.np (by decide))]; exact R.s0
  s1 := by show upd H p _ ((L.set 0 l).a 7) = _; rw [set_ne (by decide), upd_ne (R.np (by decide))]; exact R.s1
  stk := by show upd H p _ ((L.set 0 l).a 8) = _; rw [set_ne (by decide), upd_ne (R.np (by decide))]; exact R.stk
  stkR := by exact pairs_keep (RI.keep (Keep.upd R.duel duel_not)) R.stkR
  mks := by show upd H p _ ((L.set 0 l).a 9) = _; rw [set_ne (by decide), upd_ne (R.np (by decide))]; exact R.mks
  mksR := by exact pairs_keep (RM.keep (Keep.upd R.duel duel_not)) R.mksR
  dls := by show upd H p _ ((L.set 0 l).a 10) = _; rw [set_ne (by decide), upd_ne (R.np (by decide))]; exact R.dls
  dlsR := by exact pairs_keep (RL.keep (Keep.upd R.duel duel_not)) R.dlsR
  tos := by show upd H p _ ((L.set 0 l).a 11) = _; rw [set_ne (by decide), upd_ne (R.np (by decide))]; exact R.tos
theorem Rep.nExtra (R : Rep K C H p L s) {l : Addr} {fs : List (Str × V)} (ho : Out L l) {r : List Nat} (hl : H l = some (.lst (nats r))) (ef : fs = fsD { dv L s with extra := .ref l }) : Rep K C (upd H p (.ins C.duel L.dx fs)) p (L.set 2 l) { s with extra := r } where
  duel := by rw [upd_same, ef]; rfl
  inj := inj_set R.inj ho
  rest := by show upd H p _ ((L.set 2 l).a 0) = _; rw [set_ne (by decide), upd_ne (R.np (by decide))]; exact R.rest
  phs := by show upd H p _ ((L.set 2 l).a 1) = _; rw [set_ne (by decide), upd_ne (R.np (by decide))]; exact R.phs
  phsR := by exact pairs_keep (RT.keep (Keep.upd R.duel duel_not)) R.phsR
  extra := by show upd H p _ ((L.set 2 l).a 2) = _; rw [set_same, upd_ne (ne_of hl R.duel (by intro z; cases z))]; exact hl
  st := by show upd H p _ ((L.set 2 l).a 3) = _; rw [set_ne (by decide), upd_ne (R.np (by decide))]; exact R.st
  sf := by show upd H p _ ((L.set 2 l).a 4) = _; rw [set_ne (by decide), upd_ne (R.np (by decide))]; exact R.sf
  ss := by show upd H p _ ((L.set 2 l).a 5) = _; rw [set_ne (by decide), upd_ne (R.np (by decide))]; exact R.ss
  s0 := by show upd H p _ ((L.set 2 l).a 6) = _; rw [set_ne (by decide), upd_ne (R.np (by decide))]; exact R.s0
  s1 := by show upd H p _ ((L.set 2 l).a 7) = _; rw [set_ne (by decide), upd_ne (R.np (by decide))]; exact R.s1
  stk := by show upd H p _ ((L.set 2 l).a 8) = _; rw [set_ne (by decide), upd_ne (R.np (by decide))]; exact R.stk
  stkR := by exact pairs_keep (RI.keep (Keep.upd R.duel duel_not)) R.stkR
  mks := by show upd H p _ ((L.set 2 l).a 9) = _; rw [set_ne (by decide), upd_ne (R.np (by decide))]; exact R.mks
  mksR := by exact pairs_keep (RM.keep (Keep.upd R.duel duel_not)) R.mksR
  dls := by show upd H p _ ((L.set 2 l).a 10) = _; rw [set_ne (by decide), upd_ne (R.np (by decide))]; exact R.dls
  dlsR := by exact pairs_keep (RL.keep (Keep.upd R.duel duel_not)) R.dlsR
  tos := by show upd H p _ ((L.set 2 l).a 11) = _; rw [set_ne (by decide), upd_ne (R.np (by decide))]; exact R.tos
theorem Rep.nPhs (R : Rep K C H p L s) {l : Addr} {fs : List (Str × V)} (ho : Out L l) {vs : List V} {r : List (List Nat)} (hl : H l = some (.lst vs)) (hv : Paired (RT K H) vs r) (ef : fs = fsD { dv L s with phases := .ref l }) : Rep K C (upd H p (.ins C.duel L.dx fs)) p ((L.set 1 l).setv 1 vs) { s with later := r } where
  duel := by rw [upd_same, ef]; rfl
  inj := inj_set R.inj ho
  rest := by show upd H p _ ((L.set 1 l).a 0) = _; rw [set_ne (by decide), upd_ne (R.np (by decide))]; exact R.rest
  phs := by show upd H p _ ((L.set 1 l).a 1) = _; rw [set_same, upd_ne (ne_of hl R.duel (by intro z; cases z)), setv_same]; exact hl
  phsR := by rw [setv_same]; exact pairs_keep (RT.keep (Keep.upd R.duel duel_not)) hv
  extra := by show upd H p _ ((L.set 1 l).a 2) = _; rw [set_ne (by decide), upd_ne (R.np (by decide))]; exact R.extra
  st := by show upd H p _ ((L.set 1 l).a 3) = _; rw [set_ne (by decide), upd_ne (R.np (by decide))]; exact R.st
  sf := by show upd H p _ ((L.set 1 l).a 4) = _; rw [set_ne (by decide), upd_ne (R.np (by decide))]; exact R.sf
  ss := by show upd H p _ ((L.set 1 l).a 5) = _; rw [set_ne (by decide), upd_ne (R.np (by decide))]; exact R.ss
  s0 := by show upd H p _ ((L.set 1 l).a 6) = _; rw [set_ne (by decide), upd_ne (R.np (by decide))]; exact R.s0
  s1 := by show upd H p _ ((L.set 1 l).a 7) = _; rw [set_ne (by decide), upd_ne (R.np (by decide))]; exact R.s1
  stk := by show upd H p _ ((L.set 1 l).a 8) = _; rw [set_ne (by decide), upd_ne (R.np (by decide)), setv_ne (by decide)]; exact R.stk
  stkR := by rw [setv_ne (by decide)]; exact pairs_keep (RI.keep (Keep.upd R.duel duel_not)) R.stkR
  mks := by show upd H p _ ((L.set 1 l).a 9) = _; rw [set_ne (by decide), upd_ne (R.np (by decide)), setv_ne (by decide)]; exact R.mks
  mksR := by rw [setv_ne (by decide)]; exact pairs_keep (RM.keep (Keep.upd R.duel duel_not)) R.mksR
  dls := by show upd H p _ ((L.set 1 l).a 10) = _; rw [set_ne (by decide), upd_ne (R.np (by decide)), setv_ne (by decide)]; exact R.dls
  dlsR := by rw [setv_ne (by decide)]; exact pairs_keep (RL.keep (Keep.upd R.duel duel_not)) R.dlsR
  tos := by show upd H p _ ((L.set 1 l).a 11) = _; rw [set_ne (by decide), upd_ne (R.np (by decide))]; exact R.tos
theorem Rep.nStk (R : Rep K C H p L s) {l : Addr} {fs : List (Str × V)} (ho : Out L l) {vs : List V} {r : List (Vbdcaf.Item)} (hl : H l = some (.lst vs)) (hv : Paired (RI C H) vs r) (ef : fs = fsD { dv L s with stack := .ref l }) : Rep K C (upd H p (.ins C.duel L.dx fs)) p ((L.set 8 l).setv 8 vs) { s with stack := r } where
  duel := by rw [upd_same, ef]; rfl
  inj := inj_set R.inj ho
  rest := by show upd H p _ ((L.set 8 l).a 0) = _; rw [set_ne (by decide), upd_ne (R.np (by decide))]; exact R.rest
  phs := by show upd H p _ ((L.set 8 l).a 1) = _; rw [set_ne (by decide), upd_ne (R.np (by decide)), setv_ne (by decide)]; exact R.phs
  phsR := by rw [setv_ne (by decide)]; exact pairs_keep (RT.keep (Keep.upd R.duel duel_not)) R.phsR
  extra := by show upd H p _ ((L.set 8 l).a 2) = _; rw [set_ne (by decide), upd_ne (R.np (by decide))]; exact R.extra
  st := by show upd H p _ ((L.set 8 l).a 3) = _; rw [set_ne (by decide), upd_ne (R.np (by decide))]; exact R.st
  sf := by show upd H p _ ((L.set 8 l).a 4) = _; rw [set_ne (by decide), upd_ne (R.np (by decide))]; exact R.sf
  ss := by show upd H p _ ((L.set 8 l).a 5) = _; rw [set_ne (by decide), upd_ne (R.np (by decide))]; exact R.ss
  s0 := by show upd H p _ ((L.set 8 l).a 6) = _; rw [set_ne (by decide), upd_ne (R.np (by decide))]; exact R.s0
  s1 := by show upd H p _ ((L.set 8 l).a 7) = _; rw [set_ne (by decide), upd_ne (R.np (by decide))]; exact R.s1
  stk := by show upd H p _ ((L.set 8 l).a 8) = _; rw [set_same, upd_ne (ne_of hl R.duel (by intro z; cases z)), setv_same]; exact hl
  stkR := by rw [setv_same]; exact pairs_keep (RI.keep (Keep.upd R.duel duel_not)) hv
  mks := by show upd H p _ ((L.set 8 l).a 9) = _; rw [set_ne (by decide), upd_ne (R.np (by decide)), setv_ne (by decide)]; exact R.mks
  mksR := by rw [setv_ne (by decide)]; exact pairs_keep (RM.keep (Keep.upd R.duel duel_not)) R.mksR
  dls := by show upd H p _ ((L.set 8 l).a 10) = _; rw [set_ne (by decide), upd_ne (R.np (by decide)), setv_ne (by decide)]; exact R.dls
  dlsR := by rw [setv_ne (by decide)]; exact pairs_keep (RL.keep (Keep.upd R.duel duel_not)) R.dlsR
  tos := by show upd H p _ ((L.set 8 l).a 11) = _; rw [set_ne (by decide), upd_ne (R.np (by decide))]; exact R.tos
theorem Rep.nMks (R : Rep K C H p L s) {l : Addr} {fs : List (Str × V)} (ho : Out L l) {vs : List V} {r : List (Vbdcaf.Mark)} (hl : H l = some (.lst vs)) (hv : Paired (RM C H) vs r) (ef : fs = fsD { dv L s with marks := .ref l }) : Rep K C (upd H p (.ins C.duel L.dx fs)) p ((L.set 9 l).setv 9 vs) { s with marks := r } where
  duel := by rw [upd_same, ef]; rfl
  inj := inj_set R.inj ho
  rest := by show upd H p _ ((L.set 9 l).a 0) = _; rw [set_ne (by decide), upd_ne (R.np (by decide))]; exact R.rest
  phs := by show upd H p _ ((L.set 9 l).a 1) = _; rw [set_ne (by decide), upd_ne (R.np (by decide)), setv_ne (by decide)]; exact R.phs
  phsR := by rw [setv_ne (by decide)]; exact pairs_keep (RT.keep (Keep.upd R.duel duel_not)) R.phsR
  extra := by show upd H p _ ((L.set 9 l).a 2) = _; rw [set_ne (by decide), upd_ne (R.np (by decide))]; exact R.extra
  st := by show upd H p _ ((L.set 9 l).a 3) = _; rw [set_ne (by decide), upd_ne (R.np (by decide))]; exact R.st
  sf := by show upd H p _ ((L.set 9 l).a 4) = _; rw [set_ne (by decide), upd_ne (R.np (by decide))]; exact R.sf
  ss := by show upd H p _ ((L.set 9 l).a 5) = _; rw [set_ne (by decide), upd_ne (R.np (by decide))]; exact R.ss
  s0 := by show upd H p _ ((L.set 9 l).a 6) = _; rw [set_ne (by decide), upd_ne (R.np (by decide))]; exact R.s0
  s1 := by show upd H p _ ((L.set 9 l).a 7) = _; rw [set_ne (by decide), upd_ne (R.np (by decide))]; exact R.s1
  stk := by show upd H p _ ((L.set 9 l).a 8) = _; rw [set_ne (by decide), upd_ne (R.np (by decide)), setv_ne (by decide)]; exact R.stk
  stkR := by rw [setv_ne (by decide)]; exact pairs_keep (RI.keep (Keep.upd R.duel duel_not)) R.stkR
  mks := by show upd H p _ ((L.set 9 l).a 9) = _; rw [set_same, upd_ne (ne_of hl R.duel (by intro z; cases z)), setv_same]; exact hl
  mksR := by rw [setv_same]; exact pairs_keep (RM.keep (Keep.upd R.duel duel_not)) hv
  dls := by show upd H p _ ((L.set 9 l).a 10) = _; rw [set_ne (by decide), upd_ne (R.np (by decide)), setv_ne (by decide)]; exact R.dls
  dlsR := by rw [setv_ne (by decide)]; exact pairs_keep (RL.keep (Keep.upd R.duel duel_not)) R.dlsR
  tos := by show upd H p _ ((L.set 9 l).a 11) = _; rw [set_ne (by decide), upd_ne (R.np (by decide))]; exact R.tos
theorem Rep.nDls (R : Rep K C H p L s) {l : Addr} {fs : List (Str × V)} (ho : Out L l) {vs : List V} {r : List (Vbdcaf.Delay)} (hl : H l = some (.lst vs)) (hv : Paired (RL C H) vs r) (ef : fs = fsD { dv L s with delayed := .ref l }) : Rep K C (upd H p (.ins C.duel L.dx fs)) p ((L.set 10 l).setv 10 vs) { s with delays := r } where
  duel := by rw [upd_same, ef]; rfl
  inj := inj_set R.inj ho
  rest := by show upd H p _ ((L.set 10 l).a 0) = _; rw [set_ne (by decide), upd_ne (R.np (by decide))]; exact R.rest
  phs := by show upd H p _ ((L.set 10 l).a 1) = _; rw [set_ne (by decide), upd_ne (R.np (by decide)), setv_ne (by decide)]; exact R.phs
  phsR := by rw [setv_ne (by decide)]; exact pairs_keep (RT.keep (Keep.upd R.duel duel_not)) R.phsR
  extra := by show upd H p _ ((L.set 10 l).a 2) = _; rw [set_ne (by decide), upd_ne (R.np (by decide))]; exact R.extra
  st := by show upd H p _ ((L.set 10 l).a 3) = _; rw [set_ne (by decide), upd_ne (R.np (by decide))]; exact R.st
  sf := by show upd H p _ ((L.set 10 l).a 4) = _; rw [set_ne (by decide), upd_ne (R.np (by decide))]; exact R.sf
  ss := by show upd H p _ ((L.set 10 l).a 5) = _; rw [set_ne (by decide), upd_ne (R.np (by decide))]; exact R.ss
  s0 := by show upd H p _ ((L.set 10 l).a 6) = _; rw [set_ne (by decide), upd_ne (R.np (by decide))]; exact R.s0
  s1 := by show upd H p _ ((L.set 10 l).a 7) = _; rw [set_ne (by decide), upd_ne (R.np (by decide))]; exact R.s1
  stk := by show upd H p _ ((L.set 10 l).a 8) = _; rw [set_ne (by decide), upd_ne (R.np (by decide)), setv_ne (by decide)]; exact R.stk
  stkR := by rw [setv_ne (by decide)]; exact pairs_keep (RI.keep (Keep.upd R.duel duel_not)) R.stkR
  mks := by show upd H p _ ((L.set 10 l).a 9) = _; rw [set_ne (by decide), upd_ne (R.np (by decide)), setv_ne (by decide)]; exact R.mks
  mksR := by rw [setv_ne (by decide)]; exact pairs_keep (RM.keep (Keep.upd R.duel duel_not)) R.mksR
  dls := by show upd H p _ ((L.set 10 l).a 10) = _; rw [set_same, upd_ne (ne_of hl R.duel (by intro z; cases z)), setv_same]; exact hl
  dlsR := by rw [setv_same]; exact pairs_keep (RL.keep (Keep.upd R.duel duel_not)) hv
  tos := by show upd H p _ ((L.set 10 l).a 11) = _; rw [set_ne (by decide), upd_ne (R.np (by decide))]; exact R.tos
end
/-! ### the list of what is told -/
def tin (l : List Int) : List V := l.map V.int
theorem len_tin (l : List Int) : (tin l).length = l.length := List.length_map _
theorem tin_app (l m : List Int) : tin (l ++ m) = tin l ++ tin m := List.map_append
def fl (e : List Ev) : List Int := e.flatMap fun x => [(x.sort : Int), (x.what : Int)]
theorem fl_app (a b : List Ev) : fl (a ++ b) = fl a ++ fl b := List.flatMap_append
theorem len_fl (e : List Ev) : (fl e).length = 2 * e.length := by
  unfold fl
  induction e with
  | nil => rfl
  | cons a r ih => rw [List.flatMap_cons, List.length_append, ih]; show 2 + _ = 2 * (r.length + 1); omega
theorem tell_eq (x : State × List Ev) : (Vbdcaf.tell x).2 = 0 :: fl x.2 := by
  unfold Vbdcaf.tell Vbdcaf.yes fl
  dsimp only
  rw [List.map_flatMap]
  rfl
/-! ### HOW THINGS STAND: constants of B are kept, the duel at p laid out by L stands for s, the things of ex stand beside it -/
structure Sd (K : PySem.W.Frag) (C : Cs) (B H : Hp) (p : Addr) (L : Lay) (s : State) (ex : List (Addr × HO)) : Prop where
  kp : Keep B H
  rep : Rep K C H p L s
  bes : ∀ e ∈ ex, H e.1 = some e.2 ∧ Out L e.1 ∧ e.1 ≠ p
  nd : (ex.map (·.1)).Nodup
section
variable {K : PySem.W.Frag} {C : Cs} {B H H' : Hp} {p : Addr} {L L' : Lay} {s s' : State} {ex : List (Addr × HO)} {a b : Addr} {o o' : HO} {xs ys : List V}
theorem Sd.to (S : Sd K C B H p L s ex) (R : Rep K C H' p L' s') (k : Keep H H') (f : ∀ b o, H b = some o → b ≠ p → Out L b → H' b = some o ∧ Out L' b) : Sd K C B H' p L' s' ex :=
  ⟨S.kp.trans k, R, fun e he => let ⟨h1, h2, h3⟩ := S.bes e he; let ⟨q1, q2⟩ := f _ _ h1 h3 h2; ⟨q1, q2, h3⟩, S.nd⟩
theorem Sd.same (S : Sd K C B H p L s ex) (h : Same H H') : Sd K C B H' p L s ex := S.to (S.rep.same h) (Keep.same h) fun b o e _ q => ⟨h b o e, q⟩
theorem Sd.rebase (S : Sd K C B H p L s ex) : Sd K C H H p L s ex := ⟨Keep.refl H, S.rep, S.bes, S.nd⟩
theorem Sd.base {A : Hp} (S : Sd K C B H p L s ex) (k : Keep A B) : Sd K C A H p L s ex := ⟨k.trans S.kp, S.rep, S.bes, S.nd⟩
theorem Sd.cast (S : Sd K C B H p L s ex) (e : s = s') : Sd K C B H p L s' ex := e ▸ S
theorem Sd.castE (S : Sd K C B H p L s ((a, .lst xs) :: ex)) (e : xs = ys) : Sd K C B H p L s ((a, .lst ys) :: ex) := e ▸ S
theorem Sd.alloc (S : Sd K C B H p L s ex) (ha : H a = none) : Sd K C B (upd H a o) p L s ((a, o) :: ex) := by
  have S' := S.same (same_new (o := o) ha)
  refine ⟨S'.kp, S'.rep, fun e he => ?_, ?_⟩
  · rcases List.mem_cons.mp he with rfl | he
    · exact ⟨upd_same, S.rep.out_none ha, fun z => by rw [show a = p from z, S.rep.duel] at ha; cases ha⟩
    · exact S'.bes e he
  · show (a :: ex.map (·.1)).Nodup
    refine List.nodup_cons.mpr ⟨fun hm => ?_, S.nd⟩
    obtain ⟨e, he, rfl⟩ := List.mem_map.mp hm
    rw [(S.bes e he).1] at ha
    cases ha
theorem Sd.tail {e : Addr × HO} (S : Sd K C B H p L s (e :: ex)) : Sd K C B H p L s ex := ⟨S.kp, S.rep, fun e he => S.bes e (List.mem_cons_of_mem _ he), (List.nodup_cons.mp S.nd).2⟩
theorem Sd.swap {e f : Addr × HO} (S : Sd K C B H p L s (e :: f :: ex)) : Sd K C B H p L s (f :: e :: ex) := by
  refine ⟨S.kp, S.rep, fun g hg => S.bes g ?_, ?_⟩
  · rcases List.mem_cons.mp hg with rfl | hg
    · exact List.mem_cons_of_mem _ List.mem_cons_self
    · rcases List.mem_cons.mp hg with rfl | hg
      · exact List.mem_cons_self
      · exact List.mem_cons_of_mem _ (List.mem_cons_of_mem _ hg)
  · have h := S.nd
    have h : (e.1 :: f.1 :: ex.map (·.1)).Nodup := h
    show (f.1 :: e.1 :: ex.map (·.1)).Nodup
    simp only [List.nodup_cons, List.mem_cons, not_or] at h ⊢
    exact ⟨⟨fun z => h.1.1 z.symm, h.2.1⟩, h.1.2, h.2.2⟩
theorem Sd.at0 (S : Sd K C B H p L s ((a, o) :: ex)) : H a = some o := (S.bes _ List.mem_cons_self).1
theorem Sd.at1 {e : Addr × HO} (S : Sd K C B H p L s (e :: (a, o) :: ex)) : H a = some o := S.tail.at0
theorem Sd.put (S : Sd K C B H p L s ((a, .lst xs) :: ex)) : Sd K C B (upd H a (.lst ys)) p L s ((a, .lst ys) :: ex) := by
  obtain ⟨h1, h2, h3⟩ := S.bes _ List.mem_cons_self
  refine ⟨S.kp.trans (Keep.upd h1 lst_not), S.rep.other h1 h2, fun e he => ?_, S.nd⟩
  rcases List.mem_cons.mp he with rfl | he
  · exact ⟨upd_same, h2, h3⟩
  · obtain ⟨q1, q2, q3⟩ := S.bes e (List.mem_cons_of_mem _ he)
    refine ⟨?_, q2, q3⟩
    have hne : e.1 ≠ a := fun z => (List.nodup_cons.mp S.nd).1 (List.mem_map.mpr ⟨e, he, z⟩)
    show upd H a _ e.1 = _
    rw [upd_ne hne]
    exact q1
theorem Sd.put1 {e : Addr × HO} (S : Sd K C B H p L s (e :: (a, .lst xs) :: ex)) : Sd K C B (upd H a (.lst ys)) p L s (e :: (a, .lst ys) :: ex) := S.swap.put.swap
theorem Sd.setf (S : Sd K C B H p L s ex) {fs : List (Str × V)} (s' : State) (ef : fs = fsD (dv L s')) (e0 : s'.rest = s.rest := by rfl) (e1 : s'.later = s.later := by rfl) (e2 : s'.extra = s.extra := by rfl) (e3 : s'.skipTurns = s.skipTurns := by rfl) (e4 : s'.skipFights = s.skipFights := by rfl) (e5 : s'.skipSteps = s.skipSteps := by rfl) (e6 : s'.stack = s.stack := by rfl) (e7 : s'.marks = s.marks := by rfl) (e8 : s'.delays = s.delays := by rfl) (e9 : s'.turns = s.turns := by rfl) : Sd K C B (upd H p (.ins C.duel L.dx fs)) p L s' ex :=
  S.to (S.rep.setf s' ef e0 e1 e2 e3 e4 e5 e6 e7 e8 e9) (Keep.upd S.rep.duel duel_not) fun b o e h q => ⟨by rw [upd_ne h]; exact e, q⟩
/-- a list of the duel's is written in place -/
theorem Sd.wr (S : Sd K C B H p L s ex) {i : Nat} (hi : i < 12) (hv : ∀ j, j < 12 → L'.a j = L.a j) (R : Rep K C (upd H (L.a i) (.lst ys)) p L' s') : Sd K C B (upd H (L.a i) (.lst ys)) p L' s' ex := by
  obtain ⟨zs, hz⟩ := S.rep.lst i hi
  exact S.to R (Keep.upd hz lst_not) fun b o e h q => ⟨by rw [upd_ne (q i hi)]; exact e, fun j hj => by rw [hv j hj]; exact q j hj⟩
/-- a field gets the new list at the head of ex -/
theorem Sd.nw {fs : List (Str × V)} {i : Nat} (S : Sd K C B H p L s ((a, o) :: ex)) (hv : ∀ j, j < 12 → L'.a j = (L.set i a).a j) (R : Rep K C (upd H p (.ins C.duel L.dx fs)) p L' s') : Sd K C B (upd H p (.ins C.duel L.dx fs)) p L' s' ex := by
  refine ⟨S.kp.trans (Keep.upd S.rep.duel duel_not), R, fun e he => ?_, S.tail.nd⟩
  obtain ⟨q1, q2, q3⟩ := S.tail.bes e he
  refine ⟨by rw [upd_ne q3]; exact q1, fun j hj => ?_, q3⟩
  rw [hv j hj]
  exact out_set q2 (fun z => (List.nodup_cons.mp S.nd).1 (List.mem_map.mpr ⟨e, he, z⟩)) j hj
end
/-- the classes -/
structure CsOk (K : PySem.W.Frag) (C : Cs) : Prop where
  c_duel : Cls K C.duel
  nD_turns : NoAttr K C.duel "turns"
  nD_turns_of_side : NoAttr K C.duel "turns_of_side"
  nD_active : NoAttr K C.duel "active"
  nD_last_ordinary : NoAttr K C.duel "last_ordinary"
  nD_step : NoAttr K C.duel "step"
  nD_rest : NoAttr K C.duel "rest"
  nD_phases : NoAttr K C.duel "phases"
  nD_extra_turns : NoAttr K C.duel "extra_turns"
  nD_skipped_turns : NoAttr K C.duel "skipped_turns"
  nD_skipped_fights : NoAttr K C.duel "skipped_fights"
  nD_skipped_steps : NoAttr K C.duel "skipped_steps"
  nD_holder : NoAttr K C.duel "holder"
  nD_passed : NoAttr K C.duel "passed"
  nD_plays : NoAttr K C.duel "plays"
  nD_fighting : NoAttr K C.duel "fighting"
  nD_first_blows : NoAttr K C.duel "first_blows"
  nD_stack : NoAttr K C.duel "stack"
  nD_marks : NoAttr K C.duel "marks"
  nD_delayed : NoAttr K C.duel "delayed"
  nD_last_number : NoAttr K C.duel "last_number"
  nD_items_come : NoAttr K C.duel "items_come"
  nD_items_done : NoAttr K C.duel "items_done"
  nD_items_countered : NoAttr K C.duel "items_countered"
  nD_items_gone : NoAttr K C.duel "items_gone"
  c_item : Cls K C.item
  c_mark : Cls K C.mark
  c_del : Cls K C.del
  nI_number : NoAttr K C.item "number"
  nI_side : NoAttr K C.item "side"
  nI_shuts : NoAttr K C.item "shuts"
  nM_number : NoAttr K C.mark "number"
  nM_till : NoAttr K C.mark "till"
  nM_side : NoAttr K C.mark "side"
  nM_step : NoAttr K C.mark "step"
  nL_number : NoAttr K C.del "number"
  nL_owner : NoAttr K C.del "owner"
  nL_side : NoAttr K C.del "side"
  nL_step : NoAttr K C.del "step"
/-- a field is written -/
def Put (K : PySem.W.Frag) (σ : L2.St) (i : Nat) (f : Str) (y : V) (H : Hp) (N : Hp → Prop) : Prop := tVar i σ H fun x H2 => ∃ a C dx fs, x = .ref a ∧ H2 a = some (.ins C dx fs) ∧ Cls K C ∧ NoAttr K C f ∧ fs.length < 1000 ∧ N (upd H2 a (.ins C dx (putF f y fs)))
theorem w_put {K : PySem.W.Frag} {σ : L2.St} {i : Nat} {f : Str} {H : Hp} {tv : TE} {D : Ends} (h : tv σ H fun y H1 => Put K σ i f y H1 (D.nx σ)) : sFld K (tVar i) tv f D σ H := h
theorem seq0 (n : Nat) : seqIndex? 0 (n + 1) = some 0 := seqIndex_of (by decide) (by omega)
theorem pairs_app {α β : Type} {F : α → β → Prop} : ∀ {l l2 : List α} {m m2 : List β}, Paired F l m → Paired F l2 m2 → Paired F (l ++ l2) (m ++ m2)
  | _, _, _, _, .nil, h => h
  | _, _, _, _, .cons r t, h => .cons r (pairs_app t h)
/-! ### fields read -/
section
variable {K : PySem.W.Frag} {C : Cs} {B H : Hp} {p : Addr} {L : Lay} {s : State} {ex : List (Addr × HO)} {σ : L2.St} {Q : VK} {i : Nat} {D : Ends} {tv : TE} {N : Hp → Prop}
theorem rd_turns (T : CsOk K C) (e : σ[i]? = some (some (.ref p))) (S : Sd K C B H p L s ex) (h : Q (.int ((s.turn : Nat) : Int)) H) : tFld K (tVar i) "turns" σ H Q := ⟨.ref p, e, p, C.duel, L.dx, _, _, rfl, S.rep.duel, T.c_duel, T.nD_turns, l_turns _, h⟩
theorem rd_turns_of_side (T : CsOk K C) (e : σ[i]? = some (some (.ref p))) (S : Sd K C B H p L s ex) (h : Q (.ref (L.a 11)) H) : tFld K (tVar i) "turns_of_side" σ H Q := ⟨.ref p, e, p, C.duel, L.dx, _, _, rfl, S.rep.duel, T.c_duel, T.nD_turns_of_side, l_turns_of_side _, h⟩
theorem rd_active (T : CsOk K C) (e : σ[i]? = some (some (.ref p))) (S : Sd K C B H p L s ex) (h : Q (.int ((s.active : Nat) : Int)) H) : tFld K (tVar i) "active" σ H Q := ⟨.ref p, e, p, C.duel, L.dx, _, _, rfl, S.rep.duel, T.c_duel, T.nD_active, l_active _, h⟩
theorem rd_last_ordinary (T : CsOk K C) (e : σ[i]? = some (some (.ref p))) (S : Sd K C B H p L s ex) (h : Q (.int ((s.ordinary : Nat) : Int)) H) : tFld K (tVar i) "last_ordinary" σ H Q := ⟨.ref p, e, p, C.duel, L.dx, _, _, rfl, S.rep.duel, T.c_duel, T.nD_last_ordinary, l_last_ordinary _, h⟩
theorem rd_step (T : CsOk K C) (e : σ[i]? = some (some (.ref p))) (S : Sd K C B H p L s ex) (h : Q (.int ((s.step : Nat) : Int)) H) : tFld K (tVar i) "step" σ H Q := ⟨.ref p, e, p, C.duel, L.dx, _, _, rfl, S.rep.duel, T.c_duel, T.nD_step, l_step _, h⟩
theorem rd_rest (T : CsOk K C) (e : σ[i]? = some (some (.ref p))) (S : Sd K C B H p L s ex) (h : Q (.ref (L.a 0)) H) : tFld K (tVar i) "rest" σ H Q := ⟨.ref p, e, p, C.duel, L.dx, _, _, rfl, S.rep.duel, T.c_duel, T.nD_rest, l_rest _, h⟩
theorem rd_phases (T : CsOk K C) (e : σ[i]? = some (some (.ref p))) (S : Sd K C B H p L s ex) (h : Q (.ref (L.a 1)) H) : tFld K (tVar i) "phases" σ H Q := ⟨.ref p, e, p, C.duel, L.dx, _, _, rfl, S.rep.duel, T.c_duel, T.nD_phases, l_phases _, h⟩
theorem rd_extra_turns (T : CsOk K C) (e : σ[i]? = some (some (.ref p))) (S : Sd K C B H p L s ex) (h : Q (.ref (L.a 2)) H) : tFld K (tVar i) "extra_turns" σ H Q := ⟨.ref p, e, p, C.duel, L.dx, _, _, rfl, S.rep.duel, T.c_duel, T.nD_extra_turns, l_extra_turns _, h⟩
theorem rd_skipped_turns (T : CsOk K C) (e : σ[i]? = some (some (.ref p))) (S : Sd K C B H p L s ex) (h : Q (.ref (L.a 3)) H) : tFld K (tVar i) "skipped_turns" σ H Q := ⟨.ref p, e, p, C.duel, L.dx, _, _, rfl, S.rep.duel, T.c_duel, T.nD_skipped_turns, l_skipped_turns _, h⟩
theorem rd_skipped_fights (T : CsOk K C) (e : σ[i]? = some (some (.ref p))) (S : Sd K C B H p L s ex) (h : Q (.ref (L.a 4)) H) : tFld K (tVar i) "skipped_fights" σ H Q := ⟨.ref p, e, p, C.duel, L.dx, _, _, rfl, S.rep.duel, T.c_duel, T.nD_skipped_fights, l_skipped_fights _, h⟩
theorem rd_skipped_steps (T : CsOk K C) (e : σ[i]? = some (some (.ref p))) (S : Sd K C B H p L s ex) (h : Q (.ref (L.a 5)) H) : tFld K (tVar i) "skipped_steps" σ H Q := ⟨.ref p, e, p, C.duel, L.dx, _, _, rfl, S.rep.duel, T.c_duel, T.nD_skipped_steps, l_skipped_steps _, h⟩
theorem rd_holder (T : CsOk K C) (e : σ[i]? = some (some (.ref p))) (S : Sd K C B H p L s ex) (h : Q (.int ((s.holder : Nat) : Int)) H) : tFld K (tVar i) "holder" σ H Q := ⟨.ref p, e, p, C.duel, L.dx, _, _, rfl, S.rep.duel, T.c_duel, T.nD_holder, l_holder _, h⟩
theorem rd_passed (T : CsOk K C) (e : σ[i]? = some (some (.ref p))) (S : Sd K C B H p L s ex) (h : Q (.bl (s.passes == 1)) H) : tFld K (tVar i) "passed" σ H Q := ⟨.ref p, e, p, C.duel, L.dx, _, _, rfl, S.rep.duel, T.c_duel, T.nD_passed, l_passed _, h⟩
theorem rd_plays (T : CsOk K C) (e : σ[i]? = some (some (.ref p))) (S : Sd K C B H p L s ex) (h : Q (.int ((s.plays : Nat) : Int)) H) : tFld K (tVar i) "plays" σ H Q := ⟨.ref p, e, p, C.duel, L.dx, _, _, rfl, S.rep.duel, T.c_duel, T.nD_plays, l_plays _, h⟩
theorem rd_fighting (T : CsOk K C) (e : σ[i]? = some (some (.ref p))) (S : Sd K C B H p L s ex) (h : Q (.bl s.fights) H) : tFld K (tVar i) "fighting" σ H Q := ⟨.ref p, e, p, C.duel, L.dx, _, _, rfl, S.rep.duel, T.c_duel, T.nD_fighting, l_fighting _, h⟩
theorem rd_first_blows (T : CsOk K C) (e : σ[i]? = some (some (.ref p))) (S : Sd K C B H p L s ex) (h : Q (.bl s.firsts) H) : tFld K (tVar i) "first_blows" σ H Q := ⟨.ref p, e, p, C.duel, L.dx, _, _, rfl, S.rep.duel, T.c_duel, T.nD_first_blows, l_first_blows _, h⟩
theorem rd_stack (T : CsOk K C) (e : σ[i]? = some (some (.ref p))) (S : Sd K C B H p L s ex) (h : Q (.ref (L.a 8)) H) : tFld K (tVar i) "stack" σ H Q := ⟨.ref p, e, p, C.duel, L.dx, _, _, rfl, S.rep.duel, T.c_duel, T.nD_stack, l_stack _, h⟩
theorem rd_marks (T : CsOk K C) (e : σ[i]? = some (some (.ref p))) (S : Sd K C B H p L s ex) (h : Q (.ref (L.a 9)) H) : tFld K (tVar i) "marks" σ H Q := ⟨.ref p, e, p, C.duel, L.dx, _, _, rfl, S.rep.duel, T.c_duel, T.nD_marks, l_marks _, h⟩
theorem rd_delayed (T : CsOk K C) (e : σ[i]? = some (some (.ref p))) (S : Sd K C B H p L s ex) (h : Q (.ref (L.a 10)) H) : tFld K (tVar i) "delayed" σ H Q := ⟨.ref p, e, p, C.duel, L.dx, _, _, rfl, S.rep.duel, T.c_duel, T.nD_delayed, l_delayed _, h⟩
theorem rd_last_number (T : CsOk K C) (e : σ[i]? = some (some (.ref p))) (S : Sd K C B H p L s ex) (h : Q (.int ((s.next : Int) - 1)) H) : tFld K (tVar i) "last_number" σ H Q := ⟨.ref p, e, p, C.duel, L.dx, _, _, rfl, S.rep.duel, T.c_duel, T.nD_last_number, l_last_number _, h⟩
theorem rd_items_come (T : CsOk K C) (e : σ[i]? = some (some (.ref p))) (S : Sd K C B H p L s ex) (h : Q (.int ((s.put : Nat) : Int)) H) : tFld K (tVar i) "items_come" σ H Q := ⟨.ref p, e, p, C.duel, L.dx, _, _, rfl, S.rep.duel, T.c_duel, T.nD_items_come, l_items_come _, h⟩
theorem rd_items_done (T : CsOk K C) (e : σ[i]? = some (some (.ref p))) (S : Sd K C B H p L s ex) (h : Q (.int ((s.done : Nat) : Int)) H) : tFld K (tVar i) "items_done" σ H Q := ⟨.ref p, e, p, C.duel, L.dx, _, _, rfl, S.rep.duel, T.c_duel, T.nD_items_done, l_items_done _, h⟩
theorem rd_items_countered (T : CsOk K C) (e : σ[i]? = some (some (.ref p))) (S : Sd K C B H p L s ex) (h : Q (.int ((s.undone : Nat) : Int)) H) : tFld K (tVar i) "items_countered" σ H Q := ⟨.ref p, e, p, C.duel, L.dx, _, _, rfl, S.rep.duel, T.c_duel, T.nD_items_countered, l_items_countered _, h⟩
theorem rd_items_gone (T : CsOk K C) (e : σ[i]? = some (some (.ref p))) (S : Sd K C B H p L s ex) (h : Q (.int ((s.gone : Nat) : Int)) H) : tFld K (tVar i) "items_gone" σ H Q := ⟨.ref p, e, p, C.duel, L.dx, _, _, rfl, S.rep.duel, T.c_duel, T.nD_items_gone, l_items_gone _, h⟩
/-! ### plain fields written -/
theorem ws_turns (T : CsOk K C) (e : σ[i]? = some (some (.ref p))) (S : Sd K C B H p L s ex) {z : Int} {n : Nat} (hz : z = (n : Int)) (h : ∀ H2, Sd K C B H2 p L { s with turn := n } ex → N H2) : Put K σ i "turns" (.int z) H N := by
  subst hz
  refine ⟨.ref p, e, p, C.duel, L.dx, _, rfl, S.rep.duel, T.c_duel, T.nD_turns, few_fsD _, ?_⟩
  exact h _ (S.setf _ (p_turns _ _))
theorem wa_turns {rd : V → V → Hp → VK → Prop} {j z : Int} (T : CsOk K C) (e : σ[i]? = some (some (.ref p))) (S : Sd K C B H p L s ex) (hv : ∀ Q : VK, Q (.int j) H → tv σ H Q) (hr : ∀ Q : VK, Q (.int z) H → rd (.int ((s.turn : Nat) : Int)) (.int j) H Q) {n : Nat} (hz : z = (n : Int)) (h : ∀ H2, Sd K C B H2 p L { s with turn := n } ex → D.nx σ H2) : sFldAug K (tVar i) tv rd "turns" D σ H := by
  subst hz
  refine ⟨.ref p, e, p, C.duel, L.dx, _, _, rfl, S.rep.duel, T.c_duel, T.nD_turns, l_turns _, hv _ (hr _ ⟨L.dx, _, S.rep.duel, few_fsD _, ?_⟩)⟩
  exact h _ (S.setf _ (p_turns _ _))
theorem ws_active (T : CsOk K C) (e : σ[i]? = some (some (.ref p))) (S : Sd K C B H p L s ex) {z : Int} {n : Nat} (hz : z = (n : Int)) (h : ∀ H2, Sd K C B H2 p L { s with active := n } ex → N H2) : Put K σ i "active" (.int z) H N := by
  subst hz
  refine ⟨.ref p, e, p, C.duel, L.dx, _, rfl, S.rep.duel, T.c_duel, T.nD_active, few_fsD _, ?_⟩
  exact h _ (S.setf _ (p_active _ _))
theorem wa_active {rd : V → V → Hp → VK → Prop} {j z : Int} (T : CsOk K C) (e : σ[i]? = some (some (.ref p))) (S : Sd K C B H p L s ex) (hv : ∀ Q : VK, Q (.int j) H → tv σ H Q) (hr : ∀ Q : VK, Q (.int z) H → rd (.int ((s.active : Nat) : Int)) (.int j) H Q) {n : Nat} (hz : z = (n : Int)) (h : ∀ H2, Sd K C B H2 p L { s with active := n } ex → D.nx σ H2) : sFldAug K (tVar i) tv rd "active" D σ H := by
  subst hz
  refine ⟨.ref p, e, p, C.duel, L.dx, _, _, rfl, S.rep.duel, T.c_duel, T.nD_active, l_active _, hv _ (hr _ ⟨L.dx, _, S.rep.duel, few_fsD _, ?_⟩)⟩
  exact h _ (S.setf _ (p_active _ _))
theorem ws_last_ordinary (T : CsOk K C) (e : σ[i]? = some (some (.ref p))) (S : Sd K C B H p L s ex) {z : Int} {n : Nat} (hz : z = (n : Int)) (h : ∀ H2, Sd K C B H2 p L { s with ordinary := n } ex → N H2) : Put K σ i "last_ordinary" (.int z) H N := by
  subst hz
  refine ⟨.ref p, e, p, C.duel, L.dx, _, rfl, S.rep.duel, T.c_duel, T.nD_last_ordinary, few_fsD _, ?_⟩
  exact h _ (S.setf _ (p_last_ordinary _ _))
theorem wa_last_ordinary {rd : V → V → Hp → VK → Prop} {j z : Int} (T : CsOk K C) (e : σ[i]? = some (some (.ref p))) (S : Sd K C B H p L s ex) (hv : ∀ Q : VK, Q (.int j) H → tv σ H Q) (hr : ∀ Q : VK, Q (.int z) H → rd (.int ((s.ordinary : Nat) : Int)) (.int j) H Q) {n : Nat} (hz : z = (n : Int)) (h : ∀ H2, Sd K C B H2 p L { s with ordinary := n } ex → D.nx σ H2) : sFldAug K (tVar i) tv rd "last_ordinary" D σ H := by
  subst hz
  refine ⟨.ref p, e, p, C.duel, L.dx, _, _, rfl, S.rep.duel, T.c_duel, T.nD_last_ordinary, l_last_ordinary _, hv _ (hr _ ⟨L.dx, _, S.rep.duel, few_fsD _, ?_⟩)⟩
  exact h _ (S.setf _ (p_last_ordinary _ _))
theorem ws_step (T : CsOk K C) (e : σ[i]? = some (some (.ref p))) (S : Sd K C B H p L s ex) {z : Int} {n : Nat} (hz : z = (n : Int)) (h : ∀ H2, Sd K C B H2 p L { s with step := n } ex → N H2) : Put K σ i "step" (.int z) H N := by
  subst hz
  refine ⟨.ref p, e, p, C.duel, L.dx, _, rfl, S.rep.duel, T.c_duel, T.nD_step, few_fsD _, ?_⟩
  exact h _ (S.setf _ (p_step _ _))
theorem wa_step {rd : V → V → Hp → VK → Prop} {j z : Int} (T : CsOk K C) (e : σ[i]? = some (some (.ref p))) (S : Sd K C B H p L s ex) (hv : ∀ Q : VK, Q (.int j) H → tv σ H Q) (hr : ∀ Q : VK, Q (.int z) H → rd (.int ((s.step : Nat) : Int)) (.int j) H Q) {n : Nat} (hz : z = (n : Int)) (h : ∀ H2, Sd K C B H2 p L { s with step := n } ex → D.nx σ H2) : sFldAug K (tVar i) tv rd "step" D σ H := by
  subst hz
  refine ⟨.ref p, e, p, C.duel, L.dx, _, _, rfl, S.rep.duel, T.c_duel, T.nD_step, l_step _, hv _ (hr _ ⟨L.dx, _, S.rep.duel, few_fsD _, ?_⟩)⟩
  exact h _ (S.setf _ (p_step _ _))
theorem ws_rest (T : CsOk K C) (e : σ[i]? = some (some (.ref p))) {l : Addr} {r : List Nat} (S : Sd K C B H p L s ((l, .lst (nats r)) :: ex)) (h : ∀ H2, Sd K C B H2 p (L.set 0 l) { s with rest := r } ex → N H2) : Put K σ i "rest" (.ref l) H N := by
  refine ⟨.ref p, e, p, C.duel, L.dx, _, rfl, S.rep.duel, T.c_duel, T.nD_rest, few_fsD _, ?_⟩
  exact h _ (S.nw (fun _ _ => rfl) (S.rep.nRest (S.bes _ List.mem_cons_self).2.1 S.at0 (p_rest _ _)))
theorem ws_phases (T : CsOk K C) (e : σ[i]? = some (some (.ref p))) {l : Addr} {vs : List V} {r : List (List Nat)} (S : Sd K C B H p L s ((l, .lst vs) :: ex)) (hv : Paired (RT K H) vs r) (h : ∀ H2, Sd K C B H2 p ((L.set 1 l).setv 1 vs) { s with later := r } ex → N H2) : Put K σ i "phases" (.ref l) H N := by
  refine ⟨.ref p, e, p, C.duel, L.dx, _, rfl, S.rep.duel, T.c_duel, T.nD_phases, few_fsD _, ?_⟩
  exact h _ (S.nw (fun _ _ => rfl) (S.rep.nPhs (S.bes _ List.mem_cons_self).2.1 S.at0 hv (p_phases _ _)))
theorem ws_extra_turns (T : CsOk K C) (e : σ[i]? = some (some (.ref p))) {l : Addr} {r : List Nat} (S : Sd K C B H p L s ((l, .lst (nats r)) :: ex)) (h : ∀ H2, Sd K C B H2 p (L.set 2 l) { s with extra := r } ex → N H2) : Put K σ i "extra_turns" (.ref l) H N := by
  refine ⟨.ref p, e, p, C.duel, L.dx, _, rfl, S.rep.duel, T.c_duel, T.nD_extra_turns, few_fsD _, ?_⟩
  exact h _ (S.nw (fun _ _ => rfl) (S.rep.nExtra (S.bes _ List.mem_cons_self).2.1 S.at0 (p_extra_turns _ _)))
theorem ws_holder (T : CsOk K C) (e : σ[i]? = some (some (.ref p))) (S : Sd K C B H p L s ex) {z : Int} {n : Nat} (hz : z = (n : Int)) (h : ∀ H2, Sd K C B H2 p L { s with holder := n } ex → N H2) : Put K σ i "holder" (.int z) H N := by
  subst hz
  refine ⟨.ref p, e, p, C.duel, L.dx, _, rfl, S.rep.duel, T.c_duel, T.nD_holder, few_fsD _, ?_⟩
  exact h _ (S.setf _ (p_holder _ _))
theorem wa_holder {rd : V → V → Hp → VK → Prop} {j z : Int} (T : CsOk K C) (e : σ[i]? = some (some (.ref p))) (S : Sd K C B H p L s ex) (hv : ∀ Q : VK, Q (.int j) H → tv σ H Q) (hr : ∀ Q : VK, Q (.int z) H → rd (.int ((s.holder : Nat) : Int)) (.int j) H Q) {n : Nat} (hz : z = (n : Int)) (h : ∀ H2, Sd K C B H2 p L { s with holder := n } ex → D.nx σ H2) : sFldAug K (tVar i) tv rd "holder" D σ H := by
  subst hz
  refine ⟨.ref p, e, p, C.duel, L.dx, _, _, rfl, S.rep.duel, T.c_duel, T.nD_holder, l_holder _, hv _ (hr _ ⟨L.dx, _, S.rep.duel, few_fsD _, ?_⟩)⟩
  exact h _ (S.setf _ (p_holder _ _))
theorem ws_passed (T : CsOk K C) (e : σ[i]? = some (some (.ref p))) (S : Sd K C B H p L s ex) {n : Bool} {m : Nat} (hm : (m == 1) = n) (h : ∀ H2, Sd K C B H2 p L { s with passes := m } ex → N H2) : Put K σ i "passed" (.bl n) H N := by
  subst hm
  refine ⟨.ref p, e, p, C.duel, L.dx, _, rfl, S.rep.duel, T.c_duel, T.nD_passed, few_fsD _, ?_⟩
  exact h _ (S.setf _ (p_passed _ _))
theorem ws_plays (T : CsOk K C) (e : σ[i]? = some (some (.ref p))) (S : Sd K C B H p L s ex) {z : Int} {n : Nat} (hz : z = (n : Int)) (h : ∀ H2, Sd K C B H2 p L { s with plays := n } ex → N H2) : Put K σ i "plays" (.int z) H N := by
  subst hz
  refine ⟨.ref p, e, p, C.duel, L.dx, _, rfl, S.rep.duel, T.c_duel, T.nD_plays, few_fsD _, ?_⟩
  exact h _ (S.setf _ (p_plays _ _))
theorem wa_plays {rd : V → V → Hp → VK → Prop} {j z : Int} (T : CsOk K C) (e : σ[i]? = some (some (.ref p))) (S : Sd K C B H p L s ex) (hv : ∀ Q : VK, Q (.int j) H → tv σ H Q) (hr : ∀ Q : VK, Q (.int z) H → rd (.int ((s.plays : Nat) : Int)) (.int j) H Q) {n : Nat} (hz : z = (n : Int)) (h : ∀ H2, Sd K C B H2 p L { s with plays := n } ex → D.nx σ H2) : sFldAug K (tVar i) tv rd "plays" D σ H := by
  subst hz
  refine ⟨.ref p, e, p, C.duel, L.dx, _, _, rfl, S.rep.duel, T.c_duel, T.nD_plays, l_plays _, hv _ (hr _ ⟨L.dx, _, S.rep.duel, few_fsD _, ?_⟩)⟩
  exact h _ (S.setf _ (p_plays _ _))
theorem ws_fighting (T : CsOk K C) (e : σ[i]? = some (some (.ref p))) (S : Sd K C B H p L s ex) {n : Bool} (h : ∀ H2, Sd K C B H2 p L { s with fights := n } ex → N H2) : Put K σ i "fighting" (.bl n) H N := by
  refine ⟨.ref p, e, p, C.duel, L.dx, _, rfl, S.rep.duel, T.c_duel, T.nD_fighting, few_fsD _, ?_⟩
  exact h _ (S.setf _ (p_fighting _ _))
theorem ws_first_blows (T : CsOk K C) (e : σ[i]? = some (some (.ref p))) (S : Sd K C B H p L s ex) {n : Bool} (h : ∀ H2, Sd K C B H2 p L { s with firsts := n } ex → N H2) : Put K σ i "first_blows" (.bl n) H N := by
  refine ⟨.ref p, e, p, C.duel, L.dx, _, rfl, S.rep.duel, T.c_duel, T.nD_first_blows, few_fsD _, ?_⟩
  exact h _ (S.setf _ (p_first_blows _ _))
theorem ws_stack (T : CsOk K C) (e : σ[i]? = some (some (.ref p))) {l : Addr} {vs : List V} {r : List (Vbdcaf.Item)} (S : Sd K C B H p L s ((l, .lst vs) :: ex)) (hv : Paired (RI C H) vs r) (h : ∀ H2, Sd K C B H2 p ((L.set 8 l).setv 8 vs) { s with stack := r } ex → N H2) : Put K σ i "stack" (.ref l) H N := by
  refine ⟨.ref p, e, p, C.duel, L.dx, _, rfl, S.rep.duel, T.c_duel, T.nD_stack, few_fsD _, ?_⟩
  exact h _ (S.nw (fun _ _ => rfl) (S.rep.nStk (S.bes _ List.mem_cons_self).2.1 S.at0 hv (p_stack _ _)))
theorem ws_marks (T : CsOk K C) (e : σ[i]? = some (some (.ref p))) {l : Addr} {vs : List V} {r : List (Vbdcaf.Mark)} (S : Sd K C B H p L s ((l, .lst vs) :: ex)) (hv : Paired (RM C H) vs r) (h : ∀ H2, Sd K C B H2 p ((L.set 9 l).setv 9 vs) { s with marks := r } ex → N H2) : Put K σ i "marks" (.ref l) H N := by
  refine ⟨.ref p, e, p, C.duel, L.dx, _, rfl, S.rep.duel, T.c_duel, T.nD_marks, few_fsD _, ?_⟩
  exact h _ (S.nw (fun _ _ => rfl) (S.rep.nMks (S.bes _ List.mem_cons_self).2.1 S.at0 hv (p_marks _ _)))
theorem ws_delayed (T : CsOk K C) (e : σ[i]? = some (some (.ref p))) {l : Addr} {vs : List V} {r : List (Vbdcaf.Delay)} (S : Sd K C B H p L s ((l, .lst vs) :: ex)) (hv : Paired (RL C H) vs r) (h : ∀ H2, Sd K C B H2 p ((L.set 10 l).setv 10 vs) { s with delays := r } ex → N H2) : Put K σ i "delayed" (.ref l) H N := by
  refine ⟨.ref p, e, p, C.duel, L.dx, _, rfl, S.rep.duel, T.c_duel, T.nD_delayed, few_fsD _, ?_⟩
  exact h _ (S.nw (fun _ _ => rfl) (S.rep.nDls (S.bes _ List.mem_cons_self).2.1 S.at0 hv (p_delayed _ _)))
theorem wa_last_number {rd : V → V → Hp → VK → Prop} {j z : Int} (T : CsOk K C) (e : σ[i]? = some (some (.ref p))) (S : Sd K C B H p L s ex) (hv : ∀ Q : VK, Q (.int j) H → tv σ H Q) (hr : ∀ Q : VK, Q (.int z) H → rd (.int ((s.next : Int) - 1)) (.int j) H Q) {n : Nat} (hz : z = (n : Int) - 1) (h : ∀ H2, Sd K C B H2 p L { s with next := n } ex → D.nx σ H2) : sFldAug K (tVar i) tv rd "last_number" D σ H := by
  subst hz
  refine ⟨.ref p, e, p, C.duel, L.dx, _, _, rfl, S.rep.duel, T.c_duel, T.nD_last_number, l_last_number _, hv _ (hr _ ⟨L.dx, _, S.rep.duel, few_fsD _, ?_⟩)⟩
  exact h _ (S.setf _ (p_last_number _ _))
theorem ws_items_come (T : CsOk K C) (e : σ[i]? = some (some (.ref p))) (S : Sd K C B H p L s ex) {z : Int} {n : Nat} (hz : z = (n : Int)) (h : ∀ H2, Sd K C B H2 p L { s with put := n } ex → N H2) : Put K σ i "items_come" (.int z) H N := by
  subst hz
  refine ⟨.ref p, e, p, C.duel, L.dx, _, rfl, S.rep.duel, T.c_duel, T.nD_items_come, few_fsD _, ?_⟩
  exact h _ (S.setf _ (p_items_come _ _))
theorem wa_items_come {rd : V → V → Hp → VK → Prop} {j z : Int} (T : CsOk K C) (e : σ[i]? = some (some (.ref p))) (S : Sd K C B H p L s ex) (hv : ∀ Q : VK, Q (.int j) H → tv σ H Q) (hr : ∀ Q : VK, Q (.int z) H → rd (.int ((s.put : Nat) : Int)) (.int j) H Q) {n : Nat} (hz : z = (n : Int)) (h : ∀ H2, Sd K C B H2 p L { s with put := n } ex → D.nx σ H2) : sFldAug K (tVar i) tv rd "items_come" D σ H := by
  subst hz
  refine ⟨.ref p, e, p, C.duel, L.dx, _, _, rfl, S.rep.duel, T.c_duel, T.nD_items_come, l_items_come _, hv _ (hr _ ⟨L.dx, _, S.rep.duel, few_fsD _, ?_⟩)⟩
  exact h _ (S.setf _ (p_items_come _ _))
theorem ws_items_done (T : CsOk K C) (e : σ[i]? = some (some (.ref p))) (S : Sd K C B H p L s ex) {z : Int} {n : Nat} (hz : z = (n : Int)) (h : ∀ H2, Sd K C B H2 p L { s with done := n } ex → N H2) : Put K σ i "items_done" (.int z) H N := by
  subst hz
  refine ⟨.ref p, e, p, C.duel, L.dx, _, rfl, S.rep.duel, T.c_duel, T.nD_items_done, few_fsD _, ?_⟩
  exact h _ (S.setf _ (p_items_done _ _))
theorem wa_items_done {rd : V → V → Hp → VK → Prop} {j z : Int} (T : CsOk K C) (e : σ[i]? = some (some (.ref p))) (S : Sd K C B H p L s ex) (hv : ∀ Q : VK, Q (.int j) H → tv σ H Q) (hr : ∀ Q : VK, Q (.int z) H → rd (.int ((s.done : Nat) : Int)) (.int j) H Q) {n : Nat} (hz : z = (n : Int)) (h : ∀ H2, Sd K C B H2 p L { s with done := n } ex → D.nx σ H2) : sFldAug K (tVar i) tv rd "items_done" D σ H := by
  subst hz
  refine ⟨.ref p, e, p, C.duel, L.dx, _, _, rfl, S.rep.duel, T.c_duel, T.nD_items_done, l_items_done _, hv _ (hr _ ⟨L.dx, _, S.rep.duel, few_fsD _, ?_⟩)⟩
  exact h _ (S.setf _ (p_items_done _ _))
theorem ws_items_countered (T : CsOk K C) (e : σ[i]? = some (some (.ref p))) (S : Sd K C B H p L s ex) {z : Int} {n : Nat} (hz : z = (n : Int)) (h : ∀ H2, Sd K C B H2 p L { s with undone := n } ex → N H2) : Put K σ i "items_countered" (.int z) H N := by
  subst hz
  refine ⟨.ref p, e, p, C.duel, L.dx, _, rfl, S.rep.duel, T.c_duel, T.nD_items_countered, few_fsD _, ?_⟩
  exact h _ (S.setf _ (p_items_countered _ _))
theorem wa_items_countered {rd : V → V → Hp → VK → Prop} {j z : Int} (T : CsOk K C) (e : σ[i]? = some (some (.ref p))) (S : Sd K C B H p L s ex) (hv : ∀ Q : VK, Q (.int j) H → tv σ H Q) (hr : ∀ Q : VK, Q (.int z) H → rd (.int ((s.undone : Nat) : Int)) (.int j) H Q) {n : Nat} (hz : z = (n : Int)) (h : ∀ H2, Sd K C B H2 p L { s with undone := n } ex → D.nx σ H2) : sFldAug K (tVar i) tv rd "items_countered" D σ H := by
  subst hz
  refine ⟨.ref p, e, p, C.duel, L.dx, _, _, rfl, S.rep.duel, T.c_duel, T.nD_items_countered, l_items_countered _, hv _ (hr _ ⟨L.dx, _, S.rep.duel, few_fsD _, ?_⟩)⟩
  exact h _ (S.setf _ (p_items_countered _ _))
theorem ws_items_gone (T : CsOk K C) (e : σ[i]? = some (some (.ref p))) (S : Sd K C B H p L s ex) {z : Int} {n : Nat} (hz : z = (n : Int)) (h : ∀ H2, Sd K C B H2 p L { s with gone := n } ex → N H2) : Put K σ i "items_gone" (.int z) H N := by
  subst hz
  refine ⟨.ref p, e, p, C.duel, L.dx, _, rfl, S.rep.duel, T.c_duel, T.nD_items_gone, few_fsD _, ?_⟩
  exact h _ (S.setf _ (p_items_gone _ _))
theorem wa_items_gone {rd : V → V → Hp → VK → Prop} {j z : Int} (T : CsOk K C) (e : σ[i]? = some (some (.ref p))) (S : Sd K C B H p L s ex) (hv : ∀ Q : VK, Q (.int j) H → tv σ H Q) (hr : ∀ Q : VK, Q (.int z) H → rd (.int ((s.gone : Nat) : Int)) (.int j) H Q) {n : Nat} (hz : z = (n : Int)) (h : ∀ H2, Sd K C B H2 p L { s with gone := n } ex → D.nx σ H2) : sFldAug K (tVar i) tv rd "items_gone" D σ H := by
  subst hz
  refine ⟨.ref p, e, p, C.duel, L.dx, _, _, rfl, S.rep.duel, T.c_duel, T.nD_items_gone, l_items_gone _, hv _ (hr _ ⟨L.dx, _, S.rep.duel, few_fsD _, ?_⟩)⟩
  exact h _ (S.setf _ (p_items_gone _ _))
/-! ### len of the duel's lists, as a value -/
theorem ln_turns_of_side (S : Sd K C B H p L s ex) (h : Q (.int ((s.turns.length : Nat) : Int)) H) : rLen K [.ref (L.a 11)] H Q := ⟨_, _, rfl, .inl (SqL.of S.rep.tos), by rw [len_nats]; exact h⟩
theorem ln_rest (S : Sd K C B H p L s ex) (h : Q (.int ((s.rest.length : Nat) : Int)) H) : rLen K [.ref (L.a 0)] H Q := ⟨_, _, rfl, .inl (SqL.of S.rep.rest), by rw [len_nats]; exact h⟩
theorem ln_phases (S : Sd K C B H p L s ex) (h : Q (.int ((s.later.length : Nat) : Int)) H) : rLen K [.ref (L.a 1)] H Q := ⟨_, _, rfl, .inl (SqL.of S.rep.phs), by rw [Paired.length S.rep.phsR]; exact h⟩
theorem ln_extra_turns (S : Sd K C B H p L s ex) (h : Q (.int ((s.extra.length : Nat) : Int)) H) : rLen K [.ref (L.a 2)] H Q := ⟨_, _, rfl, .inl (SqL.of S.rep.extra), by rw [len_nats]; exact h⟩
theorem ln_skipped_turns (S : Sd K C B H p L s ex) (h : Q (.int ((s.skipTurns.length : Nat) : Int)) H) : rLen K [.ref (L.a 3)] H Q := ⟨_, _, rfl, .inl (SqL.of S.rep.st), by rw [len_nats]; exact h⟩
theorem ln_skipped_fights (S : Sd K C B H p L s ex) (h : Q (.int ((s.skipFights.length : Nat) : Int)) H) : rLen K [.ref (L.a 4)] H Q := ⟨_, _, rfl, .inl (SqL.of S.rep.sf), by rw [len_nats]; exact h⟩
theorem ln_stack (S : Sd K C B H p L s ex) (h : Q (.int ((s.stack.length : Nat) : Int)) H) : rLen K [.ref (L.a 8)] H Q := ⟨_, _, rfl, .inl (SqL.of S.rep.stk), by rw [Paired.length S.rep.stkR]; exact h⟩
theorem ln_marks (S : Sd K C B H p L s ex) (h : Q (.int ((s.marks.length : Nat) : Int)) H) : rLen K [.ref (L.a 9)] H Q := ⟨_, _, rfl, .inl (SqL.of S.rep.mks), by rw [Paired.length S.rep.mksR]; exact h⟩
theorem ln_delayed (S : Sd K C B H p L s ex) (h : Q (.int ((s.delays.length : Nat) : Int)) H) : rLen K [.ref (L.a 10)] H Q := ⟨_, _, rfl, .inl (SqL.of S.rep.dls), by rw [Paired.length S.rep.dlsR]; exact h⟩
/-! ### methods of the duel's lists -/
theorem ty_turns_of_side (S : Sd K C B H p L s ex) : tyV K "list" (.ref (L.a 11)) H := .inl ⟨rfl, _, SqL.of S.rep.tos⟩
theorem ty_rest (S : Sd K C B H p L s ex) : tyV K "list" (.ref (L.a 0)) H := .inl ⟨rfl, _, SqL.of S.rep.rest⟩
theorem pop_rest (S : Sd K C B H p L s ex) {k : Nat} {r : List Nat} (hr : s.rest = k :: r) (h : ∀ H2, Sd K C B H2 p L { s with rest := r } ex → Q (.int ((k : Nat) : Int)) H2) : rPopAt (.ref (L.a 0)) [.int 0] H Q := by
  have hl := S.rep.rest
  rw [hr] at hl
  exact ⟨_, _, 0, 0, _, rfl, rfl, hl, by decide, by decide, seq0 _, rfl, h _ (S.wr (by decide) (fun _ _ => rfl) (S.rep.wRest r))⟩
theorem ins_rest (S : Sd K C B H p L s ex) {z : Int} {n : Nat} (hz : z = (n : Int)) (hl : s.rest.length < sizeLine) (h : ∀ H2, Sd K C B H2 p L { s with rest := n :: s.rest } ex → Q .non H2) : rInsert0 (.ref (L.a 0)) [.int 0, .int z] H Q := by
  subst hz
  exact ⟨_, _, _, rfl, rfl, S.rep.rest, by rw [len_nats]; exact hl, h _ (S.wr (by decide) (fun _ _ => rfl) (S.rep.wRest (n :: s.rest)))⟩
theorem ty_phases (S : Sd K C B H p L s ex) : tyV K "list" (.ref (L.a 1)) H := .inl ⟨rfl, _, SqL.of S.rep.phs⟩
theorem pop_phases (S : Sd K C B H p L s ex) {k : List Nat} {r : List (List Nat)} (hr : s.later = k :: r) (h : ∀ v H2 vs, RT K H2 v k → Sd K C B H2 p (L.setv 1 vs) { s with later := r } ex → Q v H2) : rPopAt (.ref (L.a 1)) [.int 0] H Q := by
  have q := S.rep.phsR
  have hl := S.rep.phs
  rw [hr] at q
  generalize L.v 1 = ws at q hl
  cases q with
  | cons q1 q2 =>
    rename_i v vs
    exact ⟨_, _, 0, 0, v, rfl, rfl, hl, by decide, by decide, seq0 _, rfl, h v _ vs (RT.keep (Keep.upd hl lst_not) q1) (S.wr (by decide) (fun _ _ => rfl) (S.rep.wPhs q2))⟩
theorem ins_phases (S : Sd K C B H p L s ex) {v : V} {k : List Nat} (hk : RT K H v k) (hl : s.later.length < sizeLine) (h : ∀ H2, Sd K C B H2 p (L.setv 1 (v :: L.v 1)) { s with later := k :: s.later } ex → Q .non H2) : rInsert0 (.ref (L.a 1)) [.int 0, v] H Q :=
  ⟨_, _, _, rfl, rfl, S.rep.phs, by rw [Paired.length S.rep.phsR]; exact hl, h _ (S.wr (by decide) (fun _ _ => rfl) (S.rep.wPhs (.cons hk S.rep.phsR)))⟩
theorem ty_extra_turns (S : Sd K C B H p L s ex) : tyV K "list" (.ref (L.a 2)) H := .inl ⟨rfl, _, SqL.of S.rep.extra⟩
theorem pop_extra_turns (S : Sd K C B H p L s ex) {k : Nat} {r : List Nat} (hr : s.extra = k :: r) (h : ∀ H2, Sd K C B H2 p L { s with extra := r } ex → Q (.int ((k : Nat) : Int)) H2) : rPopAt (.ref (L.a 2)) [.int 0] H Q := by
  have hl := S.rep.extra
  rw [hr] at hl
  exact ⟨_, _, 0, 0, _, rfl, rfl, hl, by decide, by decide, seq0 _, rfl, h _ (S.wr (by decide) (fun _ _ => rfl) (S.rep.wExtra r))⟩
theorem ins_extra_turns (S : Sd K C B H p L s ex) {z : Int} {n : Nat} (hz : z = (n : Int)) (hl : s.extra.length < sizeLine) (h : ∀ H2, Sd K C B H2 p L { s with extra := n :: s.extra } ex → Q .non H2) : rInsert0 (.ref (L.a 2)) [.int 0, .int z] H Q := by
  subst hz
  exact ⟨_, _, _, rfl, rfl, S.rep.extra, by rw [len_nats]; exact hl, h _ (S.wr (by decide) (fun _ _ => rfl) (S.rep.wExtra (n :: s.extra)))⟩
theorem ty_skipped_turns (S : Sd K C B H p L s ex) : tyV K "list" (.ref (L.a 3)) H := .inl ⟨rfl, _, SqL.of S.rep.st⟩
theorem ty_skipped_fights (S : Sd K C B H p L s ex) : tyV K "list" (.ref (L.a 4)) H := .inl ⟨rfl, _, SqL.of S.rep.sf⟩
theorem ty_stack (S : Sd K C B H p L s ex) : tyV K "list" (.ref (L.a 8)) H := .inl ⟨rfl, _, SqL.of S.rep.stk⟩
theorem pop_stack (S : Sd K C B H p L s ex) {k : Vbdcaf.Item} {r : List (Vbdcaf.Item)} (hr : s.stack = k :: r) (h : ∀ v H2 vs, RI C H2 v k → Sd K C B H2 p (L.setv 8 vs) { s with stack := r } ex → Q v H2) : rPopAt (.ref (L.a 8)) [.int 0] H Q := by
  have q := S.rep.stkR
  have hl := S.rep.stk
  rw [hr] at q
  generalize L.v 8 = ws at q hl
  cases q with
  | cons q1 q2 =>
    rename_i v vs
    exact ⟨_, _, 0, 0, v, rfl, rfl, hl, by decide, by decide, seq0 _, rfl, h v _ vs (RI.keep (Keep.upd hl lst_not) q1) (S.wr (by decide) (fun _ _ => rfl) (S.rep.wStk q2))⟩
theorem ins_stack (S : Sd K C B H p L s ex) {v : V} {k : Vbdcaf.Item} (hk : RI C H v k) (hl : s.stack.length < sizeLine) (h : ∀ H2, Sd K C B H2 p (L.setv 8 (v :: L.v 8)) { s with stack := k :: s.stack } ex → Q .non H2) : rInsert0 (.ref (L.a 8)) [.int 0, v] H Q :=
  ⟨_, _, _, rfl, rfl, S.rep.stk, by rw [Paired.length S.rep.stkR]; exact hl, h _ (S.wr (by decide) (fun _ _ => rfl) (S.rep.wStk (.cons hk S.rep.stkR)))⟩
theorem ty_marks (S : Sd K C B H p L s ex) : tyV K "list" (.ref (L.a 9)) H := .inl ⟨rfl, _, SqL.of S.rep.mks⟩
theorem app_marks (S : Sd K C B H p L s ex) {v : V} {k : Vbdcaf.Mark} (hk : RM C H v k) (hl : s.marks.length < sizeLine) (h : ∀ H2, Sd K C B H2 p (L.setv 9 (L.v 9 ++ [v])) { s with marks := s.marks ++ [k] } ex → Q .non H2) : rAppend (.ref (L.a 9)) [v] H Q :=
  ⟨_, _, _, rfl, rfl, S.rep.mks, by rw [Paired.length S.rep.mksR]; exact hl, h _ (S.wr (by decide) (fun _ _ => rfl) (S.rep.wMks (pairs_app S.rep.mksR (.cons hk .nil))))⟩
theorem ty_delayed (S : Sd K C B H p L s ex) : tyV K "list" (.ref (L.a 10)) H := .inl ⟨rfl, _, SqL.of S.rep.dls⟩
theorem app_delayed (S : Sd K C B H p L s ex) {v : V} {k : Vbdcaf.Delay} (hk : RL C H v k) (hl : s.delays.length < sizeLine) (h : ∀ H2, Sd K C B H2 p (L.setv 10 (L.v 10 ++ [v])) { s with delays := s.delays ++ [k] } ex → Q .non H2) : rAppend (.ref (L.a 10)) [v] H Q :=
  ⟨_, _, _, rfl, rfl, S.rep.dls, by rw [Paired.length S.rep.dlsR]; exact hl, h _ (S.wr (by decide) (fun _ _ => rfl) (S.rep.wDls (pairs_app S.rep.dlsR (.cons hk .nil))))⟩
/-! ### fields of the small objects -/
theorem rdI_number (T : CsOk K C) {v : V} {x : Vbdcaf.Item} (e : σ[i]? = some (some v)) (S : Sd K C B H p L s ex) (m : RI C B v x) (h : Q (.int ((x.num : Nat) : Int)) H) : tFld K (tVar i) "number" σ H Q := by
  obtain ⟨a, dx, rfl, m⟩ := m
  exact ⟨.ref a, e, a, C.item, dx, _, _, rfl, S.kp _ _ m (show 3 ≤ 6 by decide), T.c_item, T.nI_number, i_number _, h⟩
theorem rdI_side (T : CsOk K C) {v : V} {x : Vbdcaf.Item} (e : σ[i]? = some (some v)) (S : Sd K C B H p L s ex) (m : RI C B v x) (h : Q (.int ((x.side : Nat) : Int)) H) : tFld K (tVar i) "side" σ H Q := by
  obtain ⟨a, dx, rfl, m⟩ := m
  exact ⟨.ref a, e, a, C.item, dx, _, _, rfl, S.kp _ _ m (show 3 ≤ 6 by decide), T.c_item, T.nI_side, i_side _, h⟩
theorem rdI_shuts (T : CsOk K C) {v : V} {x : Vbdcaf.Item} (e : σ[i]? = some (some v)) (S : Sd K C B H p L s ex) (m : RI C B v x) (h : Q (.bl x.shut) H) : tFld K (tVar i) "shuts" σ H Q := by
  obtain ⟨a, dx, rfl, m⟩ := m
  exact ⟨.ref a, e, a, C.item, dx, _, _, rfl, S.kp _ _ m (show 3 ≤ 6 by decide), T.c_item, T.nI_shuts, i_shuts _, h⟩
theorem rdM_number (T : CsOk K C) {v : V} {x : Vbdcaf.Mark} (e : σ[i]? = some (some v)) (S : Sd K C B H p L s ex) (m : RM C B v x) (h : Q (.int ((x.num : Nat) : Int)) H) : tFld K (tVar i) "number" σ H Q := by
  obtain ⟨a, dx, rfl, m⟩ := m
  exact ⟨.ref a, e, a, C.mark, dx, _, _, rfl, S.kp _ _ m (show 4 ≤ 6 by decide), T.c_mark, T.nM_number, m_number _, h⟩
theorem rdM_till (T : CsOk K C) {v : V} {x : Vbdcaf.Mark} (e : σ[i]? = some (some v)) (S : Sd K C B H p L s ex) (m : RM C B v x) (h : Q (.int ((x.till : Nat) : Int)) H) : tFld K (tVar i) "till" σ H Q := by
  obtain ⟨a, dx, rfl, m⟩ := m
  exact ⟨.ref a, e, a, C.mark, dx, _, _, rfl, S.kp _ _ m (show 4 ≤ 6 by decide), T.c_mark, T.nM_till, m_till _, h⟩
theorem rdM_side (T : CsOk K C) {v : V} {x : Vbdcaf.Mark} (e : σ[i]? = some (some v)) (S : Sd K C B H p L s ex) (m : RM C B v x) (h : Q (.int ((x.side : Nat) : Int)) H) : tFld K (tVar i) "side" σ H Q := by
  obtain ⟨a, dx, rfl, m⟩ := m
  exact ⟨.ref a, e, a, C.mark, dx, _, _, rfl, S.kp _ _ m (show 4 ≤ 6 by decide), T.c_mark, T.nM_side, m_side _, h⟩
theorem rdM_step (T : CsOk K C) {v : V} {x : Vbdcaf.Mark} (e : σ[i]? = some (some v)) (S : Sd K C B H p L s ex) (m : RM C B v x) (h : Q (.int ((x.step : Nat) : Int)) H) : tFld K (tVar i) "step" σ H Q := by
  obtain ⟨a, dx, rfl, m⟩ := m
  exact ⟨.ref a, e, a, C.mark, dx, _, _, rfl, S.kp _ _ m (show 4 ≤ 6 by decide), T.c_mark, T.nM_step, m_step _, h⟩
theorem rdL_number (T : CsOk K C) {v : V} {x : Vbdcaf.Delay} (e : σ[i]? = some (some v)) (S : Sd K C B H p L s ex) (m : RL C B v x) (h : Q (.int ((x.num : Nat) : Int)) H) : tFld K (tVar i) "number" σ H Q := by
  obtain ⟨a, dx, rfl, m⟩ := m
  exact ⟨.ref a, e, a, C.del, dx, _, _, rfl, S.kp _ _ m (show 4 ≤ 6 by decide), T.c_del, T.nL_number, d_number _, h⟩
theorem rdL_owner (T : CsOk K C) {v : V} {x : Vbdcaf.Delay} (e : σ[i]? = some (some v)) (S : Sd K C B H p L s ex) (m : RL C B v x) (h : Q (.int ((x.owner : Nat) : Int)) H) : tFld K (tVar i) "owner" σ H Q := by
  obtain ⟨a, dx, rfl, m⟩ := m
  exact ⟨.ref a, e, a, C.del, dx, _, _, rfl, S.kp _ _ m (show 4 ≤ 6 by decide), T.c_del, T.nL_owner, d_owner _, h⟩
theorem rdL_side (T : CsOk K C) {v : V} {x : Vbdcaf.Delay} (e : σ[i]? = some (some v)) (S : Sd K C B H p L s ex) (m : RL C B v x) (h : Q (.int ((x.side : Nat) : Int)) H) : tFld K (tVar i) "side" σ H Q := by
  obtain ⟨a, dx, rfl, m⟩ := m
  exact ⟨.ref a, e, a, C.del, dx, _, _, rfl, S.kp _ _ m (show 4 ≤ 6 by decide), T.c_del, T.nL_side, d_side _, h⟩
theorem rdL_step (T : CsOk K C) {v : V} {x : Vbdcaf.Delay} (e : σ[i]? = some (some v)) (S : Sd K C B H p L s ex) (m : RL C B v x) (h : Q (.int ((x.step : Nat) : Int)) H) : tFld K (tVar i) "step" σ H Q := by
  obtain ⟨a, dx, rfl, m⟩ := m
  exact ⟨.ref a, e, a, C.del, dx, _, _, rfl, S.kp _ _ m (show 4 ≤ 6 by decide), T.c_del, T.nL_step, d_step _, h⟩
/-! ### what stands beside -/
theorem w_lstS {xs : List V} (S : Sd K C B H p L s ex) (hz : xs.length ≤ sizeLine) (k : ∀ a H2, Sd K C B H2 p L s ((a, .lst xs) :: ex) → Q (.ref a) H2) : NewL xs H Q := ⟨hz, fun a ha => k a _ (S.alloc ha)⟩
theorem w_tupS {xs : List V} (S : Sd K C B H p L s ex) (hz : xs.length ≤ sizeLine) (k : ∀ a H2, Sd K C B H2 p L s ((a, .tup xs) :: ex) → Q (.ref a) H2) : NewT xs H Q := ⟨hz, fun a ha => k a _ (S.alloc ha)⟩
theorem ix_nats {a : Addr} {l : List Nat} {k : Int} {n : Nat} (hl : H a = some (.lst (nats l))) (hk : k = (n : Int)) (hn : n < l.length) (h : Q (.int ((Vbdcaf.at_ l n : Nat) : Int)) H) : rIxL K (.ref a) (.int k) H Q := by
  refine ⟨a, _, k, _, rfl, rfl, SqL.of hl, at_of hk ?_, h⟩
  unfold nats Vbdcaf.at_
  rw [List.getElem?_map, List.getElem?_eq_getElem hn, List.getD_eq_getElem?_getD, List.getElem?_eq_getElem hn]
  rfl
theorem ext_tell {t b : Addr} {xs zs : List V} (S : Sd K C B H p L s ((b, .lst zs) :: (t, .lst xs) :: ex)) (hz : xs.length + zs.length ≤ sizeLine) (h : ∀ H2, Sd K C B H2 p L s ((t, .lst (xs ++ zs)) :: ex) → Q .non H2) : rExtend (.ref t) [.ref b] H Q :=
  ⟨t, b, xs, zs, rfl, rfl, S.at1, S.at0, hz, h _ S.put1.tail⟩
theorem ty_ex0 {a : Addr} {xs : List V} (S : Sd K C B H p L s ((a, .lst xs) :: ex)) : tyV K "list" (.ref a) H := .inl ⟨rfl, _, SqL.of S.at0⟩
end
end D
end
section
set_option Elab.async false
set_option linter.all false
set_option maxRecDepth 100000
set_option maxHeartbeats 2000000
namespace D
open PySem PySem.Spec PyProof.Rows L2
open Vbdcaf (State Ev)
abbrev s_take_number : Stmt := top 50
theorem sc_take_number : FnScope ["duel"] ["duel"] (defScope s_take_number) := ⟨rfl, rfl, rfl, by decide +kernel, rfl, by decide +kernel, by decide +kernel⟩
abbrev s_count_things : Stmt := top 51
theorem sc_count_things : FnScope ["duel"] ["duel"] (defScope s_count_things) := ⟨rfl, rfl, rfl, by decide +kernel, rfl, by decide +kernel, by decide +kernel⟩
abbrev s_put_on_stack : Stmt := top 52
theorem sc_put_on_stack : FnScope ["duel", "item"] ["duel", "item"] (defScope s_put_on_stack) := ⟨rfl, rfl, rfl, by decide +kernel, rfl, by decide +kernel, by decide +kernel⟩
abbrev s_ask_active_side : Stmt := top 53
theorem sc_ask_active_side : FnScope ["duel"] ["duel"] (defScope s_ask_active_side) := ⟨rfl, rfl, rfl, by decide +kernel, rfl, by decide +kernel, by decide +kernel⟩
abbrev s_go_on : Stmt := top 55
theorem sc_go_on : FnScope ["duel", "told", "asked"] ["duel", "told"] (defScope s_go_on) := ⟨rfl, rfl, rfl, by decide +kernel, rfl, by decide +kernel, by decide +kernel⟩
abbrev s_end_asked_step : Stmt := top 56
theorem sc_end_asked_step : FnScope ["duel", "told"] ["duel", "told"] (defScope s_end_asked_step) := ⟨rfl, rfl, rfl, by decide +kernel, rfl, by decide +kernel, by decide +kernel⟩
abbrev s_take_step : Stmt := top 57
theorem sc_take_step : FnScope ["duel", "told", "step", "skipped"] ["duel", "told"] (defScope s_take_step) := ⟨rfl, rfl, rfl, by decide +kernel, rfl, by decide +kernel, by decide +kernel⟩
abbrev s_is_left_out : Stmt := top 58
theorem sc_is_left_out : FnScope ["duel", "step"] ["duel", "step"] (defScope s_is_left_out) := ⟨rfl, rfl, rfl, by decide +kernel, rfl, by decide +kernel, by decide +kernel⟩
abbrev s_is_asked_in : Stmt := top 59
theorem sc_is_asked_in : FnScope ["duel", "step"] ["duel", "step"] (defScope s_is_asked_in) := ⟨rfl, rfl, rfl, by decide +kernel, rfl, by decide +kernel, by decide +kernel⟩
abbrev s_begin_step : Stmt := top 60
theorem sc_begin_step : FnScope ["duel", "step", "told", "mark"] ["duel", "step", "told"] (defScope s_begin_step) := ⟨rfl, rfl, rfl, by decide +kernel, rfl, by decide +kernel, by decide +kernel⟩
abbrev s_ends_at_step : Stmt := top 61
theorem sc_ends_at_step : FnScope ["mark", "step", "active"] ["mark", "step", "active"] (defScope s_ends_at_step) := ⟨rfl, rfl, rfl, by decide +kernel, rfl, by decide +kernel, by decide +kernel⟩
abbrev s_bring_things : Stmt := top 62
theorem sc_bring_things : FnScope ["duel", "step", "told", "due", "own", "others", "thing"] ["duel", "step", "told"] (defScope s_bring_things) := ⟨rfl, rfl, rfl, by decide +kernel, rfl, by decide +kernel, by decide +kernel⟩
abbrev s_is_due : Stmt := top 63
theorem sc_is_due : FnScope ["thing", "step", "active"] ["thing", "step", "active"] (defScope s_is_due) := ⟨rfl, rfl, rfl, by decide +kernel, rfl, by decide +kernel, by decide +kernel⟩
abbrev s_end_marks : Stmt := top 64
theorem sc_end_marks : FnScope ["duel", "numbers", "told", "number", "mark"] ["duel", "numbers", "told"] (defScope s_end_marks) := ⟨rfl, rfl, rfl, by decide +kernel, rfl, by decide +kernel, by decide +kernel⟩
abbrev s_end_marks_of_till : Stmt := top 65
theorem sc_end_marks_of_till : FnScope ["duel", "till", "told", "mark"] ["duel", "till", "told"] (defScope s_end_marks_of_till) := ⟨rfl, rfl, rfl, by decide +kernel, rfl, by decide +kernel, by decide +kernel⟩
abbrev s_leave_phase : Stmt := top 66
theorem sc_leave_phase : FnScope ["duel", "told"] ["duel", "told"] (defScope s_leave_phase) := ⟨rfl, rfl, rfl, by decide +kernel, rfl, by decide +kernel, by decide +kernel⟩
abbrev s_take_phase : Stmt := top 67
theorem sc_take_phase : FnScope ["duel", "told", "phase"] ["duel", "told"] (defScope s_take_phase) := ⟨rfl, rfl, rfl, by decide +kernel, rfl, by decide +kernel, by decide +kernel⟩
abbrev s_look_for_turn : Stmt := top 68
theorem sc_look_for_turn : FnScope ["duel", "told", "side"] ["duel", "told"] (defScope s_look_for_turn) := ⟨rfl, rfl, rfl, by decide +kernel, rfl, by decide +kernel, by decide +kernel⟩
abbrev s_take_side_of_turn : Stmt := top 69
theorem sc_take_side_of_turn : FnScope ["duel"] ["duel"] (defScope s_take_side_of_turn) := ⟨rfl, rfl, rfl, by decide +kernel, rfl, by decide +kernel, by decide +kernel⟩
abbrev s_begin_turn : Stmt := top 70
theorem sc_begin_turn : FnScope ["duel", "side", "told", "mark"] ["duel", "side", "told"] (defScope s_begin_turn) := ⟨rfl, rfl, rfl, by decide +kernel, rfl, by decide +kernel, by decide +kernel⟩
abbrev s_as_turn_begins : Stmt := top 71
theorem sc_as_turn_begins : FnScope ["mark", "side"] ["mark", "side"] (defScope s_as_turn_begins) := ⟨rfl, rfl, rfl, by decide +kernel, rfl, by decide +kernel, by decide +kernel⟩
abbrev s_begin : Stmt := top 73
theorem sc_begin : FnScope ["duel", "side", "answer"] ["duel", "side"] (defScope s_begin) := ⟨rfl, rfl, rfl, by decide +kernel, rfl, by decide +kernel, by decide +kernel⟩
abbrev s_pass_on : Stmt := top 74
theorem sc_pass_on : FnScope ["duel", "side", "answer"] ["duel", "side"] (defScope s_pass_on) := ⟨rfl, rfl, rfl, by decide +kernel, rfl, by decide +kernel, by decide +kernel⟩
abbrev s_do_top : Stmt := top 75
theorem sc_do_top : FnScope ["duel", "told", "item"] ["duel", "told"] (defScope s_do_top) := ⟨rfl, rfl, rfl, by decide +kernel, rfl, by decide +kernel, by decide +kernel⟩
abbrev s_act : Stmt := top 76
theorem sc_act : FnScope ["duel", "side", "shut", "slow", "number"] ["duel", "side", "shut", "slow"] (defScope s_act) := ⟨rfl, rfl, rfl, by decide +kernel, rfl, by decide +kernel, by decide +kernel⟩
abbrev s_play : Stmt := top 77
theorem sc_play : FnScope ["duel", "side"] ["duel", "side"] (defScope s_play) := ⟨rfl, rfl, rfl, by decide +kernel, rfl, by decide +kernel, by decide +kernel⟩
abbrev s_now : Stmt := top 78
theorem sc_now : FnScope ["duel", "side", "told", "yes"] ["duel", "side"] (defScope s_now) := ⟨rfl, rfl, rfl, by decide +kernel, rfl, by decide +kernel, by decide +kernel⟩
abbrev s_may_act : Stmt := top 79
theorem sc_may_act : FnScope ["duel", "side", "slow"] ["duel", "side", "slow"] (defScope s_may_act) := ⟨rfl, rfl, rfl, by decide +kernel, rfl, by decide +kernel, by decide +kernel⟩
abbrev s_may_play : Stmt := top 80
theorem sc_may_play : FnScope ["duel", "side"] ["duel", "side"] (defScope s_may_play) := ⟨rfl, rfl, rfl, by decide +kernel, rfl, by decide +kernel, by decide +kernel⟩
abbrev s_is_shut : Stmt := top 81
theorem sc_is_shut : FnScope ["duel", "item"] ["duel"] (defScope s_is_shut) := ⟨rfl, rfl, rfl, by decide +kernel, rfl, by decide +kernel, by decide +kernel⟩
abbrev s_is_slow_time : Stmt := top 82
theorem sc_is_slow_time : FnScope ["duel", "side"] ["duel", "side"] (defScope s_is_slow_time) := ⟨rfl, rfl, rfl, by decide +kernel, rfl, by decide +kernel, by decide +kernel⟩
abbrev s_endturn : Stmt := top 84
theorem sc_endturn : FnScope ["duel", "answer"] ["duel"] (defScope s_endturn) := ⟨rfl, rfl, rfl, by decide +kernel, rfl, by decide +kernel, by decide +kernel⟩
abbrev s_breakoff : Stmt := top 85
theorem sc_breakoff : FnScope ["duel", "answer"] ["duel"] (defScope s_breakoff) := ⟨rfl, rfl, rfl, by decide +kernel, rfl, by decide +kernel, by decide +kernel⟩
abbrev s_lose_items : Stmt := top 86
theorem sc_lose_items : FnScope ["duel", "told", "item"] ["duel", "told"] (defScope s_lose_items) := ⟨rfl, rfl, rfl, by decide +kernel, rfl, by decide +kernel, by decide +kernel⟩
abbrev s_fight : Stmt := top 88
theorem sc_fight : FnScope ["duel", "k"] ["duel", "k"] (defScope s_fight) := ⟨rfl, rfl, rfl, by decide +kernel, rfl, by decide +kernel, by decide +kernel⟩
abbrev s_extraturn : Stmt := top 89
theorem sc_extraturn : FnScope ["duel", "side"] ["duel", "side"] (defScope s_extraturn) := ⟨rfl, rfl, rfl, by decide +kernel, rfl, by decide +kernel, by decide +kernel⟩
abbrev s_extraphase : Stmt := top 90
theorem sc_extraphase : FnScope ["duel", "k", "phases"] ["duel", "k"] (defScope s_extraphase) := ⟨rfl, rfl, rfl, by decide +kernel, rfl, by decide +kernel, by decide +kernel⟩
abbrev s_phases_put_in : Stmt := top 91
theorem sc_phases_put_in : FnScope ["k"] ["k"] (defScope s_phases_put_in) := ⟨rfl, rfl, rfl, by decide +kernel, rfl, by decide +kernel, by decide +kernel⟩
abbrev s_extrastep : Stmt := top 92
theorem sc_extrastep : FnScope ["duel", "k"] ["duel", "k"] (defScope s_extrastep) := ⟨rfl, rfl, rfl, by decide +kernel, rfl, by decide +kernel, by decide +kernel⟩
abbrev s_skipturn : Stmt := top 93
theorem sc_skipturn : FnScope ["duel", "side"] ["duel", "side"] (defScope s_skipturn) := ⟨rfl, rfl, rfl, by decide +kernel, rfl, by decide +kernel, by decide +kernel⟩
abbrev s_skipstep : Stmt := top 94
theorem sc_skipstep : FnScope ["duel", "side", "k"] ["duel", "side", "k"] (defScope s_skipstep) := ⟨rfl, rfl, rfl, by decide +kernel, rfl, by decide +kernel, by decide +kernel⟩
abbrev s_skipfight : Stmt := top 95
theorem sc_skipfight : FnScope ["duel", "side"] ["duel", "side"] (defScope s_skipfight) := ⟨rfl, rfl, rfl, by decide +kernel, rfl, by decide +kernel, by decide +kernel⟩
abbrev s_skip_one_more : Stmt := top 96
theorem sc_skip_one_more : FnScope ["skipped", "place"] ["skipped", "place"] (defScope s_skip_one_more) := ⟨rfl, rfl, rfl, by decide +kernel, rfl, by decide +kernel, by decide +kernel⟩
abbrev s_allow : Stmt := top 97
theorem sc_allow : FnScope ["duel", "n"] ["duel", "n"] (defScope s_allow) := ⟨rfl, rfl, rfl, by decide +kernel, rfl, by decide +kernel, by decide +kernel⟩
abbrev s_tell_state : Stmt := top 99
theorem sc_tell_state : FnScope ["duel"] ["duel"] (defScope s_tell_state) := ⟨rfl, rfl, rfl, by decide +kernel, rfl, by decide +kernel, by decide +kernel⟩
abbrev s_tell_stack : Stmt := top 100
theorem sc_tell_stack : FnScope ["duel", "answer", "item"] ["duel"] (defScope s_tell_stack) := ⟨rfl, rfl, rfl, by decide +kernel, rfl, by decide +kernel, by decide +kernel⟩
abbrev s_tell_coming : Stmt := top 101
theorem sc_tell_coming : FnScope ["duel", "answer", "phase", "skipped"] ["duel"] (defScope s_tell_coming) := ⟨rfl, rfl, rfl, by decide +kernel, rfl, by decide +kernel, by decide +kernel⟩
abbrev s_tell_marks : Stmt := top 102
theorem sc_tell_marks : FnScope ["duel", "answer", "mark"] ["duel"] (defScope s_tell_marks) := ⟨rfl, rfl, rfl, by decide +kernel, rfl, by decide +kernel, by decide +kernel⟩
abbrev s_tell_delays : Stmt := top 103
theorem sc_tell_delays : FnScope ["duel", "answer", "thing"] ["duel"] (defScope s_tell_delays) := ⟨rfl, rfl, rfl, by decide +kernel, rfl, by decide +kernel, by decide +kernel⟩
abbrev s_tell_ledger : Stmt := top 104
theorem sc_tell_ledger : FnScope ["duel", "answer"] ["duel"] (defScope s_tell_ledger) := ⟨rfl, rfl, rfl, by decide +kernel, rfl, by decide +kernel, by decide +kernel⟩
abbrev s_with_count : Stmt := top 105
theorem sc_with_count : FnScope ["row"] ["row"] (defScope s_with_count) := ⟨rfl, rfl, rfl, by decide +kernel, rfl, by decide +kernel, by decide +kernel⟩
abbrev s_one_if : Stmt := top 106
theorem sc_one_if : FnScope ["yes"] ["yes"] (defScope s_one_if) := ⟨rfl, rfl, rfl, by decide +kernel, rfl, by decide +kernel, by decide +kernel⟩
abbrev s_counter : Stmt := top 108
theorem sc_counter : FnScope ["duel", "number", "left"] ["duel", "number"] (defScope s_counter) := ⟨rfl, rfl, rfl, by decide +kernel, rfl, by decide +kernel, by decide +kernel⟩
abbrev s_mark : Stmt := top 109
theorem sc_mark : FnScope ["duel", "till", "side", "step", "number"] ["duel", "till", "side", "step"] (defScope s_mark) := ⟨rfl, rfl, rfl, by decide +kernel, rfl, by decide +kernel, by decide +kernel⟩
abbrev s_unmark : Stmt := top 110
theorem sc_unmark : FnScope ["duel", "number", "left"] ["duel", "number"] (defScope s_unmark) := ⟨rfl, rfl, rfl, by decide +kernel, rfl, by decide +kernel, by decide +kernel⟩
abbrev s_delay : Stmt := top 111
theorem sc_delay : FnScope ["duel", "owner", "side", "step", "number"] ["duel", "owner", "side", "step"] (defScope s_delay) := ⟨rfl, rfl, rfl, by decide +kernel, rfl, by decide +kernel, by decide +kernel⟩
abbrev s_undelay : Stmt := top 112
theorem sc_undelay : FnScope ["duel", "number", "left"] ["duel", "number"] (defScope s_undelay) := ⟨rfl, rfl, rfl, by decide +kernel, rfl, by decide +kernel, by decide +kernel⟩
abbrev s_without_number : Stmt := top 113
theorem sc_without_number : FnScope ["row", "number", "held"] ["row", "number"] (defScope s_without_number) := ⟨rfl, rfl, rfl, by decide +kernel, rfl, by decide +kernel, by decide +kernel⟩
abbrev s_is_step : Stmt := top 114
theorem sc_is_step : FnScope ["step"] ["step"] (defScope s_is_step) := ⟨rfl, rfl, rfl, by decide +kernel, rfl, by decide +kernel, by decide +kernel⟩
abbrev s_answers : Stmt := top 140
theorem sc_answers : FnScope ["calls", "duel", "answered", "place", "call", "behind", "answer"] ["calls"] (defScope s_answers) := ⟨rfl, rfl, rfl, by decide +kernel, rfl, by decide +kernel, by decide +kernel⟩
abbrev s_answer_call : Stmt := top 141
theorem sc_answer_call : FnScope ["duel", "call", "numbers"] ["duel", "call", "numbers"] (defScope s_answer_call) := ⟨rfl, rfl, rfl, by decide +kernel, rfl, by decide +kernel, by decide +kernel⟩
abbrev s_answer_call_of_none : Stmt := top 142
theorem sc_answer_call_of_none : FnScope ["duel", "call"] ["duel", "call"] (defScope s_answer_call_of_none) := ⟨rfl, rfl, rfl, by decide +kernel, rfl, by decide +kernel, by decide +kernel⟩
abbrev s_answer_call_of_one : Stmt := top 143
theorem sc_answer_call_of_one : FnScope ["duel", "call", "number"] ["duel", "call", "number"] (defScope s_answer_call_of_one) := ⟨rfl, rfl, rfl, by decide +kernel, rfl, by decide +kernel, by decide +kernel⟩
abbrev s_Item : Stmt := inClass (top 46) 0
theorem sc_Item : FnScope ["self", "number", "side", "shuts"] ["self", "number", "side", "shuts"] (defScope s_Item) := ⟨rfl, rfl, rfl, by decide +kernel, rfl, by decide +kernel, by decide +kernel⟩
abbrev s_Mark : Stmt := inClass (top 47) 0
theorem sc_Mark : FnScope ["self", "number", "till", "side", "step"] ["self", "number", "till", "side", "step"] (defScope s_Mark) := ⟨rfl, rfl, rfl, by decide +kernel, rfl, by decide +kernel, by decide +kernel⟩
abbrev s_Delayed : Stmt := inClass (top 48) 0
theorem sc_Delayed : FnScope ["self", "number", "owner", "side", "step"] ["self", "number", "owner", "side", "step"] (defScope s_Delayed) := ⟨rfl, rfl, rfl, by decide +kernel, rfl, by decide +kernel, by decide +kernel⟩
abbrev s_Duel : Stmt := inClass (top 49) 0
theorem sc_Duel : FnScope ["self"] ["self"] (defScope s_Duel) := ⟨rfl, rfl, rfl, by decide +kernel, rfl, by decide +kernel, by decide +kernel⟩
def RTK (K : PySem.W.Frag) (v : V) (p : List Nat) : Prop := ∃ a, v = .ref a ∧ TupK K a (nats p)
/-- what stands behind the top -/
structure Txt (K : PySem.W.Frag) (mg : Str → Option Value) (C : Cs) : Prop where
  cs : CsOk K C
  g_SIDES : Glb mg "SIDES" (.ref (C.tu 0))
  t_SIDES : TupK K (C.tu 0) (nats [0, 1])
  g_EITHER_SIDE : Glb mg "EITHER_SIDE" (.int 2)
  g_DAWN : Glb mg "DAWN" (.int 0)
  g_UPKEEP : Glb mg "UPKEEP" (.int 1)
  g_DRAW : Glb mg "DRAW" (.int 2)
  g_FIRST_MAIN : Glb mg "FIRST_MAIN" (.int 3)
  g_ATTACK : Glb mg "ATTACK" (.int 4)
  g_BLOCK : Glb mg "BLOCK" (.int 5)
  g_FIRST_BLOWS : Glb mg "FIRST_BLOWS" (.int 6)
  g_BLOWS : Glb mg "BLOWS" (.int 7)
  g_SECOND_MAIN : Glb mg "SECOND_MAIN" (.int 8)
  g_END : Glb mg "END" (.int 9)
  g_DUSK : Glb mg "DUSK" (.int 10)
  g_STEP_COUNT : Glb mg "STEP_COUNT" (.int 11)
  g_FIGHT_PHASE : Glb mg "FIGHT_PHASE" (.ref (C.tu 1))
  t_FIGHT_PHASE : TupK K (C.tu 1) (nats [4, 5, 6, 7])
  g_SECOND_MAIN_PHASE : Glb mg "SECOND_MAIN_PHASE" (.ref (C.tu 2))
  t_SECOND_MAIN_PHASE : TupK K (C.tu 2) (nats [8])
  g_PHASES_OF_TURN : Glb mg "PHASES_OF_TURN" (.ref (C.tu 3))
  t_PHASES_OF_TURN : ∃ vs, TupK K (C.tu 3) vs ∧ Paired (RTK K) vs [[0, 1, 2], [3], [4, 5, 6, 7], [8], [9, 10]]
  g_TILL_STEP_ENDS : Glb mg "TILL_STEP_ENDS" (.int 0)
  g_TILL_PHASE_ENDS : Glb mg "TILL_PHASE_ENDS" (.int 1)
  g_TILL_DUSK : Glb mg "TILL_DUSK" (.int 2)
  g_TILL_OWN_TURN : Glb mg "TILL_OWN_TURN" (.int 3)
  g_TILL_DUSK_OF_OWN_TURN : Glb mg "TILL_DUSK_OF_OWN_TURN" (.int 4)
  g_TILL_OWN_STEP : Glb mg "TILL_OWN_STEP" (.int 5)
  g_MOST_THINGS : Glb mg "MOST_THINGS" (.int 64)
  g_MOST_MARKS : Glb mg "MOST_MARKS" (.int 64)
  g_MOST_EXTRA_TURNS : Glb mg "MOST_EXTRA_TURNS" (.int 20)
  g_MOST_PHASES_TO_COME : Glb mg "MOST_PHASES_TO_COME" (.int 20)
  g_MOST_STEPS_TO_COME : Glb mg "MOST_STEPS_TO_COME" (.int 20)
  g_MOST_SKIPPED : Glb mg "MOST_SKIPPED" (.int 9)
  g_ACCEPTED : Glb mg "ACCEPTED" (.int 0)
  g_OUT_OF_RANGE : Glb mg "OUT_OF_RANGE" (.int (-1))
  g_NOT_THERE : Glb mg "NOT_THERE" (.int (-2))
  g_WRONG_TIME : Glb mg "WRONG_TIME" (.int (-3))
  g_NO_PLACE : Glb mg "NO_PLACE" (.int (-4))
  g_NOT_HOLDER : Glb mg "NOT_HOLDER" (.int (-5))
  g_NOT_ALLOWED : Glb mg "NOT_ALLOWED" (.int (-6))
  g_TURN_BEGINS : Glb mg "TURN_BEGINS" (.int 1)
  g_STEP_BEGINS : Glb mg "STEP_BEGINS" (.int 2)
  g_ITEM_DONE : Glb mg "ITEM_DONE" (.int 3)
  g_MARK_ENDS : Glb mg "MARK_ENDS" (.int 4)
  g_THING_COMES : Glb mg "THING_COMES" (.int 5)
  g_STEP_SKIPPED : Glb mg "STEP_SKIPPED" (.int 6)
  g_TURN_SKIPPED : Glb mg "TURN_SKIPPED" (.int 7)
  g_ITEM_GONE : Glb mg "ITEM_GONE" (.int 8)
  g_FIGHT_SKIPPED : Glb mg "FIGHT_SKIPPED" (.int 9)
  g_BEGIN : Glb mg "BEGIN" (.int 0)
  g_PASS_ON : Glb mg "PASS_ON" (.int 1)
  g_ACT : Glb mg "ACT" (.int 2)
  g_PLAY : Glb mg "PLAY" (.int 3)
  g_NOW : Glb mg "NOW" (.int 4)
  g_FIGHT : Glb mg "FIGHT" (.int 5)
  g_EXTRATURN : Glb mg "EXTRATURN" (.int 6)
  g_EXTRAPHASE : Glb mg "EXTRAPHASE" (.int 7)
  g_EXTRASTEP : Glb mg "EXTRASTEP" (.int 8)
  g_SKIPTURN : Glb mg "SKIPTURN" (.int 9)
  g_SKIPSTEP : Glb mg "SKIPSTEP" (.int 10)
  g_SKIPFIGHT : Glb mg "SKIPFIGHT" (.int 11)
  g_ALLOW : Glb mg "ALLOW" (.int 12)
  g_COUNTER : Glb mg "COUNTER" (.int 13)
  g_MARK : Glb mg "MARK" (.int 14)
  g_UNMARK : Glb mg "UNMARK" (.int 15)
  g_ENDTURN : Glb mg "ENDTURN" (.int 18)
  g_BREAKOFF : Glb mg "BREAKOFF" (.int 19)
  g_STATE : Glb mg "STATE" (.int 20)
  g_STACK : Glb mg "STACK" (.int 21)
  g_COMING : Glb mg "COMING" (.int 22)
  g_MARKS : Glb mg "MARKS" (.int 23)
  g_DELAYS : Glb mg "DELAYS" (.int 24)
  g_NUMBERS_OF_CALL : Glb mg "NUMBERS_OF_CALL" (.ref (C.tu 4))
  d_NUMBERS_OF_CALL : DicK K (C.tu 4) [(Sum.inl 0, .int 1), (Sum.inl 1, .int 1), (Sum.inl 2, .int 3), (Sum.inl 3, .int 1), (Sum.inl 4, .int 1), (Sum.inl 5, .int 1), (Sum.inl 6, .int 1), (Sum.inl 7, .int 1), (Sum.inl 8, .int 1), (Sum.inl 9, .int 1), (Sum.inl 10, .int 2), (Sum.inl 11, .int 1), (Sum.inl 12, .int 1), (Sum.inl 13, .int 1), (Sum.inl 14, .int 3), (Sum.inl 15, .int 1), (Sum.inl 16, .int 3), (Sum.inl 17, .int 1), (Sum.inl 18, .int 0), (Sum.inl 19, .int 0), (Sum.inl 20, .int 0), (Sum.inl 21, .int 0), (Sum.inl 22, .int 0), (Sum.inl 23, .int 0), (Sum.inl 24, .int 0), (Sum.inl 25, .int 0)]
  h_take_number : Has K mg "take_number" s_take_number ["duel"]
  h_count_things : Has K mg "count_things" s_count_things ["duel"]
  h_put_on_stack : Has K mg "put_on_stack" s_put_on_stack ["duel", "item"]
  h_ask_active_side : Has K mg "ask_active_side" s_ask_active_side ["duel"]
  h_go_on : Has K mg "go_on" s_go_on ["duel", "told"]
  h_end_asked_step : Has K mg "end_asked_step" s_end_asked_step ["duel", "told"]
  h_take_step : Has K mg "take_step" s_take_step ["duel", "told"]
  h_is_left_out : Has K mg "is_left_out" s_is_left_out ["duel", "step"]
  h_is_asked_in : Has K mg "is_asked_in" s_is_asked_in ["duel", "step"]
  h_begin_step : Has K mg "begin_step" s_begin_step ["duel", "step", "told"]
  h_ends_at_step : Has K mg "ends_at_step" s_ends_at_step ["mark", "step", "active"]
  h_bring_things : Has K mg "bring_things" s_bring_things ["duel", "step", "told"]
  h_is_due : Has K mg "is_due" s_is_due ["thing", "step", "active"]
  h_end_marks : Has K mg "end_marks" s_end_marks ["duel", "numbers", "told"]
  h_end_marks_of_till : Has K mg "end_marks_of_till" s_end_marks_of_till ["duel", "till", "told"]
  h_leave_phase : Has K mg "leave_phase" s_leave_phase ["duel", "told"]
  h_take_phase : Has K mg "take_phase" s_take_phase ["duel", "told"]
  h_look_for_turn : Has K mg "look_for_turn" s_look_for_turn ["duel", "told"]
  h_take_side_of_turn : Has K mg "take_side_of_turn" s_take_side_of_turn ["duel"]
  h_begin_turn : Has K mg "begin_turn" s_begin_turn ["duel", "side", "told"]
  h_as_turn_begins : Has K mg "as_turn_begins" s_as_turn_begins ["mark", "side"]
  h_begin : Has K mg "begin" s_begin ["duel", "side"]
  h_pass_on : Has K mg "pass_on" s_pass_on ["duel", "side"]
  h_do_top : Has K mg "do_top" s_do_top ["duel", "told"]
  h_act : Has K mg "act" s_act ["duel", "side", "shut", "slow"]
  h_play : Has K mg "play" s_play ["duel", "side"]
  h_now : Has K mg "now" s_now ["duel", "side"]
  h_may_act : Has K mg "may_act" s_may_act ["duel", "side", "slow"]
  h_may_play : Has K mg "may_play" s_may_play ["duel", "side"]
  h_is_shut : Has K mg "is_shut" s_is_shut ["duel"]
  h_is_slow_time : Has K mg "is_slow_time" s_is_slow_time ["duel", "side"]
  h_endturn : Has K mg "endturn" s_endturn ["duel"]
  h_breakoff : Has K mg "breakoff" s_breakoff ["duel"]
  h_lose_items : Has K mg "lose_items" s_lose_items ["duel", "told"]
  h_fight : Has K mg "fight" s_fight ["duel", "k"]
  h_extraturn : Has K mg "extraturn" s_extraturn ["duel", "side"]
  h_extraphase : Has K mg "extraphase" s_extraphase ["duel", "k"]
  h_phases_put_in : Has K mg "phases_put_in" s_phases_put_in ["k"]
  h_extrastep : Has K mg "extrastep" s_extrastep ["duel", "k"]
  h_skipturn : Has K mg "skipturn" s_skipturn ["duel", "side"]
  h_skipstep : Has K mg "skipstep" s_skipstep ["duel", "side", "k"]
  h_skipfight : Has K mg "skipfight" s_skipfight ["duel", "side"]
  h_skip_one_more : Has K mg "skip_one_more" s_skip_one_more ["skipped", "place"]
  h_allow : Has K mg "allow" s_allow ["duel", "n"]
  h_tell_state : Has K mg "tell_state" s_tell_state ["duel"]
  h_tell_stack : Has K mg "tell_stack" s_tell_stack ["duel"]
  h_tell_coming : Has K mg "tell_coming" s_tell_coming ["duel"]
  h_tell_marks : Has K mg "tell_marks" s_tell_marks ["duel"]
  h_tell_delays : Has K mg "tell_delays" s_tell_delays ["duel"]
  h_tell_ledger : Has K mg "tell_ledger" s_tell_ledger ["duel"]
  h_with_count : Has K mg "with_count" s_with_count ["row"]
  h_one_if : Has K mg "one_if" s_one_if ["yes"]
  h_counter : Has K mg "counter" s_counter ["duel", "number"]
  h_mark : Has K mg "mark" s_mark ["duel", "till", "side", "step"]
  h_unmark : Has K mg "unmark" s_unmark ["duel", "number"]
  h_delay : Has K mg "delay" s_delay ["duel", "owner", "side", "step"]
  h_undelay : Has K mg "undelay" s_undelay ["duel", "number"]
  h_without_number : Has K mg "without_number" s_without_number ["row", "number"]
  h_is_step : Has K mg "is_step" s_is_step ["step"]
  h_answers : Has K mg "answers" s_answers ["calls"]
  h_answer_call : Has K mg "answer_call" s_answer_call ["duel", "call", "numbers"]
  h_answer_call_of_none : Has K mg "answer_call_of_none" s_answer_call_of_none ["duel", "call"]
  h_answer_call_of_one : Has K mg "answer_call_of_one" s_answer_call_of_one ["duel", "call", "number"]
  k_Item : HasC K mg "Item" "Item.__init__" s_Item ["self", "number", "side", "shuts"] C.item
  k_Mark : HasC K mg "Mark" "Mark.__init__" s_Mark ["self", "number", "till", "side", "step"] C.mark
  k_Delayed : HasC K mg "Delayed" "Delayed.__init__" s_Delayed ["self", "number", "owner", "side", "step"] C.del
  k_Duel : HasC K mg "Duel" "Duel.__init__" s_Duel ["self"] C.duel
  b_len : mg "len" = none
  b_any : mg "any" = none
  b_list : mg "list" = none
end D
end
section
set_option Elab.async false
set_option linter.all false
set_option maxRecDepth 100000
set_option maxHeartbeats 2000000
namespace D
open PySem PySem.Spec PyProof.Rows L2
open Vbdcaf (State Ev)
section
variable {K : PySem.W.Frag} {C : Cs} {B H : Hp} {p : Addr} {L : Lay} {s : State} {ex : List (Addr × HO)} {σ : L2.St} {Q : VK} {i : Nat} {D : Ends}
def unI : List V → List Int
  | .int i :: r => i :: unI r
  | _ => []
theorem inV_ints (k : Int) : ∀ l : List Int, inV (.int k) (l.map V.int) = decide (k ∈ l)
  | [] => rfl
  | a :: r => by
    have ih := inV_ints k r
    unfold inV at ih ⊢
    rw [List.map_cons, List.any_cons, ih]
    have e : eqV (.int a) (.int k) = decide (a = k) := by
      show (a == k) = _
      exact Bool.beq_eq_decide_eq a k
    rw [e, ← Bool.decide_or]
    exact dec_iff ⟨fun h => h.elim (fun z => z ▸ List.mem_cons_self) (List.mem_cons_of_mem _), fun h => (List.mem_cons.mp h).elim (fun z => .inl z.symm) .inr⟩
theorem flat_ints : ∀ l : List Int, (l.map V.int).all flatV = true
  | [] => rfl
  | a :: r => by rw [List.map_cons, List.all_cons, flat_ints r]; rfl
theorem in_of {a : Addr} {xs : List V} {k : Int} (hs : SqL K H a xs ∨ SqT K H a xs) (e : xs = (unI xs).map V.int) (h : Q (.bl (decide (k ∈ unI xs))) H) : rIn K false (.int k) (.ref a) H Q :=
  ⟨a, xs, rfl, hs, rfl, by rw [e]; exact flat_ints _, by show Q (.bl (inV (.int k) xs)) H; rw [e, inV_ints]; exact h⟩
theorem notin_of {a : Addr} {xs : List V} {k : Int} (hs : SqL K H a xs ∨ SqT K H a xs) (e : xs = (unI xs).map V.int) (h : Q (.bl (!decide (k ∈ unI xs))) H) : rIn K true (.int k) (.ref a) H Q :=
  ⟨a, xs, rfl, hs, rfl, by rw [e]; exact flat_ints _, by show Q (.bl (!inV (.int k) xs)) H; rw [e, inV_ints]; exact h⟩
theorem w_inS {a : Addr} {xs : List V} {k : Int} (S : Sd K C B H p L s ((a, .tup xs) :: ex)) (e : xs = (unI xs).map V.int) (h : Q (.bl (decide (k ∈ unI xs))) H) : rIn K false (.int k) (.ref a) H Q := in_of (.inr (SqT.of S.at0)) e h
theorem w_notS {a : Addr} {xs : List V} {k : Int} (S : Sd K C B H p L s ((a, .tup xs) :: ex)) (e : xs = (unI xs).map V.int) (h : Q (.bl (!decide (k ∈ unI xs))) H) : rIn K true (.int k) (.ref a) H Q := notin_of (.inr (SqT.of S.at0)) e h
theorem w_inK {a : Addr} {xs : List V} {k : Int} (t : TupK K a xs) (e : xs = (unI xs).map V.int) (h : Q (.bl (decide (k ∈ unI xs))) H) : rIn K false (.int k) (.ref a) H Q := in_of (.inr (t.sq H)) e h
theorem w_notK {a : Addr} {xs : List V} {k : Int} (t : TupK K a xs) (e : xs = (unI xs).map V.int) (h : Q (.bl (!decide (k ∈ unI xs))) H) : rIn K true (.int k) (.ref a) H Q := notin_of (.inr (t.sq H)) e h
theorem w_callN {sp : Sp} {E : XK} {t : TA} (h : t σ H fun vs H1 => sp vs H1 Q E) : tCall sp [] E t σ H Q := by
  unfold tCall
  have e : (fun vs H1 => sp (vs ++ []) H1 Q E) = fun vs H1 => sp vs H1 Q E := by
    funext vs H1
    rw [List.append_nil]
  rw [e]
  exact h
/-- a new instance, and its __init__ -/
def NewO (A : Addr) (sp : Sp) (E : XK) (vs : List V) (H : Hp) (Q : VK) : Prop := ∀ x dx, H x = none → H dx = none → dx ≠ x → sp (.ref x :: vs) (upd (upd H dx (.own x)) x (.ins A dx [])) (fun v H2 => v = .non ∧ Q (.ref x) H2) E
theorem w_makeN {A : Addr} {sp : Sp} {E : XK} {t : TA} (h : t σ H fun vs H1 => NewO A sp E vs H1 Q) : tMake A sp [] E t σ H Q := by
  unfold tMake
  have e : (fun (vs : List V) (H1 : Hp) => ∀ x dx, H1 x = none → H1 dx = none → dx ≠ x → sp (.ref x :: (vs ++ [])) (upd (upd H1 dx (.own x)) x (.ins A dx [])) (fun v H2 => v = .non ∧ Q (.ref x) H2) E) = fun vs H1 => NewO A sp E vs H1 Q := by
    funext vs H1
    rw [List.append_nil]
    rfl
  rw [e]
  exact h
/-- an attribute of an instance is written -/
theorem put_ins {f : Str} {y : V} {x A dx : Addr} {fs : List (Str × V)} {N : Hp → Prop} (e : σ[i]? = some (some (.ref x))) (hx : H x = some (.ins A dx fs)) (c : Cls K A) (n : NoAttr K A f) (hl : fs.length < 1000) (h : N (upd H x (.ins A dx (putF f y fs)))) : Put K σ i f y H N := ⟨.ref x, e, x, A, dx, fs, rfl, hx, c, n, hl, h⟩
/-- what a new instance leaves as it was -/
theorem same_made {A x dx : Addr} {H1 : Hp} (nx : H x = none) (nd : H dx = none) (k : ∀ b o, (upd (upd H dx (.own x)) x (.ins A dx [])) b = some o → b ≠ x → H1 b = some o) : Same H H1 := Same.made nx nd k
theorem w_augS {to ti te : TE} {tget : V → V → Hp → VK → Prop} {tip : TIp} {tset : TSet} (h : to σ H fun o H1 => ti σ H1 fun i H2 => tget o i H2 fun x H3 => te σ H3 fun y H4 => tip x y H4 fun z H5 => tset o i z H5 fun H6 => D.nx σ H6) : tAugS to ti te tget tip tset D σ H := h
theorem w_aug {i : Nat} {te : TE} {ti : TIp} {x : V} (e : σ[i]? = some (some x)) (h : te σ H fun y H1 => ti x y H1 fun z H2 => D.nx (σ.set i (some z)) H2) : tAug i te ti D σ H := ⟨x, e, h⟩
/-! ### a comprehension -/
/-- between two turns: the new list stands at E with acc in it -/
def LcP (K : PySem.W.Frag) (C : Cs) (B : Hp) (p : Addr) (L : Lay) (s : State) (ex : List (Addr × HO)) (E : Addr) (I : Nat → List V → Hp → Prop) (j : Nat) (H : Hp) : Prop := ∃ acc, acc.length ≤ j ∧ Sd K C B H p L s ((E, .lst acc) :: ex) ∧ I j acc H
/-- an item comes in -/
def LcY (K : PySem.W.Frag) (C : Cs) (B : Hp) (p : Addr) (L : Lay) (s : State) (ex : List (Addr × HO)) (E : Addr) (I : Nat → List V → Hp → Prop) (j : Nat) (y : V) (H : Hp) : Prop := ∃ acc, H E = some (.lst acc) ∧ acc.length < sizeLine ∧ LcP K C B p L s ex E I j (upd H E (.lst (acc ++ [y])))
theorem lc_yes {E : Addr} {I : Nat → List V → Hp → Prop} {j : Nat} {y : V} {acc : List V} (S : Sd K C B H p L s ((E, .lst acc) :: ex)) (hj : acc.length ≤ j) (hz : j < sizeLine) (h : ∀ H2, Keep H H2 → I (j + 1) (acc ++ [y]) H2) : LcY K C B p L s ex E I (j + 1) y H := by
  refine ⟨acc, S.at0, Nat.lt_of_le_of_lt hj hz, acc ++ [y], ?_, S.put, h _ (Keep.upd S.at0 lst_not)⟩
  rw [List.length_append]
  exact Nat.succ_le_succ hj
theorem lc_no {E : Addr} {I : Nat → List V → Hp → Prop} {j : Nat} {acc : List V} (S : Sd K C B H p L s ((E, .lst acc) :: ex)) (hj : acc.length ≤ j) (h : I (j + 1) acc H) : LcP K C B p L s ex E I (j + 1) H := ⟨acc, Nat.le_succ_of_le hj, S, h⟩
/-- a comprehension over the list x -/
def LcS (K : PySem.W.Frag) (g : TG) (tt : TT) (te : TE) (vs : List Nat) (σ : L2.St) (x : V) (H1 : Hp) (Q : VK) : Prop := ∃ a, x = .ref a ∧ (∃ xs, SqL K H1 a xs) ∧ ∀ E, H1 E = none → ∃ W : Nat → Nat → Hp → Prop, (∃ m, W 0 m (upd H1 E (.lst []))) ∧ ∀ j m H, W j m H →
      ((Itl K a).stop j H ∧ Q (.ref E) H) ∨ ((Itl K a).go j H ∧ ∃ Nx : Hp → Prop, (∀ H', Nx H' → ∃ m', m' < m ∧ W (j + 1) m' H') ∧ ∀ x H', (Itl K a).yld j H x H' → g x (wipe σ vs) H' fun σ2 H2 => wipe σ2 vs = wipe σ vs ∧ tt σ2 H2 fun b H3 =>
        if b = true then te σ2 H3 fun y H4 => ∃ acc, H4 E = some (.lst acc) ∧ acc.length < sizeLine ∧ Nx (upd H4 E (.lst (acc ++ [y]))) else Nx H3)
theorem w_lc {tl : TE} {g : TG} {tt : TT} {te : TE} {vs : List Nat} (h : tl σ H fun x H1 => LcS K g tt te vs σ x H1 Q) : tLc (iList K tl) g tt te vs σ H Q := h
theorem lc_sd {i : Nat} {tt : TT} {te : TE} {a : Addr} {xs : List V} (I : Nat → List V → Hp → Prop) (S : Sd K C B H p L s ex) (hs : SqL K H a xs) (src : ∀ H1 E acc, Sd K C B H1 p L s ((E, .lst acc) :: ex) → SqL K H1 a xs) (h0 : ∀ H1, Keep H H1 → I 0 [] H1)
    (step : ∀ j x acc H1 E, xs[j]? = some x → acc.length ≤ j → I j acc H1 → Sd K C B H1 p L s ((E, .lst acc) :: ex) → tt (σ.set i (some x)) H1 fun b H2 => if b = true then te (σ.set i (some x)) H2 fun y H3 => LcY K C B p L s ex E I (j + 1) y H3 else LcP K C B p L s ex E I (j + 1) H2)
    (fin : ∀ E acc H1, I xs.length acc H1 → Sd K C B H1 p L s ((E, .lst acc) :: ex) → Q (.ref E) H1) : LcS K (gName i) tt te [i] σ (.ref a) H Q := by
  refine ⟨a, rfl, ⟨xs, hs⟩, fun E hE => ?_⟩
  refine lc_list (K := K) (a := a) (xs := xs) (g := gName i) (Qd := fun H => Q (.ref E) H) (LcP K C B p L s ex E I) ⟨[], Nat.le_refl _, S.alloc hE, h0 _ (Keep.new hE)⟩ (fun j H1 _ ⟨acc, _, S1, _⟩ => src H1 E acc S1) (fun j x H1 hx ⟨acc, hj, S1, hI⟩ => ?_) (fun H1 ⟨acc, _, S1, hI⟩ => fin E acc H1 hI S1)
  have e1 : (wipe σ [i]).set i (some x) = σ.set i (some x) := by simp [wipe]
  show wipe ((wipe σ [i]).set i (some x)) [i] = wipe σ [i] ∧ _
  rw [e1]
  exact ⟨by simp [wipe], step j x acc H1 E hx hj hI S1⟩
theorem w_forS {tl : TE} {g : TG} {tb : TS} (h : tl σ H fun x H1 => ∃ a, x = .ref a ∧ (∃ xs, SqL K H1 a xs) ∧ ∃ W : Nat → Nat → L2.St → Hp → Prop, (∃ m, W 0 m σ H1) ∧ ∀ i m σ H, W i m σ H →
  ((Itl K a).stop i H ∧ D.nx σ H) ∨ ((Itl K a).go i H ∧ ∃ N : L2.St → Hp → Prop, (∀ σ' H', N σ' H' → ∃ m', m' < m ∧ W (i + 1) m' σ' H') ∧ ∀ x H', (Itl K a).yld i H x H' → g x σ H' fun σ2 H2 => tb { D with nx := N, ct := N, bk := D.nx } σ2 H2)) : tFor (iList K tl) g tb D σ H := h
/-- an item of a dict of the module's -/
def DGt (K : PySem.W.Frag) (x y : V) (H : Hp) (Q : VK) : Prop := ∃ a kvs k v, x = .ref a ∧ DicK K a kvs ∧ y = kV k ∧ valV kvs k = some v ∧ Q v H
theorem w_dget {td ty : TE} (h : td σ H fun x H1 => ty σ H1 fun y H2 => DGt K x y H2 Q) : tDGetK K td ty σ H Q := h
theorem dgt_mk {a : Addr} {c : Int} {v : V} {kvs : List (Key × V)} (d : DicK K a kvs) (hv : valV kvs (Sum.inl c) = some v) (h : Q v H) : DGt K (.ref a) (.int c) H Q := ⟨a, kvs, Sum.inl c, v, rfl, d, rfl, hv, h⟩
theorem w_yes {QB : Bool → Hp → Prop} (h : QB true H) : tYes σ H QB := h
end
theorem small (n : Nat) (h : Nat.ble n 1000000 = true := by exact rfl) : n ≤ sizeLine := by
  have h := Nat.le_of_ble_eq_true h
  rw [sizeLine_eq]
  omega
end D
end
section
set_option Elab.async false
set_option linter.all false
set_option maxRecDepth 100000
set_option maxHeartbeats 2000000
namespace D
open PySem PySem.Spec PyProof.Rows L2
open Vbdcaf (State Ev)
local macro_rules | `(tactic| walk_at "rd") => `(tactic| first
    | ((with_reducible apply w_var); (exact rfl))
    | ((with_reducible apply w_aug); (exact rfl))
    | (with_reducible refine w_seq ?_)
    | (with_reducible refine w_ifS ?_)
    | (with_reducible refine w_next ?_)
    | (with_reducible refine w_drop ?_)
    | (with_reducible refine w_ret ?_)
    | (with_reducible refine w_asg ?_)
    | (with_reducible refine w_op ?_)
    | (with_reducible refine w_c ?_)
    | (with_reducible refine w_i0 ?_)
    | (with_reducible refine w_ip ?_)
    | (with_reducible refine w_eqI ?_)
    | (with_reducible refine w_neI ?_)
    | (with_reducible refine w_test ?_)
    | (with_reducible refine w_tB ?_)
    | (with_reducible refine w_ebl ?_)
    | (with_reducible refine w_and ?_)
    | (with_reducible refine w_or ?_)
    | (with_reducible refine w_not ?_)
    | (with_reducible refine w_andV ?_)
    | (with_reducible refine w_orV ?_)
    | (with_reducible refine w_notV ?_)
    | (with_reducible refine w_ifE ?_)
    | (with_reducible refine w_callN ?_)
    | (with_reducible refine w_cons ?_)
    | (with_reducible refine w_nil ?_)
    | (with_reducible refine w_tup ?_)
    | (with_reducible refine w_lst ?_)
    | (with_reducible refine w_cb ?_)
    | (with_reducible refine w_retN ?_)
    | (with_reducible refine w_put ?_)
    | (with_reducible refine w_augS ?_)
    | (with_reducible refine w_part ?_)
    | (with_reducible refine w_ei ?_)
    | (with_reducible refine w_nop ?_)
    | (with_reducible refine w_sl ?_)
    | (with_reducible refine iteF ?_)
    | (with_reducible refine iteT ?_)
    | (with_reducible refine w_lc ?_)
    | (with_reducible refine w_makeN ?_)
    | (with_reducible refine w_dget ?_)
    | (with_reducible refine w_forS ?_)
    | (with_reducible refine w_yes ?_)
    | (with_reducible refine w_rAdd ?_)
    | (with_reducible refine w_rSub ?_)
    | ((with_reducible apply rd_turns); (with_reducible assumption); (exact rfl); (with_reducible assumption))
    | ((with_reducible apply rd_turns_of_side); (with_reducible assumption); (exact rfl); (with_reducible assumption))
    | ((with_reducible apply rd_active); (with_reducible assumption); (exact rfl); (with_reducible assumption))
    | ((with_reducible apply rd_last_ordinary); (with_reducible assumption); (exact rfl); (with_reducible assumption))
    | ((with_reducible apply rd_step); (with_reducible assumption); (exact rfl); (with_reducible assumption))
    | ((with_reducible apply rd_rest); (with_reducible assumption); (exact rfl); (with_reducible assumption))
    | ((with_reducible apply rd_phases); (with_reducible assumption); (exact rfl); (with_reducible assumption))
    | ((with_reducible apply rd_extra_turns); (with_reducible assumption); (exact rfl); (with_reducible assumption))
    | ((with_reducible apply rd_skipped_turns); (with_reducible assumption); (exact rfl); (with_reducible assumption))
    | ((with_reducible apply rd_skipped_fights); (with_reducible assumption); (exact rfl); (with_reducible assumption))
    | ((with_reducible apply rd_skipped_steps); (with_reducible assumption); (exact rfl); (with_reducible assumption))
    | ((with_reducible apply rd_holder); (with_reducible assumption); (exact rfl); (with_reducible assumption))
    | ((with_reducible apply rd_passed); (with_reducible assumption); (exact rfl); (with_reducible assumption))
    | ((with_reducible apply rd_plays); (with_reducible assumption); (exact rfl); (with_reducible assumption))
    | ((with_reducible apply rd_fighting); (with_reducible assumption); (exact rfl); (with_reducible assumption))
    | ((with_reducible apply rd_first_blows); (with_reducible assumption); (exact rfl); (with_reducible assumption))
    | ((with_reducible apply rd_stack); (with_reducible assumption); (exact rfl); (with_reducible assumption))
    | ((with_reducible apply rd_marks); (with_reducible assumption); (exact rfl); (with_reducible assumption))
    | ((with_reducible apply rd_delayed); (with_reducible assumption); (exact rfl); (with_reducible assumption))
    | ((with_reducible apply rd_last_number); (with_reducible assumption); (exact rfl); (with_reducible assumption))
    | ((with_reducible apply rd_items_come); (with_reducible assumption); (exact rfl); (with_reducible assumption))
    | ((with_reducible apply rd_items_done); (with_reducible assumption); (exact rfl); (with_reducible assumption))
    | ((with_reducible apply rd_items_countered); (with_reducible assumption); (exact rfl); (with_reducible assumption))
    | ((with_reducible apply rd_items_gone); (with_reducible assumption); (exact rfl); (with_reducible assumption))
    | ((with_reducible apply rdI_number); (with_reducible assumption); (exact rfl); (with_reducible assumption); (with_reducible assumption))
    | ((with_reducible apply rdI_side); (with_reducible assumption); (exact rfl); (with_reducible assumption); (with_reducible assumption))
    | ((with_reducible apply rdI_shuts); (with_reducible assumption); (exact rfl); (with_reducible assumption); (with_reducible assumption))
    | ((with_reducible apply rdM_number); (with_reducible assumption); (exact rfl); (with_reducible assumption); (with_reducible assumption))
    | ((with_reducible apply rdM_till); (with_reducible assumption); (exact rfl); (with_reducible assumption); (with_reducible assumption))
    | ((with_reducible apply rdM_side); (with_reducible assumption); (exact rfl); (with_reducible assumption); (with_reducible assumption))
    | ((with_reducible apply rdM_step); (with_reducible assumption); (exact rfl); (with_reducible assumption); (with_reducible assumption))
    | ((with_reducible apply rdL_number); (with_reducible assumption); (exact rfl); (with_reducible assumption); (with_reducible assumption))
    | ((with_reducible apply rdL_owner); (with_reducible assumption); (exact rfl); (with_reducible assumption); (with_reducible assumption))
    | ((with_reducible apply rdL_side); (with_reducible assumption); (exact rfl); (with_reducible assumption); (with_reducible assumption))
    | ((with_reducible apply rdL_step); (with_reducible assumption); (exact rfl); (with_reducible assumption); (with_reducible assumption))
    | ((with_reducible apply ln_turns_of_side); (with_reducible assumption))
    | ((with_reducible apply ln_rest); (with_reducible assumption))
    | ((with_reducible apply ln_phases); (with_reducible assumption))
    | ((with_reducible apply ln_extra_turns); (with_reducible assumption))
    | ((with_reducible apply ln_skipped_turns); (with_reducible assumption))
    | ((with_reducible apply ln_skipped_fights); (with_reducible assumption))
    | ((with_reducible apply ln_stack); (with_reducible assumption))
    | ((with_reducible apply ln_marks); (with_reducible assumption))
    | ((with_reducible apply ln_delayed); (with_reducible assumption))
    | ((with_reducible refine w_bm ?_); (walk_at "rd"); (refine ⟨ty_turns_of_side (by with_reducible assumption), ?_⟩))
    | ((with_reducible refine w_bm ?_); (walk_at "rd"); (refine ⟨ty_rest (by with_reducible assumption), ?_⟩))
    | ((with_reducible refine w_bm ?_); (walk_at "rd"); (refine ⟨ty_phases (by with_reducible assumption), ?_⟩))
    | ((with_reducible refine w_bm ?_); (walk_at "rd"); (refine ⟨ty_extra_turns (by with_reducible assumption), ?_⟩))
    | ((with_reducible refine w_bm ?_); (walk_at "rd"); (refine ⟨ty_skipped_turns (by with_reducible assumption), ?_⟩))
    | ((with_reducible refine w_bm ?_); (walk_at "rd"); (refine ⟨ty_skipped_fights (by with_reducible assumption), ?_⟩))
    | ((with_reducible refine w_bm ?_); (walk_at "rd"); (refine ⟨ty_stack (by with_reducible assumption), ?_⟩))
    | ((with_reducible refine w_bm ?_); (walk_at "rd"); (refine ⟨ty_marks (by with_reducible assumption), ?_⟩))
    | ((with_reducible refine w_bm ?_); (walk_at "rd"); (refine ⟨ty_delayed (by with_reducible assumption), ?_⟩))
    | ((with_reducible refine w_bm ?_); (walk_at "rd"); (refine ⟨ty_ex0 (by with_reducible assumption), ?_⟩))
    | ((with_reducible apply w_tupS); (with_reducible assumption); (exact small _); (intro a H2 S2))
    | ((with_reducible apply w_lstS); (with_reducible assumption); (exact small _); (intro a H2 S2))
    | ((with_reducible apply w_inS); (with_reducible assumption); (exact rfl); (have S3 := Sd.tail ‹Sd _ _ _ _ _ _ _ ((_, HO.tup _) :: _)›))
    | ((with_reducible apply w_notS); (with_reducible assumption); (exact rfl); (have S3 := Sd.tail ‹Sd _ _ _ _ _ _ _ ((_, HO.tup _) :: _)›))
    | (with_reducible refine w_inK (Txt.t_SIDES (by assumption)) rfl ?_)
    | (with_reducible refine w_notK (Txt.t_SIDES (by assumption)) rfl ?_))
local macro_rules | `(tactic| walk_at "rds") => `(tactic| repeat (walk_at "rd"))
local macro_rules | `(tactic| walk_at "sp") => `(tactic| first | (with_reducible refine w_ite (fun h => ?_) (fun h => ?_)) | (with_reducible refine w_iteN (fun h => ?_) (fun h => ?_)) | (with_reducible refine w_iteNB (fun h => ?_) (fun h => ?_)) | (with_reducible refine w_iteB (fun h => ?_) (fun h => ?_)))
local macro_rules | `(tactic| walk_at "rdp") => `(tactic| repeat' (first | walk_at "rd" | walk_at "sp"))
section
variable {P : Program} {w : World} {K : PySem.W.Frag} {mg : Str → Option Value} {base : Heap} {C : Cs}
theorem qcast {Q : VK} {b b' : Bool} {H : Hp} (h : Q (.bl b') H) (e : b = b') : Q (.bl b) H := e ▸ h
theorem icast {Q : VK} {b b' : Int} {H : Hp} (h : Q (.int b') H) (e : b = b') : Q (.int b) H := e ▸ h
abbrev sp_take_number (K : PySem.W.Frag) (C : Cs) : Sp := fun vs H Q _ => ∃ B p L s ex, vs = [.ref p] ∧ Sd K C B H p L s ex ∧ ∀ H', Sd K C B H' p L { s with next := s.next + 1 } ex → Q (.int ((s.next : Nat) : Int)) H'
theorem ok_take_number (T : Txt K mg C) : OkF P w K mg base 1 "take_number" ["duel"] (sp_take_number K C) := by
  refine T.h_take_number.ok sc_take_number (fun vs H Q E h => ?_) (fun f cdv A outer s0 H vs Q E hr h => ?_)
  · obtain ⟨B, p, L, s, ex, rfl, _⟩ := h; rfl
  obtain ⟨B, p, L, s, ex, rfl, S, k⟩ := h
  have cs := T.cs
  refine ⟨_, (pss_cons (ps_fldaugK K (pv 0) pe_int in_add)
      (pss_one (ps_ret (pe_fldK K (pv 0) rfl)))), ?_⟩
  walk_at "rds"
  refine wa_last_number cs rfl S (fun Q h => h) (fun Q h => w_rAdd h) (n := s.next + 1) (by omega) fun H1 S1 => ?_
  walk_at "rds"
  exact icast (k _ S1) (by show ((s.next + 1 : Nat) : Int) - 1 = _; omega)
abbrev sp_count_things (K : PySem.W.Frag) (C : Cs) : Sp := fun vs H Q _ => ∃ B p L s ex, vs = [.ref p] ∧ Sd K C B H p L s ex ∧ ∀ H', Sd K C B H' p L s ex → Q (.int ((s.stack.length : Nat) + (s.delays.length : Nat) : Int)) H'
theorem ok_count_things (T : Txt K mg C) : OkF P w K mg base 1 "count_things" ["duel"] (sp_count_things K C) := by
  refine T.h_count_things.ok sc_count_things (fun vs H Q E h => ?_) (fun f cdv A outer s0 H vs Q E hr h => ?_)
  · obtain ⟨B, p, L, s, ex, rfl, _⟩ := h; rfl
  obtain ⟨B, p, L, s, ex, rfl, S, k⟩ := h
  have cs := T.cs
  refine ⟨_, (pss_one (ps_ret (pe_op op_add (pe_callB (cr_lenK K) (by rfl) T.b_len PySem.boot_len (pa_cons (pe_fldK K (pv 0) rfl) pa_nil)) (pe_callB (cr_lenK K) (by rfl) T.b_len PySem.boot_len (pa_cons (pe_fldK K (pv 0) rfl) pa_nil))))), ?_⟩
  walk_at "rds"
  exact k _ S
abbrev sp_put_on_stack (K : PySem.W.Frag) (C : Cs) : Sp := fun vs H Q _ => ∃ B p L s ex v i, vs = [.ref p, v] ∧ Sd K C B H p L s ex ∧ RI C H v i ∧ s.stack.length < sizeLine ∧ ∀ H' L', Sd K C B H' p L' { s with stack := i :: s.stack, put := s.put + 1 } ex → Q .non H'
theorem ok_put_on_stack (T : Txt K mg C) : OkF P w K mg base 1 "put_on_stack" ["duel", "item"] (sp_put_on_stack K C) := by
  refine T.h_put_on_stack.ok sc_put_on_stack (fun vs H Q E h => ?_) (fun f cdv A outer s0 H vs Q E hr h => ?_)
  · obtain ⟨B, p, L, s, ex, v, i, rfl, _⟩ := h; rfl
  obtain ⟨B, p, L, s, ex, v, i, rfl, S, M, hl, k⟩ := h
  have cs := T.cs
  refine ⟨_, (pss_cons (ps_expr (pe_bmK K PySem.F.plainAttrs_list PySem.F.slot_list_insert PySem.F.type_list_insert mt_insert0 (pe_fldK K (pv 0) rfl) (pa_cons pe_int (pa_cons (pv 1) pa_nil))))
      (pss_one (ps_fldaugK K (pv 0) pe_int in_add))), ?_⟩
  walk_at "rds"
  refine ins_stack S M hl fun H1 S1 => ?_
  walk_at "rds"
  refine wa_items_come cs rfl S1 (fun Q h => h) (fun Q h => w_rAdd h) (n := s.put + 1) rfl fun H2 S2 => ?_
  exact k _ _ S2
abbrev sp_ask_active_side (K : PySem.W.Frag) (C : Cs) : Sp := fun vs H Q _ => ∃ B p L s ex, vs = [.ref p] ∧ Sd K C B H p L s ex ∧ ∀ H', Sd K C B H' p L { s with holder := s.active, passes := 0 } ex → Q .non H'
theorem ok_ask_active_side (T : Txt K mg C) : OkF P w K mg base 1 "ask_active_side" ["duel"] (sp_ask_active_side K C) := by
  refine T.h_ask_active_side.ok sc_ask_active_side (fun vs H Q E h => ?_) (fun f cdv A outer s0 H vs Q E hr h => ?_)
  · obtain ⟨B, p, L, s, ex, rfl, _⟩ := h; rfl
  obtain ⟨B, p, L, s, ex, rfl, S, k⟩ := h
  have cs := T.cs
  refine ⟨_, (pss_cons (ps_fldK K (pv 0) (pe_fldK K (pv 0) rfl) rfl)
      (pss_one (ps_fldK K (pv 0) pe_bl rfl))), ?_⟩
  walk_at "rds"
  refine ws_holder cs rfl S rfl fun H1 S1 => ?_
  walk_at "rds"
  refine ws_passed cs rfl S1 (m := 0) rfl fun H2 S2 => ?_
  exact k _ S2
abbrev sp_is_left_out (K : PySem.W.Frag) (C : Cs) : Sp := fun vs H Q _ => ∃ B p L s ex k, vs = [.ref p, .int ((k : Nat) : Int)] ∧ Sd K C B H p L s ex ∧ ∀ H', Sd K C B H' p L s ex → Q (.bl (Vbdcaf.leftOut s k)) H'
theorem ok_is_left_out (T : Txt K mg C) : OkF P w K mg base 1 "is_left_out" ["duel", "step"] (sp_is_left_out K C) := by
  refine T.h_is_left_out.ok sc_is_left_out (fun vs H Q E h => ?_) (fun f cdv A outer s0 H vs Q E hr h => ?_)
  · obtain ⟨B, p, L, s, ex, n, rfl, _⟩ := h; rfl
  obtain ⟨B, p, L, s, ex, n, rfl, S, k⟩ := h
  have cs := T.cs
  refine ⟨_, (pss_cons (ps_if ((pw_and (pt_cmpR op_eq (pv 1) (pe_gl (by rfl) T.g_FIRST_BLOWS) (nomark _)) (pw_and1 (pt_not (pt_val (pe_fldK K (pv 0) rfl)))))).pt (pss_one (ps_ret pe_bl)) pss_nil)
      (pss_one (ps_ret (pe_and (pe_cmpR (op_inK K) (pv 1) (pe_tup (pa_cons (pe_gl (by rfl) T.g_BLOCK) (pa_cons (pe_gl (by rfl) T.g_FIRST_BLOWS) (pa_cons (pe_gl (by rfl) T.g_BLOWS) pa_nil)))) (by with_unfolding_all rfl)) (pe_one (pe_not (pe_fldK K (pv 0) rfl))))))), ?_⟩
  walk_at "rdp"
  all_goals (first | refine qcast (k _ (by assumption)) ?_ | refine qcast (k _ (Sd.tail (by assumption))) ?_)
  all_goals (clear k; simp only [Vbdcaf.leftOut, unI, List.mem_cons, List.not_mem_nil, or_false] at *; grind)
abbrev sp_is_asked_in (K : PySem.W.Frag) (C : Cs) : Sp := fun vs H Q _ => ∃ B p L s ex k, vs = [.ref p, .int ((k : Nat) : Int)] ∧ s.step = k ∧ Sd K C B H p L s ex ∧ ∀ H', Sd K C B H' p L s ex → Q (.bl (Vbdcaf.asks s)) H'
theorem ok_is_asked_in (T : Txt K mg C) : OkF P w K mg base 1 "is_asked_in" ["duel", "step"] (sp_is_asked_in K C) := by
  refine T.h_is_asked_in.ok sc_is_asked_in (fun vs H Q E h => ?_) (fun f cdv A outer s0 H vs Q E hr h => ?_)
  · obtain ⟨B, p, L, s, ex, n, rfl, _⟩ := h; rfl
  obtain ⟨B, p, L, s, ex, n, rfl, hn, S, k⟩ := h
  have cs := T.cs
  refine ⟨_, (pss_cons (ps_if (pt_cmpR op_eq (pv 1) (pe_gl (by rfl) T.g_DUSK) (nomark _)) (pss_one (ps_ret (pe_cmpR op_gt (pe_callB (cr_lenK K) (by rfl) T.b_len PySem.boot_len (pa_cons (pe_fldK K (pv 0) rfl) pa_nil)) pe_int (nomark _)))) pss_nil)
      (pss_one (ps_ret (pe_cmpR op_ne (pv 1) (pe_gl (by rfl) T.g_DAWN) (nomark _))))), ?_⟩
  walk_at "rdp"
  all_goals refine qcast (k _ S) ?_
  all_goals (clear k; simp only [Vbdcaf.asks, Vbdcaf.DUSK, ← hn]; cases hs : s.stack <;> simp only [hs, List.length_nil, List.length_cons, List.isEmpty_nil, List.isEmpty_cons] at * <;> grind)
abbrev sp_ends_at_step (K : PySem.W.Frag) (C : Cs) : Sp := fun vs H Q _ => ∃ B p L s ex v m k a, vs = [v, .int ((k : Nat) : Int), .int ((a : Nat) : Int)] ∧ Sd K C B H p L s ex ∧ RM C B v m ∧ ∀ H', Sd K C B H' p L s ex → Q (.bl ((m.till == 2 && k == Vbdcaf.DUSK) || (m.till == 5 && (m.side == a && m.step == k)))) H'
theorem ok_ends_at_step (T : Txt K mg C) : OkF P w K mg base 1 "ends_at_step" ["mark", "step", "active"] (sp_ends_at_step K C) := by
  refine T.h_ends_at_step.ok sc_ends_at_step (fun vs H Q E h => ?_) (fun f cdv A outer s0 H vs Q E hr h => ?_)
  · obtain ⟨B, p, L, s, ex, v, m, n, a, rfl, _⟩ := h; rfl
  obtain ⟨B, p, L, s, ex, v, m, n, a, rfl, S, M, k⟩ := h
  have cs := T.cs
  refine ⟨_, (pss_cons (ps_if (pt_cmpR op_eq (pe_fldK K (pv 0) rfl) (pe_gl (by rfl) T.g_TILL_DUSK) (nomark _)) (pss_one (ps_ret (pe_cmpR op_eq (pv 1) (pe_gl (by rfl) T.g_DUSK) (nomark _)))) pss_nil)
      (pss_one (ps_ret (pe_and (pe_cmpR op_eq (pe_fldK K (pv 0) rfl) (pe_gl (by rfl) T.g_TILL_OWN_STEP) (nomark _)) (pe_and (pe_cmpR op_eq (pe_fldK K (pv 0) rfl) (pv 2) (nomark _)) (pe_one (pe_cmpR op_eq (pe_fldK K (pv 0) rfl) (pv 1) (nomark _)))))))), ?_⟩
  walk_at "rdp"
  all_goals refine qcast (k _ S) ?_
  all_goals (clear k; simp only [Vbdcaf.DUSK]; grind)
abbrev sp_is_due (K : PySem.W.Frag) (C : Cs) : Sp := fun vs H Q _ => ∃ B p L s ex v m k a, vs = [v, .int ((k : Nat) : Int), .int ((a : Nat) : Int)] ∧ Sd K C B H p L s ex ∧ RL C B v m ∧ ∀ H', Sd K C B H' p L s ex → Q (.bl (m.step == k && (m.side == 2 || m.side == a))) H'
theorem ok_is_due (T : Txt K mg C) : OkF P w K mg base 1 "is_due" ["thing", "step", "active"] (sp_is_due K C) := by
  refine T.h_is_due.ok sc_is_due (fun vs H Q E h => ?_) (fun f cdv A outer s0 H vs Q E hr h => ?_)
  · obtain ⟨B, p, L, s, ex, v, m, n, a, rfl, _⟩ := h; rfl
  obtain ⟨B, p, L, s, ex, v, m, n, a, rfl, S, M, k⟩ := h
  have cs := T.cs
  refine ⟨_, (pss_one (ps_ret (pe_and (pe_cmpR op_eq (pe_fldK K (pv 0) rfl) (pv 1) (nomark _)) (pe_one (pe_cmpR (op_inK K) (pe_fldK K (pv 0) rfl) (pe_tup (pa_cons (pv 2) (pa_cons (pe_gl (by rfl) T.g_EITHER_SIDE) pa_nil))) (by with_unfolding_all rfl)))))), ?_⟩
  walk_at "rdp"
  all_goals (first | refine qcast (k _ (by assumption)) ?_ | refine qcast (k _ (Sd.tail (by assumption))) ?_)
  all_goals (clear k; (try simp only [unI, List.mem_cons, List.not_mem_nil, or_false] at *); grind)
/-! ### lists of numbers -/
theorem unI_nats : ∀ l : List Nat, unI (nats l) = l.map fun n => ((n : Nat) : Int)
  | [] => rfl
  | a :: r => by
    show (a : Int) :: unI (nats r) = _
    rw [unI_nats r]
    rfl
theorem nats_unI (l : List Nat) : nats l = (unI (nats l)).map V.int := by
  rw [unI_nats, List.map_map]
  rfl
theorem mem_unI {k : Nat} {l : List Nat} : ((k : Int) ∈ unI (nats l)) ↔ k ∈ l := by
  rw [unI_nats, List.mem_map]
  exact ⟨fun ⟨a, h, e⟩ => (by have : a = k := by omega
                              exact this ▸ h), fun h => ⟨k, h, rfl⟩⟩
theorem nats_get {l : List Nat} {j : Nat} {x : V} (h : (nats l)[j]? = some x) : ∃ k, l[j]? = some k ∧ x = .int ((k : Nat) : Int) := by
  unfold nats at h
  rw [List.getElem?_map] at h
  cases e : l[j]? with
  | none => rw [e] at h; cases h
  | some k => rw [e] at h; exact ⟨k, rfl, (Option.some.inj h).symm⟩
theorem take_snoc {α : Type} {l : List α} {j : Nat} {x : α} (h : l[j]? = some x) : l.take (j + 1) = l.take j ++ [x] := by
  rw [List.take_add_one, h]
  rfl
theorem mem_nums {ms : List Vbdcaf.Mark} {f : Vbdcaf.Mark → Bool} (nd : (ms.map (·.num)).Nodup) {m : Vbdcaf.Mark} (hm : m ∈ ms) : m.num ∈ (ms.filter f).map (·.num) ↔ f m = true := by
  constructor
  · intro h
    obtain ⟨m', h1, h2⟩ := List.mem_map.mp h
    obtain ⟨h3, h4⟩ := List.mem_filter.mp h1
    have e : m' = m := by
      obtain ⟨i, hi⟩ := List.getElem?_of_mem h3
      obtain ⟨j, hj⟩ := List.getElem?_of_mem hm
      have a : (ms.map (·.num))[i]? = some m.num := by rw [List.getElem?_map, hi]; exact congrArg some h2
      have b : (ms.map (·.num))[j]? = some m.num := by rw [List.getElem?_map, hj]; rfl
      have e := nd_ix nd a b
      subst e
      rw [hi] at hj
      exact Option.some.inj hj
    rw [← e]
    exact h4
  · intro h
    exact List.mem_map.mpr ⟨m, List.mem_filter.mpr ⟨hm, h⟩, rfl⟩
theorem fl_marks (ms : List Vbdcaf.Mark) : fl (ms.map fun m => ({ sort := 4, what := m.num } : Ev)) = (ms.map (·.num)).flatMap fun k => [(4 : Int), ((k : Nat) : Int)] := by
  unfold fl
  rw [List.flatMap_map, List.flatMap_map]
  rfl
theorem Sd.at2 {K : PySem.W.Frag} {C : Cs} {B H : Hp} {p a : Addr} {L : Lay} {s : State} {ex : List (Addr × HO)} {e f : Addr × HO} {o : HO} (S : Sd K C B H p L s (e :: f :: (a, o) :: ex)) : H a = some o := S.tail.tail.at0
theorem len_pairs (l : List Nat) : (l.flatMap fun k => [(4 : Int), ((k : Nat) : Int)]).length = 2 * l.length := by
  induction l with
  | nil => rfl
  | cons a r ih => rw [List.flatMap_cons, List.length_append, ih]; show 2 + _ = 2 * (r.length + 1); omega
abbrev sp_end_marks (K : PySem.W.Frag) (C : Cs) : Sp := fun vs H Q _ => ∃ B p L s ex n t xs f, vs = [.ref p, .ref n, .ref t] ∧ (s.marks.map (·.num)).Nodup ∧ s.marks.length ≤ 1000 ∧ Sd K C B H p L s ((n, .lst (nats ((s.marks.filter f).map (·.num)))) :: (t, .lst (tin xs)) :: ex) ∧ xs.length + 2 * (s.marks.filter f).length ≤ sizeLine ∧
  ∀ H' L', Sd K C B H' p L' (Vbdcaf.endMarks s f).1 ((t, .lst (tin (xs ++ fl (Vbdcaf.endMarks s f).2))) :: ex) → Q .non H'
theorem ok_end_marks (T : Txt K mg C) : OkF P w K mg base 1 "end_marks" ["duel", "numbers", "told"] (sp_end_marks K C) := by
  refine T.h_end_marks.ok sc_end_marks (fun vs H Q E h => ?_) (fun f cdv A outer s0 H vs Q E hr h => ?_)
  · obtain ⟨B, p, L, s, ex, n, t, xs, f, rfl, _⟩ := h; rfl
  obtain ⟨B, p, L, s, ex, n, t, xs, f, rfl, nd, hml, S, hz, k⟩ := h
  have cs := T.cs
  refine ⟨_, (pss_cons (ps_for PassesOwn.never rfl (pi_listK K (pv 1)) (pg_name (i := 3) sc_end_marks.nd rfl (by first | exact Or.inl rfl | exact Or.inr rfl)) (pss_one (ps_expr (pe_bmK K PySem.F.plainAttrs_list PySem.F.slot_list_extend PySem.F.type_list_extend mt_extend (pv 2) (pa_cons (pe_lst (pa_cons (pe_gl (by rfl) T.g_MARK_ENDS) (pa_cons (pv 3) pa_nil))) pa_nil)))))
      (pss_one (ps_fldK K (pv 0) (pe_lc rfl sc_end_marks.nd (pi_listK K (pe_fldK K (pv 0) rfl)) (own := [("mark", 4)]) (blkOk_by (show blkC ["duel", "numbers", "told", "number", "mark"] (defScope s_end_marks) _ _ = true by decide +kernel)) (fun _ _ _ _ _ => pg_name (i := 4) sc_end_marks.nd rfl (by first | exact Or.inl rfl | exact Or.inr rfl)) (fun _ _ _ _ _ => (pts_one (pt_cmpR (op_notInK K) (pe_fldK K (pv 4) rfl) (pv 1) (by with_unfolding_all rfl)))) (fun _ _ _ _ _ => (pv 4))) rfl))), ?_⟩
  generalize hns : (s.marks.filter f).map (·.num) = ns at S
  have hnl : ns.length = (s.marks.filter f).length := by rw [← hns, List.length_map]
  walk_at "rds"
  refine ⟨_, rfl, ⟨_, SqL.of S.at0⟩, for_list (K := K) (a := n) (xs := nats ns) (fun j σ' H' => ∃ v, σ' = [some (.ref p), some (.ref n), some (.ref t), v, none] ∧ Sd K C B H' p L s ((t, .lst (tin (xs ++ (ns.take j).flatMap fun k => [(4 : Int), ((k : Nat) : Int)]))) :: (n, .lst (nats ns)) :: ex))
    ⟨none, rfl, by simpa using S.swap⟩ (fun j σ' H' _ ⟨v, _, S'⟩ => SqL.of S'.at1) ?_ ?_⟩
  · rintro j x σ' H' hx ⟨v, rfl, S'⟩
    obtain ⟨m, hm, rfl⟩ := nats_get hx
    have hj : j < ns.length := (List.getElem?_eq_some_iff.mp hm).1
    show tDrop _ _ _ _
    walk_at "rds"
    refine ext_tell (by assumption) ?_ fun H3 S3 => ?_
    · rw [len_tin, List.length_append, len_pairs, List.length_take]
      show _ + 2 ≤ _
      omega
    · refine ⟨_, rfl, S3.castE ?_⟩
      rw [take_snoc hm, List.flatMap_append, ← List.append_assoc]
      exact (tin_app _ [4, (m : Int)]).symm
  · rintro σ' H' ⟨v, rfl, S'⟩
    rw [len_nats, List.take_length] at S'
    have S0 := S'.rebase
    have hR := S'.rep.mksR
    have hRl := Paired.length hR
    dsimp only
    walk_at "rds"
    refine lc_sd (fun j acc _ => Paired (RM C H') acc ((s.marks.take j).filter fun m => !f m)) S0 (SqL.of S0.rep.mks) (fun H1 E acc S1 => SqL.of S1.rep.mks) (fun _ _ => .nil) ?_ ?_
    · intro j x acc H1 E hx hj hI S1
      obtain ⟨m, hm, M⟩ := paired_get hR hx
      have hjl : j < (L.v 9).length := (List.getElem?_eq_some_iff.mp hx).1
      walk_at "rds"
      refine notin_of (.inl (SqL.of S1.at2)) (nats_unI _) ?_
      walk_at "rds"
      have hmm := List.mem_of_getElem? hm
      have key : ((m.num : Int) ∈ unI (nats ns)) ↔ f m = true := by rw [mem_unI, ← hns]; exact mem_nums nd hmm
      refine w_iteN (fun h => ?_) (fun h => ?_)
      · walk_at "rds"
        refine lc_yes S1 hj (by rw [sizeLine_eq]; omega) fun H2 _ => ?_
        rw [take_snoc hm, List.filter_append]
        refine pairs_app hI ?_
        have e : (!f m) = true := by
          cases q : f m
          · rfl
          · exact absurd (key.mpr q) h
        rw [List.filter_cons, if_pos e]
        exact .cons M .nil
      · refine lc_no S1 hj ?_
        rw [take_snoc hm, List.filter_append]
        have e : ¬ (!f m) = true := by rw [key.mp h]; decide
        rw [List.filter_cons, if_neg e, List.filter_nil, List.append_nil]
        exact hI
    · intro E acc H1 hI S1
      rw [hRl, List.take_length] at hI
      refine ws_marks cs rfl S1 (pairs_keep (RM.keep S1.kp) hI) fun H2 S2 => ?_
      have S4 := (S2.base S'.kp).swap.tail
      have e : fl (Vbdcaf.endMarks s f).2 = ns.flatMap fun k => [(4 : Int), ((k : Nat) : Int)] := by rw [← hns]; exact fl_marks _
      rw [← e] at S4
      exact k _ _ S4
/-- the numbers of the marks that a test picks -/
theorem lc_nums {B H : Hp} {p : Addr} {L : Lay} {s : State} {ex : List (Addr × HO)} {σ : L2.St} {Q : VK} {i : Nat} {tt : TT} (f : Vbdcaf.Mark → Bool) (cs : CsOk K C) (S : Sd K C B H p L s ex) (hml : s.marks.length ≤ 1000) (hi : i < σ.length)
    (test : ∀ v m H1 ex' QB, m ∈ s.marks → RM C H v m → Sd K C H H1 p L s ex' → (∀ H2, Sd K C H H2 p L s ex' → QB (f m) H2) → tt (σ.set i (some v)) H1 QB)
    (fin : ∀ E H1, Sd K C B H1 p L s ((E, .lst (nats ((s.marks.filter f).map (·.num)))) :: ex) → Q (.ref E) H1) : LcS K (gName i) tt (tFld K (tVar i) "number") [i] σ (.ref (L.a 9)) H Q := by
  have S0 := S.rebase
  have hR := S.rep.mksR
  have hRl := Paired.length hR
  refine lc_sd (fun j acc _ => acc = nats (((s.marks.take j).filter f).map (·.num))) S0 (SqL.of S0.rep.mks) (fun H1 E acc S1 => SqL.of S1.rep.mks) (fun _ _ => rfl) ?_ ?_
  · intro j x acc H1 E hx hj hI S1
    obtain ⟨m, hm, M⟩ := paired_get hR hx
    have hjl : j < (L.v 9).length := (List.getElem?_eq_some_iff.mp hx).1
    refine test x m H1 _ _ (List.mem_of_getElem? hm) M S1 fun H2 S2 => ?_
    cases q : f m with
    | true =>
      refine iteT ?_
      refine rdM_number cs (by rw [List.getElem?_set_self hi]) S2 M ?_
      refine lc_yes S2 hj (by rw [sizeLine_eq]; omega) fun H3 _ => ?_
      rw [take_snoc hm, List.filter_append, List.map_append, List.filter_cons, if_pos q, hI]
      unfold nats
      rw [List.map_append]
      rfl
    | false =>
      refine iteF ?_
      refine lc_no S2 hj ?_
      rw [take_snoc hm, List.filter_append, List.filter_cons, if_neg (by rw [q]; decide), List.filter_nil, List.append_nil]
      exact hI
  · intro E acc H1 hI S1
    rw [hRl, List.take_length] at hI
    subst hI
    exact fin E H1 (S1.base S.kp)
abbrev sp_end_marks_of_till (K : PySem.W.Frag) (C : Cs) : Sp := fun vs H Q _ => ∃ B p L s ex i t xs, vs = [.ref p, .int ((i : Nat) : Int), .ref t] ∧ (s.marks.map (·.num)).Nodup ∧ s.marks.length ≤ 1000 ∧ Sd K C B H p L s ((t, .lst (tin xs)) :: ex) ∧ xs.length + 2 * (Vbdcaf.endMarks s fun m => m.till == i).2.length ≤ sizeLine ∧
  ∀ H' L', Sd K C B H' p L' (Vbdcaf.endMarks s fun m => m.till == i).1 ((t, .lst (tin (xs ++ fl (Vbdcaf.endMarks s fun m => m.till == i).2))) :: ex) → Q .non H'
theorem ok_end_marks_of_till (T : Txt K mg C) : OkF P w K mg base 2 "end_marks_of_till" ["duel", "till", "told"] (sp_end_marks_of_till K C) := by
  refine T.h_end_marks_of_till.ok sc_end_marks_of_till (fun vs H Q E h => ?_) (fun f cdv A outer s0 H vs Q E hr h => ?_)
  · obtain ⟨B, p, L, s, ex, i, t, xs, rfl, _⟩ := h; rfl
  obtain ⟨B, p, L, s, ex, i, t, xs, rfl, nd, hml, S, hz, k⟩ := h
  have cs := T.cs
  refine ⟨_, (pss_one (ps_expr (pe_fn (ok_end_marks (K := K) T) (hr.mono (by decide)) (by rfl) (pa_cons (pv 0) (pa_cons (pe_lc rfl sc_end_marks_of_till.nd (pi_listK K (pe_fldK K (pv 0) rfl)) (own := [("mark", 3)]) (blkOk_by (show blkC ["duel", "till", "told", "mark"] (defScope s_end_marks_of_till) _ _ = true by decide +kernel)) (fun _ _ _ _ _ => pg_name (i := 3) sc_end_marks_of_till.nd rfl (by first | exact Or.inl rfl | exact Or.inr rfl)) (fun _ _ _ _ _ => (pts_one (pt_cmpR op_eq (pe_fldK K (pv 3) rfl) (pv 1) (nomark _)))) (fun _ _ _ _ _ => (pe_fldK K (pv 3) rfl))) (pa_cons (pv 2) pa_nil)))))), ?_⟩
  walk_at "rds"
  refine lc_nums (fun m => m.till == i) cs S hml (Nat.le_of_ble_eq_true rfl) ?_ ?_
  · intro v m H1 ex' QB hm M S1 h
    walk_at "rds"
    have e : (decide ((m.till : Int) = (i : Int))) = (m.till == i) := by grind
    rw [e]
    exact h _ S1
  · intro E H1 S1
    walk_at "rds"
    refine ⟨B, p, L, s, ex, E, t, xs, _, rfl, nd, hml, S1, ?_, k⟩
    have e : (Vbdcaf.endMarks s fun m => m.till == i).2.length = (s.marks.filter fun m => m.till == i).length := List.length_map _
    rw [e] at hz
    exact hz
section
variable (a b c d : V)
theorem pI1 : putF ("number" : Str) a [] = ([("number", a)] : List (Str × V)) := by kernel_rfl
theorem pI2 : putF ("side" : Str) b [("number", a)] = ([("number", a), ("side", b)] : List (Str × V)) := by kernel_rfl
theorem pI3 : putF ("shuts" : Str) c [("number", a), ("side", b)] = ([("number", a), ("side", b), ("shuts", c)] : List (Str × V)) := by kernel_rfl
theorem pM2 : putF ("till" : Str) b [("number", a)] = ([("number", a), ("till", b)] : List (Str × V)) := by kernel_rfl
theorem pM3 : putF ("side" : Str) c [("number", a), ("till", b)] = ([("number", a), ("till", b), ("side", c)] : List (Str × V)) := by kernel_rfl
theorem pM4 : putF ("step" : Str) d [("number", a), ("till", b), ("side", c)] = ([("number", a), ("till", b), ("side", c), ("step", d)] : List (Str × V)) := by kernel_rfl
theorem pL2 : putF ("owner" : Str) b [("number", a)] = ([("number", a), ("owner", b)] : List (Str × V)) := by kernel_rfl
theorem pL3 : putF ("side" : Str) c [("number", a), ("owner", b)] = ([("number", a), ("owner", b), ("side", c)] : List (Str × V)) := by kernel_rfl
theorem pL4 : putF ("step" : Str) d [("number", a), ("owner", b), ("side", c)] = ([("number", a), ("owner", b), ("side", c), ("step", d)] : List (Str × V)) := by kernel_rfl
end
abbrev spc_Item (K : PySem.W.Frag) (C : Cs) : Sp := fun vs H Q _ => ∃ x dx a b c, vs = [.ref x, a, b, c] ∧ H x = some (.ins C.item dx []) ∧ ∀ H', H' x = some (.ins C.item dx [("number", a), ("side", b), ("shuts", c)]) → (∀ z o, H z = some o → z ≠ x → H' z = some o) → Q .non H'
theorem okc_Item (T : Txt K mg C) : OkC P w K mg base 1 "Item" ["self", "number", "side", "shuts"] C.item (spc_Item K C) := by
  refine T.k_Item.ok sc_Item (fun vs H Q E h => ?_) (fun f cdv A outer s0 H vs Q E hr h => ?_)
  · obtain ⟨x, dx, a, b, c, rfl, _⟩ := h; rfl
  obtain ⟨x, dx, a, b, c, rfl, hx, k⟩ := h
  have cs := T.cs
  refine ⟨_, (pss_cons (ps_fldK K (pv 0) (pv 1) rfl)
      (pss_cons (ps_fldK K (pv 0) (pv 2) rfl)
      (pss_one (ps_fldK K (pv 0) (pv 3) rfl)))), ?_⟩
  walk_at "rds"
  refine put_ins rfl hx cs.c_item cs.nI_number (Nat.le_of_ble_eq_true rfl) ?_
  rw [pI1]
  walk_at "rds"
  refine put_ins rfl upd_same cs.c_item cs.nI_side (Nat.le_of_ble_eq_true rfl) ?_
  rw [pI2]
  walk_at "rds"
  refine put_ins rfl upd_same cs.c_item cs.nI_shuts (Nat.le_of_ble_eq_true rfl) ?_
  rw [pI3]
  exact k _ upd_same fun z o e h => by rw [upd_ne h, upd_ne h, upd_ne h]; exact e
theorem mk_item {B H : Hp} {p : Addr} {L : Lay} {s : State} {ex : List (Addr × HO)} {Q : VK} {E : XK} {z1 z2 : Int} {b : Bool} (it : Vbdcaf.Item) (S : Sd K C B H p L s ex) (e1 : z1 = (it.num : Int)) (e2 : z2 = (it.side : Int)) (e3 : b = it.shut) (h : ∀ a H', Sd K C B H' p L s ex → RI C H' (.ref a) it → Q (.ref a) H') : NewO C.item (spc_Item K C) E [.int z1, .int z2, .bl b] H Q := by
  subst e1 e2 e3
  intro x dx hx hdx hne
  refine ⟨x, dx, _, _, _, rfl, upd_same, fun H' h1 h2 => ⟨rfl, ?_⟩⟩
  exact h x H' (S.same (same_made hx hdx h2)) ⟨x, dx, rfl, h1⟩
abbrev spc_Mark (K : PySem.W.Frag) (C : Cs) : Sp := fun vs H Q _ => ∃ x dx a b c d, vs = [.ref x, a, b, c, d] ∧ H x = some (.ins C.mark dx []) ∧ ∀ H', H' x = some (.ins C.mark dx [("number", a), ("till", b), ("side", c), ("step", d)]) → (∀ z o, H z = some o → z ≠ x → H' z = some o) → Q .non H'
theorem okc_Mark (T : Txt K mg C) : OkC P w K mg base 1 "Mark" ["self", "number", "till", "side", "step"] C.mark (spc_Mark K C) := by
  refine T.k_Mark.ok sc_Mark (fun vs H Q E h => ?_) (fun f cdv A outer s0 H vs Q E hr h => ?_)
  · obtain ⟨x, dx, a, b, c, d, rfl, _⟩ := h; rfl
  obtain ⟨x, dx, a, b, c, d, rfl, hx, k⟩ := h
  have cs := T.cs
  refine ⟨_, (pss_cons (ps_fldK K (pv 0) (pv 1) rfl)
      (pss_cons (ps_fldK K (pv 0) (pv 2) rfl)
      (pss_cons (ps_fldK K (pv 0) (pv 3) rfl)
      (pss_one (ps_fldK K (pv 0) (pv 4) rfl))))), ?_⟩
  walk_at "rds"
  refine put_ins rfl hx cs.c_mark cs.nM_number (Nat.le_of_ble_eq_true rfl) ?_
  rw [pI1]
  walk_at "rds"
  refine put_ins rfl upd_same cs.c_mark cs.nM_till (Nat.le_of_ble_eq_true rfl) ?_
  rw [pM2]
  walk_at "rds"
  refine put_ins rfl upd_same cs.c_mark cs.nM_side (Nat.le_of_ble_eq_true rfl) ?_
  rw [pM3]
  walk_at "rds"
  refine put_ins rfl upd_same cs.c_mark cs.nM_step (Nat.le_of_ble_eq_true rfl) ?_
  rw [pM4]
  exact k _ upd_same fun z o e h => by rw [upd_ne h, upd_ne h, upd_ne h, upd_ne h]; exact e
theorem mk_mark {B H : Hp} {p : Addr} {L : Lay} {s : State} {ex : List (Addr × HO)} {Q : VK} {E : XK} {z1 z2 z3 z4 : Int} (m : Vbdcaf.Mark) (S : Sd K C B H p L s ex) (e1 : z1 = (m.num : Int)) (e2 : z2 = (m.till : Int)) (e3 : z3 = (m.side : Int)) (e4 : z4 = (m.step : Int)) (h : ∀ a H', Sd K C B H' p L s ex → RM C H' (.ref a) m → Q (.ref a) H') : NewO C.mark (spc_Mark K C) E [.int z1, .int z2, .int z3, .int z4] H Q := by
  subst e1 e2 e3 e4
  intro x dx hx hdx hne
  refine ⟨x, dx, _, _, _, _, rfl, upd_same, fun H' h1 h2 => ⟨rfl, ?_⟩⟩
  exact h x H' (S.same (same_made hx hdx h2)) ⟨x, dx, rfl, h1⟩
abbrev spc_Delayed (K : PySem.W.Frag) (C : Cs) : Sp := fun vs H Q _ => ∃ x dx a b c d, vs = [.ref x, a, b, c, d] ∧ H x = some (.ins C.del dx []) ∧ ∀ H', H' x = some (.ins C.del dx [("number", a), ("owner", b), ("side", c), ("step", d)]) → (∀ z o, H z = some o → z ≠ x → H' z = some o) → Q .non H'
theorem okc_Delayed (T : Txt K mg C) : OkC P w K mg base 1 "Delayed" ["self", "number", "owner", "side", "step"] C.del (spc_Delayed K C) := by
  refine T.k_Delayed.ok sc_Delayed (fun vs H Q E h => ?_) (fun f cdv A outer s0 H vs Q E hr h => ?_)
  · obtain ⟨x, dx, a, b, c, d, rfl, _⟩ := h; rfl
  obtain ⟨x, dx, a, b, c, d, rfl, hx, k⟩ := h
  have cs := T.cs
  refine ⟨_, (pss_cons (ps_fldK K (pv 0) (pv 1) rfl)
      (pss_cons (ps_fldK K (pv 0) (pv 2) rfl)
      (pss_cons (ps_fldK K (pv 0) (pv 3) rfl)
      (pss_one (ps_fldK K (pv 0) (pv 4) rfl))))), ?_⟩
  walk_at "rds"
  refine put_ins rfl hx cs.c_del cs.nL_number (Nat.le_of_ble_eq_true rfl) ?_
  rw [pI1]
  walk_at "rds"
  refine put_ins rfl upd_same cs.c_del cs.nL_owner (Nat.le_of_ble_eq_true rfl) ?_
  rw [pL2]
  walk_at "rds"
  refine put_ins rfl upd_same cs.c_del cs.nL_side (Nat.le_of_ble_eq_true rfl) ?_
  rw [pL3]
  walk_at "rds"
  refine put_ins rfl upd_same cs.c_del cs.nL_step (Nat.le_of_ble_eq_true rfl) ?_
  rw [pL4]
  exact k _ upd_same fun z o e h => by rw [upd_ne h, upd_ne h, upd_ne h, upd_ne h]; exact e
theorem mk_delay {B H : Hp} {p : Addr} {L : Lay} {s : State} {ex : List (Addr × HO)} {Q : VK} {E : XK} {z1 z2 z3 z4 : Int} (m : Vbdcaf.Delay) (S : Sd K C B H p L s ex) (e1 : z1 = (m.num : Int)) (e2 : z2 = (m.owner : Int)) (e3 : z3 = (m.side : Int)) (e4 : z4 = (m.step : Int)) (h : ∀ a H', Sd K C B H' p L s ex → RL C H' (.ref a) m → Q (.ref a) H') : NewO C.del (spc_Delayed K C) E [.int z1, .int z2, .int z3, .int z4] H Q := by
  subst e1 e2 e3 e4
  intro x dx hx hdx hne
  refine ⟨x, dx, _, _, _, _, rfl, upd_same, fun H' h1 h2 => ⟨rfl, ?_⟩⟩
  exact h x H' (S.same (same_made hx hdx h2)) ⟨x, dx, rfl, h1⟩
abbrev sp_as_turn_begins (K : PySem.W.Frag) (C : Cs) : Sp := fun vs H Q _ => ∃ B p L s ex v m a, vs = [v, .int ((a : Nat) : Int)] ∧ Sd K C B H p L s ex ∧ RM C B v m ∧ ∀ u H', Sd K C B H' p L s ex → RM C H' u (if m.till = 4 ∧ m.side = a then { m with till := 2 } else m) → Q u H'
theorem ok_as_turn_begins (T : Txt K mg C) : OkF P w K mg base 3 "as_turn_begins" ["mark", "side"] (sp_as_turn_begins K C) := by
  refine T.h_as_turn_begins.ok sc_as_turn_begins (fun vs H Q E h => ?_) (fun f cdv A outer s0 H vs Q E hr h => ?_)
  · obtain ⟨B, p, L, s, ex, v, m, a, rfl, _⟩ := h; rfl
  obtain ⟨B, p, L, s, ex, v, m, a, rfl, S, M, k⟩ := h
  have cs := T.cs
  refine ⟨_, (pss_cons (ps_if ((pw_and (pt_cmpR op_eq (pe_fldK K (pv 0) rfl) (pe_gl (by rfl) T.g_TILL_DUSK_OF_OWN_TURN) (nomark _)) (pw_and1 (pt_cmpR op_eq (pe_fldK K (pv 0) rfl) (pv 1) (nomark _))))).pt (pss_one (ps_ret (pe_mk (okc_Mark (K := K) T) (hr.mono (by decide)) (by rfl) (pa_cons (pe_fldK K (pv 0) rfl) (pa_cons (pe_gl (by rfl) T.g_TILL_DUSK) (pa_cons (pe_fldK K (pv 0) rfl) (pa_cons (pe_fldK K (pv 0) rfl) pa_nil))))))) pss_nil)
      (pss_one (ps_ret (pv 0)))), ?_⟩
  walk_at "rdp"
  · refine mk_mark { m with till := 2 } S rfl rfl rfl rfl fun u H' S' M' => ?_
    refine k _ _ S' ?_
    rw [if_pos ⟨by omega, by omega⟩]
    exact M'
  · refine k _ _ S ?_
    rw [if_neg (by omega)]
    exact RM.keep S.kp M
  · refine k _ _ S ?_
    rw [if_neg (by omega)]
    exact RM.keep S.kp M
open MA
abbrev sp_bring_things (K : PySem.W.Frag) (C : Cs) : Sp := fun vs H Q _ => ∃ B p L s ex i t xs, vs = [.ref p, .int ((i : Nat) : Int), .ref t] ∧ WF s ∧ Sd K C B H p L s ((t, .lst (tin xs)) :: ex) ∧ xs.length + 2 * (Vbdcaf.fire s i).2.length ≤ sizeLine ∧
  ∀ H' L', Sd K C B H' p L' (Vbdcaf.fire s i).1 ((t, .lst (tin (xs ++ fl (Vbdcaf.fire s i).2))) :: ex) → Q .non H'
theorem Sd.d1 {B H : Hp} {p : Addr} {L : Lay} {s : State} {ex : List (Addr × HO)} {e f : Addr × HO} (S : Sd K C B H p L s (e :: f :: ex)) : Sd K C B H p L s (e :: ex) := S.swap.tail
/-- told.extend([x, y]) with y a natural number -/
theorem tell2 {B H : Hp} {p : Addr} {L : Lay} {s : State} {ex : List (Addr × HO)} {Q : VK} {t b : Addr} {xs : List Int} {z1 z2 : Int} (e : Ev) (S : Sd K C B H p L s ((b, .lst [.int z1, .int z2]) :: (t, .lst (tin xs)) :: ex)) (e1 : z1 = (e.sort : Int)) (e2 : z2 = (e.what : Int)) (hz : xs.length + 2 ≤ sizeLine) (h : ∀ H2, Sd K C B H2 p L s ((t, .lst (tin (xs ++ fl [e]))) :: ex) → Q .non H2) : rExtend (.ref t) [.ref b] H Q := by
  subst e1 e2
  refine ext_tell S (by rw [len_tin]; exact hz) fun H2 S2 => h H2 (S2.castE ?_)
  rw [tin_app]
  rfl
/-- the list of those that a test picks -/
theorem lc_filt {α : Type} {B H : Hp} {p a : Addr} {L : Lay} {s : State} {ex : List (Addr × HO)} {σ : L2.St} {Q : VK} {i : Nat} {tt : TT} {R : V → α → Prop} {ws : List V} {ds : List α} (f : α → Bool) (S : Sd K C B H p L s ex) (hs : SqL K H a ws) (src : ∀ H1 E acc, Sd K C B H1 p L s ((E, .lst acc) :: ex) → SqL K H1 a ws) (hR : Paired R ws ds) (hml : ds.length ≤ 1000) (hi : i < σ.length)
    (test : ∀ v m H1 ex' QB, m ∈ ds → R v m → Sd K C B H1 p L s ex' → (∀ H2, Sd K C B H2 p L s ex' → QB (f m) H2) → tt (σ.set i (some v)) H1 QB)
    (fin : ∀ E us H1, Paired R us (ds.filter f) → Sd K C B H1 p L s ((E, .lst us) :: ex) → Q (.ref E) H1) : LcS K (gName i) tt (tVar i) [i] σ (.ref a) H Q := by
  have hRl := Paired.length hR
  refine lc_sd (fun j acc _ => Paired R acc ((ds.take j).filter f)) S hs src (fun _ _ => .nil) ?_ ?_
  · intro j x acc H1 E hx hj hI S1
    obtain ⟨m, hm, M⟩ := paired_get hR hx
    have hjl : j < ws.length := (List.getElem?_eq_some_iff.mp hx).1
    refine test x m H1 _ _ (List.mem_of_getElem? hm) M S1 fun H2 S2 => ?_
    cases q : f m with
    | true =>
      refine iteT ?_
      refine w_var (by rw [List.getElem?_set_self hi]) ?_
      refine lc_yes S2 hj (by rw [sizeLine_eq]; omega) fun H3 _ => ?_
      rw [take_snoc hm, List.filter_append, List.filter_cons, if_pos q]
      exact pairs_app hI (.cons M .nil)
    | false =>
      refine iteF ?_
      refine lc_no S2 hj ?_
      rw [take_snoc hm, List.filter_append, List.filter_cons, if_neg (by rw [q]; decide), List.filter_nil, List.append_nil]
      exact hI
  · intro E acc H1 hI S1
    rw [hRl, List.take_length] at hI
    exact fin E acc H1 hI S1
def toItem (d : Vbdcaf.Delay) : Vbdcaf.Item := { num := d.num, side := d.owner }
def toEv (d : Vbdcaf.Delay) : Ev := { sort := 5, what := d.num }
theorem fire_is (s : State) (k : Nat) : Vbdcaf.fire s k = ({ s with delays := s.delays.filter (fun d => !(d.step == k && (d.side == 2 || d.side == s.active))), stack := ((comes s k).map toItem).reverse ++ s.stack, put := s.put + (comes s k).length }, (comes s k).map toEv) := rfl
theorem comes_is (s : State) (k : Nat) : comes s k = ((s.delays.filter fun d => d.step == k && (d.side == 2 || d.side == s.active)).filter fun d => d.owner == s.active) ++ (s.delays.filter fun d => d.step == k && (d.side == 2 || d.side == s.active)).filter fun d => d.owner != s.active := by
  unfold comes
  rw [List.filter_filter, List.filter_filter]
  dsimp only
  congr 1 <;> (refine List.filter_congr fun d _ => ?_; exact Bool.and_comm _ _)
theorem cat_sd {B H : Hp} {p : Addr} {L : Lay} {s : State} {ex : List (Addr × HO)} {Q : VK} {a b : Addr} {xs ys : List V} (S : Sd K C B H p L s ((b, .lst ys) :: (a, .lst xs) :: ex)) (hz : xs.length + ys.length ≤ sizeLine) (k : ∀ l H2, Sd K C B H2 p L s ((l, .lst (xs ++ ys)) :: ex) → Q (.ref l) H2) : rCat (.ref a) (.ref b) H Q :=
  ⟨a, b, xs, ys, rfl, rfl, S.at1, S.at0, hz, fun l hl => k l _ (S.alloc hl).swap.tail.swap.tail⟩
theorem ok_bring_things (T : Txt K mg C) : OkF P w K mg base 3 "bring_things" ["duel", "step", "told"] (sp_bring_things K C) := by
  refine T.h_bring_things.ok sc_bring_things (fun vs H Q E h => ?_) (fun f cdv A outer s0 H vs Q E hr h => ?_)
  · obtain ⟨B, p, L, s, ex, i, t, xs, rfl, _⟩ := h; rfl
  obtain ⟨B, p, L, s, ex, i, t, xs, rfl, W, S, hz, k⟩ := h
  have cs := T.cs
  refine ⟨_, (pss_cons (ps_setLc (i := 3) rfl sc_bring_things.nd rfl rfl rfl (pi_listK K (pe_fldK K (pv 0) rfl)) (own := [("thing", 6)]) (blkOk_by (show blkC ["duel", "step", "told", "due", "own", "others", "thing"] (defScope s_bring_things) _ _ = true by decide +kernel)) (fun _ _ _ _ _ => pg_name (i := 6) sc_bring_things.nd rfl (by first | exact Or.inl rfl | exact Or.inr rfl)) (fun _ _ _ _ _ => (pts_one (pt_val (pe_fn (ok_is_due (K := K) T) (hr.mono (by decide)) (by rfl) (pa_cons (pv 6) (pa_cons (pv 1) (pa_cons (pe_fldK K (pv 0) rfl) pa_nil))))))) (fun _ _ _ _ _ => (pv 6)))
      (pss_cons (ps_fldK K (pv 0) (pe_lc rfl sc_bring_things.nd (pi_listK K (pe_fldK K (pv 0) rfl)) (own := [("thing", 6)]) (blkOk_by (show blkC ["duel", "step", "told", "due", "own", "others", "thing"] (defScope s_bring_things) _ _ = true by decide +kernel)) (fun _ _ _ _ _ => pg_name (i := 6) sc_bring_things.nd rfl (by first | exact Or.inl rfl | exact Or.inr rfl)) (fun _ _ _ _ _ => (pts_one (pt_not (pt_val (pe_fn (ok_is_due (K := K) T) (hr.mono (by decide)) (by rfl) (pa_cons (pv 6) (pa_cons (pv 1) (pa_cons (pe_fldK K (pv 0) rfl) pa_nil)))))))) (fun _ _ _ _ _ => (pv 6))) rfl)
      (pss_cons (ps_setLc (i := 4) rfl sc_bring_things.nd rfl rfl rfl (pi_listK K (pv 3)) (own := [("thing", 6)]) (blkOk_by (show blkC ["duel", "step", "told", "due", "own", "others", "thing"] (defScope s_bring_things) _ _ = true by decide +kernel)) (fun _ _ _ _ _ => pg_name (i := 6) sc_bring_things.nd rfl (by first | exact Or.inl rfl | exact Or.inr rfl)) (fun _ _ _ _ _ => (pts_one (pt_cmpR op_eq (pe_fldK K (pv 6) rfl) (pe_fldK K (pv 0) rfl) (nomark _)))) (fun _ _ _ _ _ => (pv 6)))
      (pss_cons (ps_setLc (i := 5) rfl sc_bring_things.nd rfl rfl rfl (pi_listK K (pv 3)) (own := [("thing", 6)]) (blkOk_by (show blkC ["duel", "step", "told", "due", "own", "others", "thing"] (defScope s_bring_things) _ _ = true by decide +kernel)) (fun _ _ _ _ _ => pg_name (i := 6) sc_bring_things.nd rfl (by first | exact Or.inl rfl | exact Or.inr rfl)) (fun _ _ _ _ _ => (pts_one (pt_cmpR op_ne (pe_fldK K (pv 6) rfl) (pe_fldK K (pv 0) rfl) (nomark _)))) (fun _ _ _ _ _ => (pv 6)))
      (pss_one (ps_for PassesOwn.never rfl (pi_listK K (pe_op op_cat (pv 4) (pv 5))) (pg_name (i := 6) sc_bring_things.nd rfl (by first | exact Or.inl rfl | exact Or.inr rfl)) (pss_cons (ps_expr (pe_bmK K PySem.F.plainAttrs_list PySem.F.slot_list_extend PySem.F.type_list_extend mt_extend (pv 2) (pa_cons (pe_lst (pa_cons (pe_gl (by rfl) T.g_THING_COMES) (pa_cons (pe_fldK K (pv 6) rfl) pa_nil))) pa_nil)))
      (pss_one (ps_expr (pe_fn (ok_put_on_stack (K := K) T) (hr.mono (by decide)) (by rfl) (pa_cons (pv 0) (pa_cons (pe_mk (okc_Item (K := K) T) (hr.mono (by decide)) (by rfl) (pa_cons (pe_fldK K (pv 6) rfl) (pa_cons (pe_fldK K (pv 6) rfl) (pa_cons pe_bl pa_nil)))) pa_nil)))))))))))), ?_⟩
  let now : Vbdcaf.Delay → Bool := fun d => d.step == i && (d.side == 2 || d.side == s.active)
  have hth := W.things
  have hdl : s.delays.length ≤ 1000 := by omega
  have S0 := S.rebase
  have hR := S0.rep.dlsR
  have hcl : (comes s i).length ≤ 64 := by
    have := (comes_perm s i).length_eq
    rw [List.length_append] at this
    omega
  rw [fire_is, List.length_map] at hz
  rw [fire_is] at k
  dsimp only at hz k
  walk_at "rds"
  refine lc_filt now S0 (SqL.of S0.rep.dls) (fun H1 E acc S1 => SqL.of S1.rep.dls) hR hdl (Nat.le_of_ble_eq_true rfl) ?_ ?_
  · skip
    intro v m H1 ex' QB hm M S1 hq
    walk_at "rds"
    refine ⟨_, _, _, _, _, _, m, i, _, rfl, S1, M, fun H2 S2 => ?_⟩
    walk_at "rds"
    exact hq _ S2
  intro E1 u1 H1 hR1 S1
  walk_at "rds"
  refine lc_filt (fun d => !now d) S1 (SqL.of S1.rep.dls) (fun H1 E acc S1 => SqL.of S1.rep.dls) hR hdl (Nat.le_of_ble_eq_true rfl) ?_ ?_
  · skip
    intro v m H1 ex' QB hm M S1 hq
    walk_at "rds"
    refine ⟨_, _, _, _, _, _, m, i, _, rfl, S1, M, fun H2 S2 => ?_⟩
    walk_at "rds"
    exact hq _ S2
  intro E2 u2 H2 hR2 S2
  refine ws_delayed cs rfl S2 (pairs_keep (RL.keep S2.kp) hR2) fun H3 S3 => ?_
  have hl1 : (s.delays.filter now).length ≤ 1000 := Nat.le_trans (List.length_filter_le _ _) hdl
  walk_at "rds"
  refine lc_filt (fun d => d.owner == s.active) S3 (SqL.of S3.at0) (fun H1 E acc S1 => SqL.of S1.at1) hR1 hl1 (Nat.le_of_ble_eq_true rfl) ?_ ?_
  · intro v m H1 ex' QB hm M S1 hq
    walk_at "rds"
    have e : decide ((m.owner : Int) = (s.active : Int)) = (m.owner == s.active) := by grind
    refine (congrArg (fun b => QB b H1) e).mpr (hq _ S1)
  intro E4 u4 H4 hR4 S4
  walk_at "rds"
  refine lc_filt (fun d => d.owner != s.active) S4 (SqL.of S4.at1) (fun H1 E acc S1 => SqL.of S1.at2) hR1 hl1 (Nat.le_of_ble_eq_true rfl) ?_ ?_
  · intro v m H1 ex' QB hm M S1 hq
    walk_at "rds"
    have e : (!decide ((m.owner : Int) = (s.active : Int))) = (m.owner != s.active) := by grind
    refine (congrArg (fun b => QB b H1) e).mpr (hq _ S1)
  intro E5 u5 H5 hR5 S5
  have hR6 : Paired (RL C H) (u4 ++ u5) (comes s i) := by
    rw [comes_is]
    exact pairs_app hR4 hR5
  have hul := Paired.length hR6
  walk_at "rds"
  refine cat_sd S5 (by rw [List.length_append] at hul; rw [sizeLine_eq]; omega) fun E6 H6 S6 => ?_
  have S7 := S6.d1.swap
  refine ⟨_, rfl, ⟨_, SqL.of S6.at0⟩, for_list (K := K) (a := E6) (xs := u4 ++ u5) (fun j σ' H' => ∃ v L', σ' = [some (.ref p), some (.int (i : Int)), some (.ref t), some (.ref E1), some (.ref E4), some (.ref E5), v] ∧
      Sd K C H H' p L' { s with delays := s.delays.filter (fun d => !now d), stack := (((comes s i).take j).map toItem).reverse ++ s.stack, put := s.put + j } ((t, .lst (tin (xs ++ fl (((comes s i).take j).map toEv)))) :: (E6, .lst (u4 ++ u5)) :: ex))
    ⟨none, _, rfl, (S7.castE (by simp [fl]))⟩ (fun j σ' H' _ ⟨v, L', _, S'⟩ => SqL.of S'.at1) ?_ ?_⟩
  · rintro j x σ' H' hx ⟨v, L', rfl, S'⟩
    obtain ⟨d, hd, M⟩ := paired_get hR6 hx
    have hj : j < (comes s i).length := (List.getElem?_eq_some_iff.mp hd).1
    show tSeq _ _ _ _ _
    walk_at "rds"
    refine tell2 (toEv d) (by assumption) rfl rfl (by rw [List.length_append, len_fl, List.length_map, List.length_take]; omega) fun H8 S8 => ?_
    walk_at "rds"
    refine mk_item (toItem d) S8 rfl rfl rfl fun a9 H9 S9 M9 => ?_
    walk_at "rds"
    refine ⟨_, p, L', _, _, _, toItem d, rfl, S9, M9, by show ((((comes s i).take j).map toItem).reverse ++ s.stack).length < _; rw [List.length_append, List.length_reverse, List.length_map, List.length_take, sizeLine_eq]; omega, fun H10 L10 S10 => ?_⟩
    refine ⟨_, _, rfl, (Sd.castE (S10.cast ?_) ?_)⟩
    · rw [take_snoc hd, List.map_append, List.reverse_append]
      rfl
    · rw [take_snoc hd, List.map_append, fl_app, List.append_assoc]
      rfl
  · rintro σ' H' ⟨v, L', rfl, S'⟩
    rw [hul, List.take_length] at S'
    exact k _ _ (S'.base S.kp).d1
theorem nd_of {l : List Nat} (h : l.Pairwise (· < ·)) : l.Nodup := h.imp fun h => Nat.ne_of_lt h
abbrev sp_begin_step (K : PySem.W.Frag) (C : Cs) : Sp := fun vs H Q _ => ∃ B p L s ex i t xs, vs = [.ref p, .int ((i : Nat) : Int), .ref t] ∧ WF s ∧ i ≤ 10 ∧ Sd K C B H p L s ((t, .lst (tin xs)) :: ex) ∧ xs.length + 2 * (Vbdcaf.begins s i).2.length ≤ sizeLine ∧
  ∀ H' L', Sd K C B H' p L' (Vbdcaf.begins s i).1 ((t, .lst (tin (xs ++ fl (Vbdcaf.begins s i).2))) :: ex) → Q .non H'
theorem ok_begin_step (T : Txt K mg C) : OkF P w K mg base 4 "begin_step" ["duel", "step", "told"] (sp_begin_step K C) := by
  refine T.h_begin_step.ok sc_begin_step (fun vs H Q E h => ?_) (fun f cdv A outer s0 H vs Q E hr h => ?_)
  · obtain ⟨B, p, L, s, ex, i, t, xs, rfl, _⟩ := h; rfl
  obtain ⟨B, p, L, s, ex, i, t, xs, rfl, W, hi, S, hz, k⟩ := h
  have cs := T.cs
  refine ⟨_, (pss_cons (ps_fldK K (pv 0) (pv 1) rfl)
      (pss_cons (ps_expr (pe_bmK K PySem.F.plainAttrs_list PySem.F.slot_list_extend PySem.F.type_list_extend mt_extend (pv 2) (pa_cons (pe_lst (pa_cons (pe_gl (by rfl) T.g_STEP_BEGINS) (pa_cons (pv 1) pa_nil))) pa_nil)))
      (pss_cons (ps_if (pt_cmpR op_eq (pv 1) (pe_gl (by rfl) T.g_ATTACK) (nomark _)) (pss_cons (ps_fldK K (pv 0) pe_bl rfl)
      (pss_one (ps_fldK K (pv 0) pe_bl rfl))) pss_nil)
      (pss_cons (ps_expr (pe_fn (ok_end_marks (K := K) T) (hr.mono (by decide)) (by rfl) (pa_cons (pv 0) (pa_cons (pe_lc rfl sc_begin_step.nd (pi_listK K (pe_fldK K (pv 0) rfl)) (own := [("mark", 3)]) (blkOk_by (show blkC ["duel", "step", "told", "mark"] (defScope s_begin_step) _ _ = true by decide +kernel)) (fun _ _ _ _ _ => pg_name (i := 3) sc_begin_step.nd rfl (by first | exact Or.inl rfl | exact Or.inr rfl)) (fun _ _ _ _ _ => (pts_one (pt_val (pe_fn (ok_ends_at_step (K := K) T) (hr.mono (by decide)) (by rfl) (pa_cons (pv 3) (pa_cons (pv 1) (pa_cons (pe_fldK K (pv 0) rfl) pa_nil))))))) (fun _ _ _ _ _ => (pe_fldK K (pv 3) rfl))) (pa_cons (pv 2) pa_nil)))))
      (pss_one (ps_expr (pe_fn (ok_bring_things (K := K) T) (hr.mono (by decide)) (by rfl) (pa_cons (pv 0) (pa_cons (pv 1) (pa_cons (pv 2) pa_nil)))))))))), ?_⟩
  let s1 : State := { s with step := i, fights := s.fights && i != 4, firsts := s.firsts && i != 4 }
  let g : Vbdcaf.Mark → Bool := fun m => (m.till == 2 && i == Vbdcaf.DUSK) || (m.till == 5 && (m.side == s.active && m.step == i))
  have W1 : WF s1 := { W with stp := hi }
  have hz' : xs.length + 2 * (1 + (Vbdcaf.endMarks s1 g).2.length + (Vbdcaf.fire (Vbdcaf.endMarks s1 g).1 i).2.length) ≤ sizeLine := by
    have e : (Vbdcaf.begins s i).2.length = ((Vbdcaf.endMarks s1 g).2 ++ (Vbdcaf.fire (Vbdcaf.endMarks s1 g).1 i).2).length + 1 := rfl
    rw [e, List.length_append] at hz
    omega
  have hnum : (Vbdcaf.endMarks s1 g).2.length = (s1.marks.filter g).length := List.length_map _
  have hone : (fl [({ sort := 2, what := i } : Ev)]).length = 2 := rfl
  walk_at "rds"
  refine ws_step cs rfl S rfl fun H1 S1 => ?_
  walk_at "rds"
  refine tell2 { sort := 2, what := i } (by assumption) rfl rfl (by omega) fun H2 S2 => ?_
  walk_at "rds"
  refine w_ite (fun h => ?_) (fun h => ?_)
  · walk_at "rds"
    refine ws_fighting cs rfl S2 fun H3 S3 => ?_
    walk_at "rds"
    refine ws_first_blows cs rfl S3 fun H4 S4 => ?_
    have S5 : Sd K C B H4 p L s1 _ := S4.cast (by
      have e : i = 4 := by omega
      simp [s1, e])
    walk_at "rds"
    refine lc_nums g cs S5 (Nat.le_trans W1.marksL (by decide)) (Nat.le_of_ble_eq_true rfl) ?_ ?_
    · intro v m H1 ex' QB hm M S6 hq
      walk_at "rds"
      refine ⟨_, _, _, _, _, _, m, i, s1.active, rfl, S6, M, fun H7 S7 => ?_⟩
      walk_at "rds"
      exact hq _ S7
    · intro E H1 S6
      walk_at "rds"
      refine ⟨B, p, L, s1, ex, E, t, _, g, rfl, nd_of W1.mSort, Nat.le_trans W1.marksL (by decide), S6, by rw [List.length_append, hone]; omega, fun H7 L7 S7 => ?_⟩
      walk_at "rds"
      refine ⟨B, p, L7, _, ex, i, t, _, rfl, W1.endMarks g, S7, by rw [List.length_append, List.length_append, hone, len_fl]; omega, fun H8 L8 S8 => k _ _ (S8.castE ?_)⟩
      congr 1
      rw [List.append_assoc, List.append_assoc, ← fl_app, ← fl_app]
      rfl
  · have S5 : Sd K C B H2 p L s1 _ := S2.cast (by
      have e : (i != 4) = true := by simp; omega
      simp [s1, e])
    walk_at "rds"
    refine lc_nums g cs S5 (Nat.le_trans W1.marksL (by decide)) (Nat.le_of_ble_eq_true rfl) ?_ ?_
    · intro v m H1 ex' QB hm M S6 hq
      walk_at "rds"
      refine ⟨_, _, _, _, _, _, m, i, s1.active, rfl, S6, M, fun H7 S7 => ?_⟩
      walk_at "rds"
      exact hq _ S7
    · intro E H1 S6
      walk_at "rds"
      refine ⟨B, p, L, s1, ex, E, t, _, g, rfl, nd_of W1.mSort, Nat.le_trans W1.marksL (by decide), S6, by rw [List.length_append, hone]; omega, fun H7 L7 S7 => ?_⟩
      walk_at "rds"
      refine ⟨B, p, L7, _, ex, i, t, _, rfl, W1.endMarks g, S7, by rw [List.length_append, List.length_append, hone, len_fl]; omega, fun H8 L8 S8 => k _ _ (S8.castE ?_)⟩
      congr 1
      rw [List.append_assoc, List.append_assoc, ← fl_app, ← fl_app]
      rfl
open MA
open Vbdcaf (at_ bump drop1)
theorem modify_set {f : Nat → Nat} : ∀ {l : List Nat} {j : Nat}, j < l.length → l.modify j f = l.set j (f (at_ l j))
  | [], j, h => by simp at h
  | a :: r, 0, _ => by simp [at_]
  | a :: r, j + 1, h => by
    have ih := modify_set (f := f) (l := r) (j := j) (by simpa using h)
    simp [at_] at ih ⊢
    exact ih
theorem at_take {l : List Nat} {n i : Nat} (h : i < n) : at_ (l.take n) i = at_ l i := by
  unfold at_
  rw [List.getD_eq_getElem?_getD, List.getD_eq_getElem?_getD, List.getElem?_take_of_lt h]
theorem at_drop {l : List Nat} {n i : Nat} : at_ (l.drop n) i = at_ l (n + i) := by
  unfold at_
  rw [List.getD_eq_getElem?_getD, List.getD_eq_getElem?_getD, List.getElem?_drop]
section
variable {B H : Hp} {p : Addr} {L : Lay} {s : State} {ex : List (Addr × HO)} {Q : VK}
/-- the row of steps that side q skips -/
def skRow (s : State) (q : Nat) : List Nat := (s.skipSteps.drop (11 * q)).take 11
theorem skRow_len (hl : s.skipSteps.length = 22) {q : Nat} (hq : q ≤ 1) : (skRow s q).length = 11 := by
  unfold skRow
  rw [List.length_take, List.length_drop]
  omega
theorem at_skRow {q i : Nat} (hi : i < 11) : at_ (skRow s q) i = at_ s.skipSteps (11 * q + i) := by
  unfold skRow
  rw [at_take hi, at_drop]
theorem Sd.sk (S : Sd K C B H p L s ex) (hl : s.skipSteps.length = 22) {q : Nat} (hq : q ≤ 1) : H (L.a (6 + q)) = some (.lst (nats (skRow s q))) := by
  have hc : q = 0 ∨ q = 1 := by omega
  rcases hc with rfl | rfl
  · exact S.rep.s0
  · have e : skRow s 1 = s.skipSteps.drop 11 := by
      unfold skRow
      rw [List.take_of_length_le]
      rw [List.length_drop]
      omega
    rw [e]
    exact S.rep.s1
theorem ix_ss (S : Sd K C B H p L s ex) {z : Int} {q : Nat} (hz : z = (q : Int)) (hq : q ≤ 1) (h : Q (.ref (L.a (6 + q))) H) : rIxL K (.ref (L.a 5)) (.int z) H Q := by
  refine ⟨_, _, z, _, rfl, rfl, SqL.of S.rep.ss, at_of hz ?_, h⟩
  have hc : q = 0 ∨ q = 1 := by omega
  rcases hc with rfl | rfl <;> rfl
theorem Sd.wsk (S : Sd K C B H p L s ex) (hl : s.skipSteps.length = 22) {q i n : Nat} (hq : q ≤ 1) (hi : i < 11) : Sd K C B (upd H (L.a (6 + q)) (.lst (nats ((skRow s q).set i n)))) p L { s with skipSteps := s.skipSteps.set (11 * q + i) n } ex := by
  have hc : q = 0 ∨ q = 1 := by omega
  rcases hc with rfl | rfl
  · refine S.wr (i := 6) (by decide) (fun _ _ => rfl) (S.rep.wS0 ?_ ?_)
    · show nats ((s.skipSteps.take 11).set i n) = _
      rw [show 11 * 0 + i = i by omega, List.take_set]
    · rw [show 11 * 0 + i = i by omega, List.drop_set_of_lt hi]
  · have e : skRow s 1 = s.skipSteps.drop 11 := by
      unfold skRow
      rw [List.take_of_length_le]
      rw [List.length_drop]
      omega
    rw [e]
    refine S.wr (i := 7) (by decide) (fun _ _ => rfl) (S.rep.wS1 ?_ ?_)
    · rw [List.drop_set, if_neg (by omega)]
      congr 2
      omega
    · rw [List.take_set_of_le (by omega)]
theorem set_nats {a : Addr} {l : List Nat} {z y : Int} {i n : Nat} {N : Hp → Prop} (hl : H a = some (.lst (nats l))) (hz : z = (i : Int)) (hy : y = (n : Int)) (hi : i < l.length) (h : N (upd H a (.lst (nats (l.set i n))))) : rSetL (.ref a) (.int z) (.int y) H N := by
  subst hz hy
  refine ⟨a, _, _, i, rfl, rfl, hl, ?_, ?_⟩
  · unfold ixN
    rw [if_pos (by omega), if_pos (by rw [len_nats]; omega)]
    rfl
  · have e : (nats l).set i (.int ((n : Nat) : Int)) = nats (l.set i n) := by
      unfold nats
      rw [List.map_set]
    rw [e]
    exact h
end
abbrev sp_take_step (K : PySem.W.Frag) (C : Cs) : Sp := fun vs H Q _ => ∃ B p L s ex i r t xs, vs = [.ref p, .ref t] ∧ WF s ∧ s.rest = i :: r ∧ Sd K C B H p L s ((t, .lst (tin xs)) :: ex) ∧ xs.length + 2 * (tkStep s i r).2.2.length ≤ sizeLine ∧
  ∀ H' L', Sd K C B H' p L' (tkStep s i r).2.1 ((t, .lst (tin (xs ++ fl (tkStep s i r).2.2))) :: ex) → Q (.bl (tkStep s i r).1) H'
theorem ok_take_step (T : Txt K mg C) : OkF P w K mg base 5 "take_step" ["duel", "told"] (sp_take_step K C) := by
  refine T.h_take_step.ok sc_take_step (fun vs H Q E h => ?_) (fun f cdv A outer s0 H vs Q E hr h => ?_)
  · obtain ⟨B, p, L, s, ex, i, r, t, xs, rfl, _⟩ := h; rfl
  obtain ⟨B, p, L, s, ex, i, r, t, xs, rfl, W, hr1, S, hz, k⟩ := h
  have cs := T.cs
  refine ⟨_, (pss_cons (ps_set (i := 2) sc_take_step.nd rfl (by first | exact Or.inl rfl | exact Or.inr rfl) (pe_bmK K PySem.F.plainAttrs_list PySem.F.slot_list_pop PySem.F.type_list_pop mt_popAt (pe_fldK K (pv 0) rfl) (pa_cons pe_int pa_nil)))
      (pss_cons (ps_if (pt_val (pe_fn (ok_is_left_out (K := K) T) (hr.mono (by decide)) (by rfl) (pa_cons (pv 0) (pa_cons (pv 2) pa_nil)))) (pss_one (ps_ret pe_bl)) pss_nil)
      (pss_cons (ps_set (i := 3) sc_take_step.nd rfl (by first | exact Or.inl rfl | exact Or.inr rfl) (pe_ix (ix_listK K) (pe_fldK K (pv 0) rfl) (pe_fldK K (pv 0) rfl) (fun _ _ => rfl)))
      (pss_cons (ps_if (pt_cmpR op_gt (pe_ix (ix_listK K) (pv 3) (pv 2) (fun _ _ => rfl)) pe_int (nomark _)) (pss_cons (ps_augS (pv 3) (pv 2) (pget_listK K) pe_int ip_sub set_list)
      (pss_cons (ps_expr (pe_bmK K PySem.F.plainAttrs_list PySem.F.slot_list_extend PySem.F.type_list_extend mt_extend (pv 1) (pa_cons (pe_lst (pa_cons (pe_gl (by rfl) T.g_STEP_SKIPPED) (pa_cons (pv 2) pa_nil))) pa_nil)))
      (pss_one (ps_ret pe_bl)))) pss_nil)
      (pss_cons (ps_expr (pe_fn (ok_begin_step (K := K) T) (hr.mono (by decide)) (by rfl) (pa_cons (pv 0) (pa_cons (pv 2) (pa_cons (pv 1) pa_nil)))))
      (pss_cons (ps_if (pt_val (pe_fn (ok_is_asked_in (K := K) T) (hr.mono (by decide)) (by rfl) (pa_cons (pv 0) (pa_cons (pv 2) pa_nil)))) (pss_cons (ps_expr (pe_fn (ok_ask_active_side (K := K) T) (hr.mono (by decide)) (by rfl) (pa_cons (pv 0) pa_nil)))
      (pss_one (ps_ret pe_bl))) pss_nil)
      (pss_cons (ps_expr (pe_fn (ok_end_marks_of_till (K := K) T) (hr.mono (by decide)) (by rfl) (pa_cons (pv 0) (pa_cons (pe_gl (by rfl) T.g_TILL_STEP_ENDS) (pa_cons (pv 1) pa_nil)))))
      (pss_one (ps_ret pe_bl))))))))), ?_⟩
  let s1 : State := { s with rest := r }
  have hi : i ≤ 10 := W.rest i (by rw [hr1]; exact List.mem_cons_self)
  have W1 : WF s1 := { W with
    rest := fun j hj => W.rest j (by rw [hr1]; exact List.mem_cons_of_mem _ hj)
    restL := by have := W.restL; rw [hr1, List.length_cons] at this; show r.length ≤ 21; omega }
  walk_at "rds"
  refine pop_rest S hr1 fun H1 S1 => ?_
  walk_at "rds"
  refine ⟨B, p, L, s1, _, i, rfl, S1, fun H2 S2 => ?_⟩
  walk_at "rds"
  refine w_iteB (fun h => ?_) (fun h => ?_)
  · walk_at "rds"
    have e : tkStep s i r = (false, s1, []) := by unfold tkStep; dsimp only; rw [if_pos h]
    rw [e] at k
    exact k _ _ (S2.castE (by rw [show fl ([] : List Ev) = [] from rfl, List.append_nil]))
  · have hact := W1.act
    have hssl := W1.ssL
    walk_at "rds"
    refine ix_ss S2 rfl hact ?_
    walk_at "rds"
    have hrow := S2.sk hssl hact
    have hrl := skRow_len hssl hact
    refine ix_nats hrow rfl (by rw [hrl]; omega) ?_
    walk_at "rds"
    have hat : at_ (skRow s1 s1.active) i = at_ s1.skipSteps (11 * s1.active + i) := at_skRow (by omega)
    refine w_ite (fun h2 => ?_) (fun h2 => ?_)
    · have h3 : 0 < at_ s1.skipSteps (11 * s1.active + i) := by omega
      have e : tkStep s i r = (false, { s1 with skipSteps := drop1 s1.skipSteps (11 * s1.active + i) }, [{ sort := 6, what := i }]) := by unfold tkStep; dsimp only; rw [if_neg (by rw [h]; decide), if_pos h3]
      rw [e] at k hz
      walk_at "rds"
      refine ix_nats hrow rfl (by rw [hrl]; omega) ?_
      walk_at "rds"
      refine set_nats (n := at_ s1.skipSteps (11 * s1.active + i) - 1) hrow rfl (by omega) (by rw [hrl]; omega) ?_
      have S3 := S2.wsk hssl (n := at_ s1.skipSteps (11 * s1.active + i) - 1) hact (show i < 11 by omega)
      have ed : drop1 s1.skipSteps (11 * s1.active + i) = s1.skipSteps.set (11 * s1.active + i) (at_ s1.skipSteps (11 * s1.active + i) - 1) := modify_set (by omega)
      generalize upd H2 (L.a (6 + s1.active)) _ = H3 at S3 ⊢
      rw [← ed] at S3
      walk_at "rds"
      refine tell2 { sort := 6, what := i } (by assumption) rfl rfl hz fun H4 S4 => ?_
      walk_at "rds"
      exact k _ _ S4
    · have h3 : ¬ 0 < at_ s1.skipSteps (11 * s1.active + i) := by omega
      have e0 : tkStep s i r = (let x := Vbdcaf.begins s1 i; if Vbdcaf.asks x.1 = true then (true, { x.1 with holder := x.1.active, passes := 0 }, x.2) else (let y := Vbdcaf.endMarks x.1 Vbdcaf.till0; (false, y.1, x.2 ++ y.2))) := by
        show (if _ then _ else if _ then _ else _) = _
        rw [if_neg (by rw [h]; decide), if_neg h3]
      rw [e0] at k hz
      dsimp only at k hz
      have W2 := W1.begins hi
      have hz1 : xs.length + 2 * (Vbdcaf.begins s1 i).2.length ≤ sizeLine := by
        split at hz
        · exact hz
        · dsimp only at hz
          rw [List.length_append] at hz
          omega
      walk_at "rds"
      refine ⟨B, p, L, s1, ex, i, t, xs, rfl, W1, hi, S2, hz1, fun H3 L3 S3 => ?_⟩
      walk_at "rds"
      refine ⟨B, p, L3, _, _, i, rfl, rfl, S3, fun H4 S4 => ?_⟩
      walk_at "rds"
      refine w_iteB (fun h4 => ?_) (fun h4 => ?_)
      · rw [if_pos h4] at k
        walk_at "rds"
        refine ⟨B, p, L3, _, _, rfl, S4, fun H5 S5 => ?_⟩
        walk_at "rds"
        exact k _ _ S5
      · have h5 : ¬ Vbdcaf.asks (Vbdcaf.begins s1 i).1 = true := by rw [h4]; decide
        rw [if_neg h5] at k hz
        dsimp only at k hz
        rw [List.length_append] at hz
        walk_at "rds"
        refine ⟨B, p, L3, _, ex, 0, t, _, rfl, nd_of W2.mSort, Nat.le_trans W2.marksL (by decide), S4, ?_, fun H5 L5 S5 => ?_⟩
        · rw [List.length_append, len_fl]
          show _ + 2 * (Vbdcaf.endMarks _ Vbdcaf.till0).2.length ≤ _
          omega
        · walk_at "rds"
          refine k _ _ (S5.castE ?_)
          rw [List.append_assoc, ← fl_app]
          rfl
open MA
open Vbdcaf (at_ bump drop1)
section
variable {B H : Hp} {p : Addr} {L : Lay} {s : State} {ex : List (Addr × HO)} {Q : VK}
theorem ixT_nats {a : Addr} {l : List Nat} {k : Int} {n : Nat} (hl : SqT K H a (nats l)) (hk : k = (n : Int)) (hn : n < l.length) (h : Q (.int ((at_ l n : Nat) : Int)) H) : rIxT K (.ref a) (.int k) H Q := by
  refine ⟨a, _, k, _, rfl, rfl, hl, at_of hk ?_, h⟩
  unfold nats at_
  rw [List.getElem?_map, List.getElem?_eq_getElem hn, List.getD_eq_getElem?_getD, List.getElem?_eq_getElem hn]
  rfl
theorem list_sd {a : Addr} {xs : List V} (S : Sd K C B H p L s ex) (hs : SqL K H a xs ∨ SqT K H a xs) (k : ∀ l H2, Sd K C B H2 p L s ((l, .lst xs) :: ex) → Q (.ref l) H2) : rList K [.ref a] H Q := ⟨a, xs, rfl, hs, fun l hl => k l _ (S.alloc hl)⟩
theorem Sd.wst (S : Sd K C B H p L s ex) {r : List Nat} : Sd K C B (upd H (L.a 3) (.lst (nats r))) p L { s with skipTurns := r } ex := S.wr (by decide) (fun _ _ => rfl) (S.rep.wSt r)
theorem Sd.wsf (S : Sd K C B H p L s ex) {r : List Nat} : Sd K C B (upd H (L.a 4) (.lst (nats r))) p L { s with skipFights := r } ex := S.wr (by decide) (fun _ _ => rfl) (S.rep.wSf r)
theorem Sd.wts (S : Sd K C B H p L s ex) {r : List Nat} : Sd K C B (upd H (L.a 11) (.lst (nats r))) p L { s with turns := r } ex := S.wr (by decide) (fun _ _ => rfl) (S.rep.wTs r)
theorem drop1_set {l : List Nat} {j : Nat} (h : j < l.length) : drop1 l j = l.set j (at_ l j - 1) := modify_set h
theorem bump_set {l : List Nat} {j : Nat} (h : j < l.length) : bump l j = l.set j (at_ l j + 1) := modify_set h
end
abbrev sp_take_phase (K : PySem.W.Frag) (C : Cs) : Sp := fun vs H Q _ => ∃ B p L s ex ph l t xs, vs = [.ref p, .ref t] ∧ WF s ∧ s.later = ph :: l ∧ Sd K C B H p L s ((t, .lst (tin xs)) :: ex) ∧ xs.length + 2 * (tkPhase s ph l).2.length ≤ sizeLine ∧
  ∀ H' L', Sd K C B H' p L' (tkPhase s ph l).1 ((t, .lst (tin (xs ++ fl (tkPhase s ph l).2))) :: ex) → Q .non H'
theorem ok_take_phase (T : Txt K mg C) : OkF P w K mg base 1 "take_phase" ["duel", "told"] (sp_take_phase K C) := by
  refine T.h_take_phase.ok sc_take_phase (fun vs H Q E h => ?_) (fun f cdv A outer s0 H vs Q E hr h => ?_)
  · obtain ⟨B, p, L, s, ex, ph, l, t, xs, rfl, _⟩ := h; rfl
  obtain ⟨B, p, L, s, ex, ph, l, t, xs, rfl, W, hl1, S, hz, k⟩ := h
  have cs := T.cs
  refine ⟨_, (pss_cons (ps_set (i := 2) sc_take_phase.nd rfl (by first | exact Or.inl rfl | exact Or.inr rfl) (pe_bmK K PySem.F.plainAttrs_list PySem.F.slot_list_pop PySem.F.type_list_pop mt_popAt (pe_fldK K (pv 0) rfl) (pa_cons pe_int pa_nil)))
      (pss_one (ps_if ((pw_and (pt_cmpR op_eq (pe_ix (ix_tupK K) (pv 2) pe_int (fun _ _ => rfl)) (pe_gl (by rfl) T.g_ATTACK) (nomark _)) (pw_and1 (pt_cmpR op_gt (pe_ix (ix_listK K) (pe_fldK K (pv 0) rfl) (pe_fldK K (pv 0) rfl) (fun _ _ => rfl)) pe_int (nomark _))))).pt (pss_cons (ps_augS (pe_fldK K (pv 0) rfl) (pe_fldK K (pv 0) rfl) (pget_listK K) pe_int ip_sub set_list)
      (pss_one (ps_expr (pe_bmK K PySem.F.plainAttrs_list PySem.F.slot_list_extend PySem.F.type_list_extend mt_extend (pv 1) (pa_cons (pe_lst (pa_cons (pe_gl (by rfl) T.g_FIGHT_SKIPPED) (pa_cons (pe_fldK K (pv 0) rfl) pa_nil))) pa_nil))))) (pss_one (ps_fldK K (pv 0) (pe_callTy (cr_listOfK K) (by rfl) T.b_list Pv.boot_list (pa_cons (pv 2) pa_nil)) rfl))))), ?_⟩
  have hph : ph ∈ Vbdcaf.PHASES := W.later ph (by rw [hl1]; exact List.mem_cons_self)
  have hhd : ph.head? = some (at_ ph 0) ∧ 0 < ph.length := by
    simp [Vbdcaf.PHASES] at hph
    rcases hph with rfl | rfl | rfl | rfl | rfl <;> exact ⟨rfl, by decide⟩
  have hact := W.act
  have hsf := W.sfL
  walk_at "rds"
  refine pop_phases S hl1 fun v H1 vs R1 S1 => ?_
  obtain ⟨a, rfl, ha⟩ := R1
  walk_at "rds"
  refine ixT_nats ha (n := 0) rfl hhd.2 ?_
  walk_at "rds"
  refine w_ite (fun h1 => ?_) (fun h1 => ?_)
  · walk_at "rds"
    refine ix_nats S1.rep.sf (n := s.active) rfl (by show s.active < s.skipFights.length; omega) ?_
    walk_at "rds"
    refine w_ite (fun h2 => ?_) (fun h2 => ?_)
    · have h2' : 0 < at_ s.skipFights s.active := by
        have h2 : (0 : Int) < ((at_ s.skipFights s.active : Nat) : Int) := h2
        omega
      have e : tkPhase s ph l = ({ s with later := l, skipFights := drop1 s.skipFights s.active }, [{ sort := 9, what := s.active }]) := by
        unfold tkPhase
        rw [if_pos ⟨by rw [hhd.1]; congr 1; omega, h2'⟩]
      rw [e] at k hz
      walk_at "rds"
      refine ix_nats S1.rep.sf (n := s.active) rfl (by show s.active < s.skipFights.length; omega) ?_
      walk_at "rds"
      refine set_nats (n := at_ s.skipFights s.active - 1) S1.rep.sf (i := s.active) rfl (by show ((at_ s.skipFights s.active : Nat) : Int) - 1 = _; omega) (by show s.active < s.skipFights.length; omega) ?_
      have S2 := S1.wsf (r := s.skipFights.set s.active (at_ s.skipFights s.active - 1))
      generalize upd H1 _ _ = H2 at S2 ⊢
      rw [← drop1_set (by omega)] at S2
      walk_at "rds"
      refine tell2 { sort := 9, what := s.active } (by assumption) rfl rfl hz fun H4 S4 => ?_
      walk_at "rds"
      exact k _ _ S4
    · walk_at "rds"
      have hno : ¬ (ph.head? = some 4 ∧ 0 < at_ s.skipFights s.active) := fun q => h2 (by show (0 : Int) < ((at_ s.skipFights s.active : Nat) : Int); omega)
      refine list_sd S1 (.inr ha) fun l1 H2 S2 => ?_
      walk_at "rds"
      refine ws_rest cs rfl S2 fun H3 S3 => ?_
      have e : tkPhase s ph l = ({ s with rest := ph, later := l }, []) := by
        unfold tkPhase
        rw [if_neg hno]
      rw [e] at k
      exact k _ _ (S3.castE (by rw [show fl ([] : List Ev) = [] from rfl, List.append_nil]))
  · walk_at "rds"
    have hno : ¬ (ph.head? = some 4 ∧ 0 < at_ s.skipFights s.active) := fun q => by
      rw [hhd.1] at q
      have := Option.some.inj q.1
      omega
    refine list_sd S1 (.inr ha) fun l1 H2 S2 => ?_
    walk_at "rds"
    refine ws_rest cs rfl S2 fun H3 S3 => ?_
    have e : tkPhase s ph l = ({ s with rest := ph, later := l }, []) := by
      unfold tkPhase
      rw [if_neg hno]
    rw [e] at k
    exact k _ _ (S3.castE (by rw [show fl ([] : List Ev) = [] from rfl, List.append_nil]))
abbrev sp_take_side_of_turn (K : PySem.W.Frag) (C : Cs) : Sp := fun vs H Q _ => ∃ B p L s ex, vs = [.ref p] ∧ WF s ∧ Sd K C B H p L s ex ∧ ∀ H', Sd K C B H' p L (Vbdcaf.nextSide s).2 ex → Q (.int (((Vbdcaf.nextSide s).1 : Nat) : Int)) H'
theorem ok_take_side_of_turn (T : Txt K mg C) : OkF P w K mg base 1 "take_side_of_turn" ["duel"] (sp_take_side_of_turn K C) := by
  refine T.h_take_side_of_turn.ok sc_take_side_of_turn (fun vs H Q E h => ?_) (fun f cdv A outer s0 H vs Q E hr h => ?_)
  · obtain ⟨B, p, L, s, ex, rfl, _⟩ := h; rfl
  obtain ⟨B, p, L, s, ex, rfl, W, S, k⟩ := h
  have cs := T.cs
  refine ⟨_, (pss_cons (ps_if (pt_cmpR op_gt (pe_callB (cr_lenK K) (by rfl) T.b_len PySem.boot_len (pa_cons (pe_fldK K (pv 0) rfl) pa_nil)) pe_int (nomark _)) (pss_one (ps_ret (pe_bmK K PySem.F.plainAttrs_list PySem.F.slot_list_pop PySem.F.type_list_pop mt_popAt (pe_fldK K (pv 0) rfl) (pa_cons pe_int pa_nil)))) pss_nil)
      (pss_cons (ps_fldK K (pv 0) (pe_op op_sub pe_int (pe_fldK K (pv 0) rfl)) rfl)
      (pss_one (ps_ret (pe_fldK K (pv 0) rfl))))), ?_⟩
  walk_at "rds"
  refine w_ite (fun h => ?_) (fun h => ?_)
  · cases hx : s.extra with
    | nil => rw [hx] at h; simp at h
    | cons a r =>
      walk_at "rds"
      refine pop_extra_turns S hx fun H1 S1 => ?_
      have e : Vbdcaf.nextSide s = (a, { s with extra := r }) := by unfold Vbdcaf.nextSide; rw [hx]
      rw [e] at k
      exact k _ S1
  · have hx : s.extra = [] := by
      cases hx : s.extra with
      | nil => rfl
      | cons a r => rw [hx] at h; simp at h
    have e : Vbdcaf.nextSide s = (Vbdcaf.other s.ordinary, { s with ordinary := Vbdcaf.other s.ordinary }) := by unfold Vbdcaf.nextSide; rw [hx]
    have ho := W.ord
    rw [e] at k
    walk_at "rds"
    refine ws_last_ordinary cs rfl S (n := Vbdcaf.other s.ordinary) (by unfold Vbdcaf.other; omega) fun H1 S1 => ?_
    walk_at "rds"
    exact k _ S1
open MA
open Vbdcaf (at_ bump drop1)
def newTill (a : Nat) (m : Vbdcaf.Mark) : Vbdcaf.Mark := if m.till = 4 ∧ m.side = a then { m with till := 2 } else m
abbrev sp_begin_turn (K : PySem.W.Frag) (C : Cs) : Sp := fun vs H Q _ => ∃ B p L s ex q t xs, vs = [.ref p, .int ((q : Nat) : Int), .ref t] ∧ WF s ∧ q ≤ 1 ∧ Sd K C B H p L s ((t, .lst (tin xs)) :: ex) ∧ xs.length + 2 * (Vbdcaf.beginTurn s q).2.length ≤ sizeLine ∧
  ∀ H' L', Sd K C B H' p L' (Vbdcaf.beginTurn s q).1 ((t, .lst (tin (xs ++ fl (Vbdcaf.beginTurn s q).2))) :: ex) → Q .non H'
theorem ok_begin_turn (T : Txt K mg C) : OkF P w K mg base 4 "begin_turn" ["duel", "side", "told"] (sp_begin_turn K C) := by
  refine T.h_begin_turn.ok sc_begin_turn (fun vs H Q E h => ?_) (fun f cdv A outer s0 H vs Q E hr h => ?_)
  · obtain ⟨B, p, L, s, ex, q, t, xs, rfl, _⟩ := h; rfl
  obtain ⟨B, p, L, s, ex, q, t, xs, rfl, W, hq1, S, hz, k⟩ := h
  have cs := T.cs
  refine ⟨_, (pss_cons (ps_fldaugK K (pv 0) pe_int in_add)
      (pss_cons (ps_augS (pe_fldK K (pv 0) rfl) (pv 1) (pget_listK K) pe_int ip_add set_list)
      (pss_cons (ps_fldK K (pv 0) (pv 1) rfl)
      (pss_cons (ps_expr (pe_bmK K PySem.F.plainAttrs_list PySem.F.slot_list_extend PySem.F.type_list_extend mt_extend (pv 2) (pa_cons (pe_lst (pa_cons (pe_gl (by rfl) T.g_TURN_BEGINS) (pa_cons (pv 1) pa_nil))) pa_nil)))
      (pss_cons (ps_expr (pe_fn (ok_end_marks (K := K) T) (hr.mono (by decide)) (by rfl) (pa_cons (pv 0) (pa_cons (pe_lc rfl sc_begin_turn.nd (pi_listK K (pe_fldK K (pv 0) rfl)) (own := [("mark", 3)]) (blkOk_by (show blkC ["duel", "side", "told", "mark"] (defScope s_begin_turn) _ _ = true by decide +kernel)) (fun _ _ _ _ _ => pg_name (i := 3) sc_begin_turn.nd rfl (by first | exact Or.inl rfl | exact Or.inr rfl)) (fun _ _ _ _ _ => (pts_one ((pw_and (pt_cmpR op_eq (pe_fldK K (pv 3) rfl) (pe_gl (by rfl) T.g_TILL_OWN_TURN) (nomark _)) (pw_and1 (pt_cmpR op_eq (pe_fldK K (pv 3) rfl) (pv 1) (nomark _))))).pt)) (fun _ _ _ _ _ => (pe_fldK K (pv 3) rfl))) (pa_cons (pv 2) pa_nil)))))
      (pss_cons (ps_fldK K (pv 0) (pe_lc rfl sc_begin_turn.nd (pi_listK K (pe_fldK K (pv 0) rfl)) (own := [("mark", 3)]) (blkOk_by (show blkC ["duel", "side", "told", "mark"] (defScope s_begin_turn) _ _ = true by decide +kernel)) (fun _ _ _ _ _ => pg_name (i := 3) sc_begin_turn.nd rfl (by first | exact Or.inl rfl | exact Or.inr rfl)) (fun _ _ _ _ _ => pts_nil) (fun _ _ _ _ _ => (pe_fn (ok_as_turn_begins (K := K) T) (hr.mono (by decide)) (by rfl) (pa_cons (pv 3) (pa_cons (pv 1) pa_nil))))) rfl)
      (pss_cons (ps_fldK K (pv 0) (pe_callTy (cr_listOfK K) (by rfl) T.b_list Pv.boot_list (pa_cons (pe_gl (by rfl) T.g_PHASES_OF_TURN) pa_nil)) rfl)
      (pss_one (ps_fldK K (pv 0) pe_int rfl))))))))), ?_⟩
  let g : Vbdcaf.Mark → Bool := fun m => m.till == 3 && m.side == q
  let s1 : State := { s with turn := s.turn + 1, turns := bump s.turns q, active := q }
  have htr := W.trL
  have hz' : xs.length + 2 * (1 + (Vbdcaf.endMarks s1 g).2.length) ≤ sizeLine := by
    have e : (Vbdcaf.beginTurn s q).2.length = (Vbdcaf.endMarks s1 g).2.length + 1 := rfl
    rw [e] at hz
    omega
  have hnum : (Vbdcaf.endMarks s1 g).2.length = (s1.marks.filter g).length := List.length_map _
  have hone : (fl [({ sort := 1, what := q } : Ev)]).length = 2 := rfl
  have hml : s.marks.length ≤ 1000 := Nat.le_trans W.marksL (by decide)
  walk_at "rds"
  refine wa_turns cs rfl S (fun Q h => h) (fun Q h => w_rAdd h) (n := s.turn + 1) (by omega) fun H1 S1 => ?_
  walk_at "rds"
  refine ix_nats S1.rep.tos (n := q) rfl (by show q < s.turns.length; omega) ?_
  walk_at "rds"
  refine set_nats (n := at_ s.turns q + 1) S1.rep.tos (i := q) rfl (by show ((at_ s.turns q : Nat) : Int) + 1 = _; omega) (by show q < s.turns.length; omega) ?_
  have S1' := S1.wts (r := s.turns.set q (at_ s.turns q + 1))
  generalize upd H1 _ _ = H1' at S1' ⊢
  rw [← bump_set (by omega)] at S1'
  clear S1
  walk_at "rds"
  refine ws_active cs rfl S1' rfl fun H2 S2 => ?_
  walk_at "rds"
  refine tell2 { sort := 1, what := q } (by assumption) rfl rfl (by omega) fun H3 S3 => ?_
  walk_at "rds"
  refine lc_nums g cs S3 hml (Nat.le_of_ble_eq_true rfl) ?_ ?_
  · intro v m H4 ex' QB hm M S4 hq
    walk_at "rds"
    refine w_ite (fun h1 => ?_) (fun h1 => ?_)
    · walk_at "rds"
      have e : decide ((m.side : Int) = (q : Int)) = g m := by simp only [g]; grind
      rw [e]
      exact hq _ S4
    · have e : g m = false := by simp only [g]; grind
      rw [e] at hq
      exact hq _ S4
  · intro E H4 S4
    walk_at "rds"
    refine ⟨B, p, L, s1, ex, E, t, _, g, rfl, nd_of W.mSort, hml, S4, by rw [List.length_append, hone]; omega, fun H5 L5 S5 => ?_⟩
    have hR := S5.rep.mksR
    let s2 := (Vbdcaf.endMarks s1 g).1
    have hRl : (L5.v 9).length = s2.marks.length := Paired.length hR
    have hml2 : s2.marks.length ≤ 1000 := Nat.le_trans (List.length_filter_le _ _) hml
    have S50 := S5.rebase
    walk_at "rds"
    refine lc_sd (fun j acc H => Paired (RM C H) acc ((s2.marks.take j).map (newTill q))) S50 (SqL.of S50.rep.mks) (fun H1 E acc S1 => SqL.of S1.rep.mks) (fun _ _ => .nil) ?_ ?_
    · intro j x acc H6 E hx hj hI S6
      obtain ⟨m, hm, M⟩ := paired_get hR hx
      have hjl : j < (L5.v 9).length := (List.getElem?_eq_some_iff.mp hx).1
      walk_at "rds"
      refine ⟨H6, p, L5, s2, _, x, m, q, rfl, S6.rebase, RM.keep S6.kp M, fun u H7 S7 M7 => ?_⟩
      refine lc_yes (S7.base S6.kp) hj (by rw [sizeLine_eq]; omega) fun H8 k8 => ?_
      rw [take_snoc hm, List.map_append]
      exact pairs_app (pairs_keep (RM.keep (S7.kp.trans k8)) hI) (.cons (RM.keep k8 M7) .nil)
    · intro E6 acc H6 hI S6
      rw [hRl, List.take_length] at hI
      walk_at "rds"
      refine ws_marks cs rfl S6 hI fun H7 S7 => ?_
      walk_at "rds"
      obtain ⟨vs, h1, h2⟩ := T.t_PHASES_OF_TURN
      refine list_sd S7 (.inr (h1.sq _)) fun l8 H8 S8 => ?_
      walk_at "rds"
      refine ws_phases cs rfl S8 (r := Vbdcaf.PHASES) (Paired.mapP h2 fun v ph ⟨a, e, h⟩ => ⟨a, e, h.sq _⟩) fun H9 S9 => ?_
      walk_at "rds"
      refine ws_plays cs rfl S9 (n := 1) rfl fun H10 S10 => ?_
      have S11 := S10.base S5.kp
      refine k _ _ (S11.castE ?_)
      rw [List.append_assoc, ← fl_app]
      rfl
abbrev sp_look_for_turn (K : PySem.W.Frag) (C : Cs) : Sp := fun vs H Q _ => ∃ B p L s ex t xs, vs = [.ref p, .ref t] ∧ WF s ∧ Sd K C B H p L s ((t, .lst (tin xs)) :: ex) ∧ xs.length + 2 * (lkTurn s).2.length ≤ sizeLine ∧
  ∀ H' L', Sd K C B H' p L' (lkTurn s).1 ((t, .lst (tin (xs ++ fl (lkTurn s).2))) :: ex) → Q .non H'
theorem ok_look_for_turn (T : Txt K mg C) : OkF P w K mg base 5 "look_for_turn" ["duel", "told"] (sp_look_for_turn K C) := by
  refine T.h_look_for_turn.ok sc_look_for_turn (fun vs H Q E h => ?_) (fun f cdv A outer s0 H vs Q E hr h => ?_)
  · obtain ⟨B, p, L, s, ex, t, xs, rfl, _⟩ := h; rfl
  obtain ⟨B, p, L, s, ex, t, xs, rfl, W, S, hz, k⟩ := h
  have cs := T.cs
  refine ⟨_, (pss_cons (ps_set (i := 2) sc_look_for_turn.nd rfl (by first | exact Or.inl rfl | exact Or.inr rfl) (pe_fn (ok_take_side_of_turn (K := K) T) (hr.mono (by decide)) (by rfl) (pa_cons (pv 0) pa_nil)))
      (pss_one (ps_if (pt_cmpR op_gt (pe_ix (ix_listK K) (pe_fldK K (pv 0) rfl) (pv 2) (fun _ _ => rfl)) pe_int (nomark _)) (pss_cons (ps_augS (pe_fldK K (pv 0) rfl) (pv 2) (pget_listK K) pe_int ip_sub set_list)
      (pss_one (ps_expr (pe_bmK K PySem.F.plainAttrs_list PySem.F.slot_list_extend PySem.F.type_list_extend mt_extend (pv 1) (pa_cons (pe_lst (pa_cons (pe_gl (by rfl) T.g_TURN_SKIPPED) (pa_cons (pv 2) pa_nil))) pa_nil))))) (pss_one (ps_expr (pe_fn (ok_begin_turn (K := K) T) (hr.mono (by decide)) (by rfl) (pa_cons (pv 0) (pa_cons (pv 2) (pa_cons (pv 1) pa_nil))))))))), ?_⟩
  obtain ⟨W1, hq⟩ := W.nextSide
  generalize hn : Vbdcaf.nextSide s = nx at W1 hq
  obtain ⟨q, s1⟩ := nx
  dsimp only at W1 hq
  have hst := W1.stL
  walk_at "rds"
  refine ⟨B, p, L, s, _, rfl, W, S, fun H1 S1 => ?_⟩
  rw [hn] at S1 ⊢
  dsimp only at S1 ⊢
  walk_at "rds"
  refine ix_nats S1.rep.st (n := q) rfl (by omega) ?_
  walk_at "rds"
  refine w_ite (fun h2 => ?_) (fun h2 => ?_)
  · have h2' : 0 < at_ s1.skipTurns q := by omega
    have e : lkTurn s = ({ s1 with skipTurns := drop1 s1.skipTurns q }, [{ sort := 7, what := q }]) := by unfold lkTurn; dsimp only; rw [hn]; dsimp only; rw [if_pos h2']
    rw [e] at k hz
    walk_at "rds"
    refine ix_nats S1.rep.st (n := q) rfl (by omega) ?_
    walk_at "rds"
    refine set_nats (n := at_ s1.skipTurns q - 1) S1.rep.st (i := q) rfl (by omega) (by omega) ?_
    have S2 := S1.wst (r := s1.skipTurns.set q (at_ s1.skipTurns q - 1))
    generalize upd H1 _ _ = H2 at S2 ⊢
    rw [← drop1_set (by omega)] at S2
    walk_at "rds"
    refine tell2 { sort := 7, what := q } (by assumption) rfl rfl hz fun H4 S4 => ?_
    walk_at "rds"
    exact k _ _ S4
  · have e : lkTurn s = Vbdcaf.beginTurn s1 q := by unfold lkTurn; dsimp only; rw [hn]; dsimp only; rw [if_neg (by omega)]
    rw [e] at k hz
    walk_at "rds"
    exact ⟨B, p, L, s1, ex, q, t, xs, rfl, W1, hq, S1, hz, fun H4 L4 S4 => k _ _ S4⟩
abbrev sp_leave_phase (K : PySem.W.Frag) (C : Cs) : Sp := fun vs H Q _ => ∃ B p L s ex t xs, vs = [.ref p, .ref t] ∧ WF s ∧ Sd K C B H p L s ((t, .lst (tin xs)) :: ex) ∧ xs.length + 2 * (lvPhase s).2.length ≤ sizeLine ∧
  ∀ H' L', Sd K C B H' p L' (lvPhase s).1 ((t, .lst (tin (xs ++ fl (lvPhase s).2))) :: ex) → Q .non H'
theorem ok_leave_phase (T : Txt K mg C) : OkF P w K mg base 6 "leave_phase" ["duel", "told"] (sp_leave_phase K C) := by
  refine T.h_leave_phase.ok sc_leave_phase (fun vs H Q E h => ?_) (fun f cdv A outer s0 H vs Q E hr h => ?_)
  · obtain ⟨B, p, L, s, ex, t, xs, rfl, _⟩ := h; rfl
  obtain ⟨B, p, L, s, ex, t, xs, rfl, W, S, hz, k⟩ := h
  have cs := T.cs
  refine ⟨_, (pss_cons (ps_expr (pe_fn (ok_end_marks_of_till (K := K) T) (hr.mono (by decide)) (by rfl) (pa_cons (pv 0) (pa_cons (pe_gl (by rfl) T.g_TILL_PHASE_ENDS) (pa_cons (pv 1) pa_nil)))))
      (pss_one (ps_if (pt_cmpR op_gt (pe_callB (cr_lenK K) (by rfl) T.b_len PySem.boot_len (pa_cons (pe_fldK K (pv 0) rfl) pa_nil)) pe_int (nomark _)) (pss_one (ps_expr (pe_fn (ok_take_phase (K := K) T) (hr.mono (by decide)) (by rfl) (pa_cons (pv 0) (pa_cons (pv 1) pa_nil))))) (pss_one (ps_expr (pe_fn (ok_look_for_turn (K := K) T) (hr.mono (by decide)) (by rfl) (pa_cons (pv 0) (pa_cons (pv 1) pa_nil)))))))), ?_⟩
  let s1 := (Vbdcaf.endMarks s Vbdcaf.till1).1
  have W1 : WF s1 := W.endMarks Vbdcaf.till1
  have hml : s.marks.length ≤ 1000 := Nat.le_trans W.marksL (by decide)
  have hz0 : xs.length + 2 * (Vbdcaf.endMarks s Vbdcaf.till1).2.length ≤ sizeLine := by
    unfold lvPhase at hz
    dsimp only at hz
    rw [List.length_append] at hz
    omega
  walk_at "rds"
  refine ⟨B, p, L, s, ex, 1, t, xs, rfl, nd_of W.mSort, hml, S, hz0, fun H1 L1 S1 => ?_⟩
  have S1 : Sd K C B H1 p L1 s1 ((t, .lst (tin (xs ++ fl (Vbdcaf.endMarks s Vbdcaf.till1).2))) :: ex) := S1
  walk_at "rds"
  cases hl : s1.later with
  | cons ph l =>
    have e : lvPhase s = ((tkPhase s1 ph l).1, (Vbdcaf.endMarks s Vbdcaf.till1).2 ++ (tkPhase s1 ph l).2) := by
      unfold lvPhase
      dsimp only
      rw [show (Vbdcaf.endMarks s Vbdcaf.till1).1.later = ph :: l from hl]
    rw [e] at k hz
    dsimp only at k hz
    rw [List.length_append] at hz
    refine w_ite (fun h => ?_) (fun h => absurd (by simp) h)
    walk_at "rds"
    refine ⟨B, p, L1, s1, ex, ph, l, t, _, rfl, W1, hl, S1, by rw [List.length_append, len_fl]; omega, fun H4 L4 S4 => ?_⟩
    walk_at "rds"
    refine k _ _ (S4.castE ?_)
    rw [List.append_assoc, ← fl_app]
  | nil =>
    have e : lvPhase s = ((lkTurn s1).1, (Vbdcaf.endMarks s Vbdcaf.till1).2 ++ (lkTurn s1).2) := by
      unfold lvPhase
      dsimp only
      rw [show (Vbdcaf.endMarks s Vbdcaf.till1).1.later = [] from hl]
    rw [e] at k hz
    dsimp only at k hz
    rw [List.length_append] at hz
    refine w_ite (fun h => absurd h (by simp)) (fun h => ?_)
    walk_at "rds"
    refine ⟨B, p, L1, s1, ex, t, _, rfl, W1, S1, by rw [List.length_append, len_fl]; omega, fun H4 L4 S4 => ?_⟩
    walk_at "rds"
    refine k _ _ (S4.castE ?_)
    rw [List.append_assoc, ← fl_app]
def evs (s : State) : Nat := pot s + mu s + 1
abbrev sp_go_on (K : PySem.W.Frag) (C : Cs) : Sp := fun vs H Q _ => ∃ B p L s ex t xs e, vs = [.ref p, .ref t] ∧ WF s ∧ Sd K C B H p L s ((t, .lst (tin (xs ++ fl e))) :: ex) ∧ xs.length + 2 * (e.length + evs s) ≤ sizeLine ∧
  ∀ H' L', Sd K C B H' p L' (Vbdcaf.onward Vbdcaf.FUEL s e).1 ((t, .lst (tin (xs ++ fl (Vbdcaf.onward Vbdcaf.FUEL s e).2))) :: ex) → Q .non H'
/-- as much fuel as is enough -/
theorem onward_more : ∀ (f : Nat) (s : State) (e : List Ev), WF s → mu s < f → Vbdcaf.onward (f + 1) s e = Vbdcaf.onward f s e
  | 0, s, e, w, h => absurd h (Nat.not_lt_zero _)
  | f + 1, s, e, w, h => by
    rw [onward_one (f + 1) s e, onward_one f s e]
    split
    · rfl
    · rename_i ha
      have hm := mu_one w (by simpa using ha)
      exact onward_more f _ _ w.one (by omega)
/-- one turn of going on, from below the fuel -/
theorem onward_turn {s : State} {e : List Ev} (w : WF s) : Vbdcaf.onward Vbdcaf.FUEL s e = if (one s).1 = true then ((one s).2.1, e ++ (one s).2.2) else Vbdcaf.onward Vbdcaf.FUEL (one s).2.1 (e ++ (one s).2.2) := by
  have hm := mu_le w
  have e1 : Vbdcaf.FUEL = 9999 + 1 := rfl
  rw [e1, onward_one 9999 s e]
  split
  · rfl
  · rename_i ha
    have h2 := mu_one w (by simpa using ha)
    exact (onward_more 9999 _ _ w.one (by omega)).symm
/-- how things stand between two turns of go_on's loop -/
def GoW (K : PySem.W.Frag) (C : Cs) (B : Hp) (p t : Addr) (ex : List (Addr × HO)) (xs : List Int) (R : State × List Ev) (m : Nat) (σ' : L2.St) (H' : Hp) : Prop := ∃ (b : Bool) (L' : Lay) (s' : State) (e' : List Ev), σ' = [some (.ref p), some (.ref t), some (.bl b)] ∧ Sd K C B H' p L' s' ((t, .lst (tin (xs ++ fl e'))) :: ex) ∧
      (if b = true then R = (s', e') ∧ m = 0 else WF s' ∧ R = Vbdcaf.onward Vbdcaf.FUEL s' e' ∧ xs.length + 2 * (e'.length + evs s') ≤ sizeLine ∧ m = mu s' + 1)
theorem go_next {B H' : Hp} {p t : Addr} {ex : List (Addr × HO)} {xs : List Int} {R : State × List Ev} {s' : State} {e' : List Ev} {L2' : Lay} (W' : WF s') (hR : R = Vbdcaf.onward Vbdcaf.FUEL s' e') (hz' : xs.length + 2 * (e'.length + evs s') ≤ sizeLine)
    (S2 : Sd K C B H' p L2' (one s').2.1 ((t, .lst (tin ((xs ++ fl e') ++ fl (one s').2.2))) :: ex)) : ∃ m', m' < mu s' + 1 ∧ GoW K C B p t ex xs R m' [some (.ref p), some (.ref t), some (.bl (one s').1)] H' := by
  have ht := onward_turn (e := e') W'
  have hp := pot_one s'
  have S3 : Sd K C B H' p L2' (one s').2.1 ((t, .lst (tin (xs ++ fl (e' ++ (one s').2.2)))) :: ex) := S2.castE (by rw [fl_app, List.append_assoc])
  cases hb : (one s').1 with
  | true =>
    rw [hb, if_pos rfl] at ht
    exact ⟨0, Nat.succ_pos _, true, L2', _, _, rfl, S3, by rw [if_pos rfl]; exact ⟨hR.trans ht, rfl⟩⟩
  | false =>
    rw [hb, if_neg Bool.false_ne_true] at ht
    have hm := mu_one W' hb
    refine ⟨mu (one s').2.1 + 1, by omega, false, L2', _, _, rfl, S3, ?_⟩
    rw [if_neg Bool.false_ne_true]
    refine ⟨W'.one, hR.trans ht, ?_, rfl⟩
    rw [List.length_append]
    unfold evs at hz' ⊢
    omega
theorem ok_go_on (T : Txt K mg C) : OkF P w K mg base 7 "go_on" ["duel", "told"] (sp_go_on K C) := by
  refine T.h_go_on.ok sc_go_on (fun vs H Q E h => ?_) (fun f cdv A outer s0 H vs Q E hr h => ?_)
  · obtain ⟨B, p, L, s, ex, t, xs, e, rfl, _⟩ := h; rfl
  obtain ⟨B, p, L, s, ex, t, xs, e, rfl, W, S, hz, k⟩ := h
  have cs := T.cs
  refine ⟨_, (pss_cons (ps_set (i := 2) sc_go_on.nd rfl (by first | exact Or.inl rfl | exact Or.inr rfl) pe_bl)
      (pss_one (ps_while PassesOwn.never (pt_not (pt_val (pv 2))) (pss_one (ps_if (pt_cmpR op_gt (pe_callB (cr_lenK K) (by rfl) T.b_len PySem.boot_len (pa_cons (pe_fldK K (pv 0) rfl) pa_nil)) pe_int (nomark _)) (pss_one (ps_set (i := 2) sc_go_on.nd rfl (by first | exact Or.inl rfl | exact Or.inr rfl) (pe_fn (ok_take_step (K := K) T) (hr.mono (by decide)) (by rfl) (pa_cons (pv 0) (pa_cons (pv 1) pa_nil))))) (pss_one (ps_expr (pe_fn (ok_leave_phase (K := K) T) (hr.mono (by decide)) (by rfl) (pa_cons (pv 0) (pa_cons (pv 1) pa_nil)))))))))), ?_⟩
  walk_at "rds"
  refine ⟨GoW K C B p t ex xs (Vbdcaf.onward Vbdcaf.FUEL s e), ⟨mu s + 1, false, L, s, e, rfl, S, by rw [if_neg Bool.false_ne_true]; exact ⟨W, rfl, hz, rfl⟩⟩, ?_⟩
  rintro m σ' H' ⟨b, L', s', e', rfl, S', hb⟩
  walk_at "rds"
  cases b with
  | true =>
    rw [if_pos rfl] at hb
    refine w_iteNB (fun h => nomatch h) (fun _ => ?_)
    rw [hb.1] at k
    exact k _ _ S'
  | false =>
    rw [if_neg Bool.false_ne_true] at hb
    obtain ⟨W', hR, hz', rfl⟩ := hb
    refine w_iteNB (fun _ => ?_) (fun h => nomatch h)
    refine ⟨fun σ'' H'' => ∃ m', m' < mu s' + 1 ∧ GoW K C B p t ex xs (Vbdcaf.onward Vbdcaf.FUEL s e) m' σ'' H'', fun _ _ h => h, ?_⟩
    have hp := pot_one s'
    have hz2 : (xs ++ fl e').length + 2 * (one s').2.2.length ≤ sizeLine := by
      rw [List.length_append, len_fl]
      unfold evs at hz'
      omega
    walk_at "rds"
    cases hr1 : s'.rest with
    | cons i r =>
      refine w_ite (fun h => ?_) (fun h => absurd (by simp) h)
      have ho : one s' = tkStep s' i r := by unfold one; rw [hr1]
      have hg := fun (H2 : Hp) (L2 : Lay) => go_next (K := K) (C := C) (B := B) (H' := H2) (p := p) (t := t) (ex := ex) (xs := xs) (L2' := L2) W' hR hz'
      rw [ho] at hg hz2
      walk_at "rds"
      refine ⟨B, p, L', s', ex, i, r, t, _, rfl, W', hr1, S', hz2, fun H2 L2 S2 => ?_⟩
      exact hg H2 L2 S2
    | nil =>
      refine w_ite (fun h => absurd h (by simp)) (fun h => ?_)
      have ho : one s' = (false, lvPhase s') := by unfold one; rw [hr1]
      have hg := fun (H2 : Hp) (L2 : Lay) => go_next (K := K) (C := C) (B := B) (H' := H2) (p := p) (t := t) (ex := ex) (xs := xs) (L2' := L2) W' hR hz'
      rw [ho] at hg hz2
      walk_at "rds"
      refine ⟨B, p, L', s', ex, t, _, rfl, W', S', hz2, fun H2 L2 S2 => ?_⟩
      walk_at "rds"
      exact hg H2 L2 S2
open MA
open Vbdcaf (at_ bump drop1)
abbrev sp_end_asked_step (K : PySem.W.Frag) (C : Cs) : Sp := fun vs H Q _ => ∃ B p L s ex t xs, vs = [.ref p, .ref t] ∧ WK s ∧ Sd K C B H p L s ((t, .lst (tin xs)) :: ex) ∧ xs.length + 3000 ≤ sizeLine ∧
  ∀ H' L', Sd K C B H' p L' (Vbdcaf.endStep s).1 ((t, .lst (tin (xs ++ fl (Vbdcaf.endStep s).2))) :: ex) → Q .non H'
theorem ok_end_asked_step (T : Txt K mg C) : OkF P w K mg base 8 "end_asked_step" ["duel", "told"] (sp_end_asked_step K C) := by
  refine T.h_end_asked_step.ok sc_end_asked_step (fun vs H Q E h => ?_) (fun f cdv A outer s0 H vs Q E hr h => ?_)
  · obtain ⟨B, p, L, s, ex, t, xs, rfl, _⟩ := h; rfl
  obtain ⟨B, p, L, s, ex, t, xs, rfl, WK1, S, hz, k⟩ := h
  have cs := T.cs
  refine ⟨_, (pss_cons (ps_expr (pe_fn (ok_end_marks_of_till (K := K) T) (hr.mono (by decide)) (by rfl) (pa_cons (pv 0) (pa_cons (pe_gl (by rfl) T.g_TILL_STEP_ENDS) (pa_cons (pv 1) pa_nil)))))
      (pss_cons (ps_if (pt_cmpR op_eq (pe_fldK K (pv 0) rfl) (pe_gl (by rfl) T.g_DUSK) (nomark _)) (pss_one (ps_expr (pe_bmK K PySem.F.plainAttrs_list PySem.F.slot_list_insert PySem.F.type_list_insert mt_insert0 (pe_fldK K (pv 0) rfl) (pa_cons pe_int (pa_cons (pe_gl (by rfl) T.g_DUSK) pa_nil))))) pss_nil)
      (pss_one (ps_expr (pe_fn (ok_go_on (K := K) T) (hr.mono (by decide)) (by rfl) (pa_cons (pv 0) (pa_cons (pv 1) pa_nil))))))), ?_⟩
  have W := WK1.toWF
  have W1 : WF (Vbdcaf.endMarks s Vbdcaf.till0).1 := W.endMarks Vbdcaf.till0
  have hml : s.marks.length ≤ 1000 := Nat.le_trans W.marksL (by decide)
  have hpe := pot_endMarks s Vbdcaf.till0
  have hp0 := pot_le W
  have hr20 := WK1.r20
  have key : ∀ (H1 : Hp) (L1 : Lay) (s2 : State), WF s2 → s2 = (if s.step = Vbdcaf.DUSK then { (Vbdcaf.endMarks s Vbdcaf.till0).1 with rest := Vbdcaf.DUSK :: (Vbdcaf.endMarks s Vbdcaf.till0).1.rest } else (Vbdcaf.endMarks s Vbdcaf.till0).1) → Sd K C B H1 p L1 s2 ((t, .lst (tin (xs ++ fl (Vbdcaf.endMarks s Vbdcaf.till0).2))) :: ex) → ∀ E, sp_go_on K C [.ref p, .ref t] H1 (fun _ H' => Q .non H') E := by
    intro H1 L1 s2 W2 e S2 E
    have eS : Vbdcaf.endStep s = Vbdcaf.onward Vbdcaf.FUEL s2 (Vbdcaf.endMarks s Vbdcaf.till0).2 := by rw [e]; rfl
    rw [eS] at k
    refine ⟨B, p, L1, s2, ex, t, xs, _, rfl, W2, S2, ?_, fun H3 L3 S3 => k _ _ S3⟩
    have h1 := pot_le W2
    have h2 := mu_le W2
    unfold evs
    omega
  walk_at "rds"
  refine ⟨B, p, L, s, ex, 0, t, xs, rfl, nd_of W.mSort, hml, S, ?_, fun H1 L1 S1 => ?_⟩
  · show _ + 2 * (Vbdcaf.endMarks s Vbdcaf.till0).2.length ≤ _
    omega
  have S1 : Sd K C B H1 p L1 (Vbdcaf.endMarks s Vbdcaf.till0).1 ((t, .lst (tin (xs ++ fl (Vbdcaf.endMarks s Vbdcaf.till0).2))) :: ex) := S1
  walk_at "rds"
  refine w_ite (fun hd => ?_) (fun hd => ?_)
  · have hd : (s.step : Int) = 10 := hd
    walk_at "rds"
    refine ins_rest S1 (n := 10) rfl (by show s.rest.length < _; rw [sizeLine_eq]; omega) fun H2 S2 => ?_
    walk_at "rds"
    refine key H2 L1 _ ?_ ?_ S2 _
    · refine { W1 with rest := ?_, restL := ?_ }
      · intro j hj
        rcases List.mem_cons.mp hj with rfl | hj
        · decide
        · exact W.rest j hj
      · show (10 :: s.rest).length ≤ 21
        rw [List.length_cons]
        omega
    · rw [if_pos (by unfold Vbdcaf.DUSK; omega)]
      rfl
  · have hd : ¬ (s.step : Int) = 10 := hd
    walk_at "rds"
    refine key H1 L1 _ W1 ?_ S1 _
    rw [if_neg (by unfold Vbdcaf.DUSK; omega)]
open MA
open Vbdcaf (at_ bump drop1 does Call)
theorem mem_sides {z : Int} : z ∈ unI (nats [0, 1]) ↔ 0 ≤ z ∧ z ≤ 1 := by
  show z ∈ [(0 : Int), 1] ↔ _
  simp only [List.mem_cons, List.not_mem_nil, or_false]
  omega
theorem from_t {n lo hi : Int} (h : lo ≤ n ∧ n ≤ hi) : Vbdcaf.from_ n lo hi = true := decide_eq_true h
theorem from_f {n lo hi : Int} (h : ¬ (lo ≤ n ∧ n ≤ hi)) : Vbdcaf.from_ n lo hi = false := decide_eq_false h
abbrev sp_is_slow_time (K : PySem.W.Frag) (C : Cs) : Sp := fun vs H Q _ => ∃ B p L s ex q, vs = [.ref p, .int ((q : Nat) : Int)] ∧ Sd K C B H p L s ex ∧ ∀ H', Sd K C B H' p L s ex → Q (.bl (Vbdcaf.maySlow s q)) H'
theorem ok_is_slow_time (T : Txt K mg C) : OkF P w K mg base 1 "is_slow_time" ["duel", "side"] (sp_is_slow_time K C) := by
  refine T.h_is_slow_time.ok sc_is_slow_time (fun vs H Q E h => ?_) (fun f cdv A outer s0 H vs Q E hr h => ?_)
  · obtain ⟨B, p, L, s, ex, q, rfl, _⟩ := h; rfl
  obtain ⟨B, p, L, s, ex, q, rfl, S, k⟩ := h
  have cs := T.cs
  refine ⟨_, (pss_cons (ps_if ((pw_or (pt_cmpR op_ne (pv 1) (pe_fldK K (pv 0) rfl) (nomark _)) (pw_or1 (pt_cmpR op_ne (pv 1) (pe_fldK K (pv 0) rfl) (nomark _))))).pt (pss_one (ps_ret pe_bl)) pss_nil)
      (pss_one (ps_ret (pe_and (pe_cmpR (op_inK K) (pe_fldK K (pv 0) rfl) (pe_tup (pa_cons (pe_gl (by rfl) T.g_FIRST_MAIN) (pa_cons (pe_gl (by rfl) T.g_SECOND_MAIN) pa_nil))) (by with_unfolding_all rfl)) (pe_one (pe_cmpR op_eq (pe_callB (cr_lenK K) (by rfl) T.b_len PySem.boot_len (pa_cons (pe_fldK K (pv 0) rfl) pa_nil)) pe_int (nomark _))))))), ?_⟩
  walk_at "rdp"
  all_goals (first | refine qcast (k _ (by assumption)) ?_ | refine qcast (k _ (Sd.tail (by assumption))) ?_)
  all_goals (clear k; simp only [Vbdcaf.maySlow, Vbdcaf.holds, unI, List.mem_cons, List.not_mem_nil, or_false] at *; cases hs : s.stack <;> simp only [hs, List.length_nil, List.length_cons, List.isEmpty_nil, List.isEmpty_cons] at * <;> grind)
abbrev sp_may_play (K : PySem.W.Frag) (C : Cs) : Sp := fun vs H Q _ => ∃ B p L s ex q, vs = [.ref p, .int ((q : Nat) : Int)] ∧ Sd K C B H p L s ex ∧ ∀ H', Sd K C B H' p L s ex → Q (.bl (Vbdcaf.mayPlay s q)) H'
theorem ok_may_play (T : Txt K mg C) : OkF P w K mg base 2 "may_play" ["duel", "side"] (sp_may_play K C) := by
  refine T.h_may_play.ok sc_may_play (fun vs H Q E h => ?_) (fun f cdv A outer s0 H vs Q E hr h => ?_)
  · obtain ⟨B, p, L, s, ex, q, rfl, _⟩ := h; rfl
  obtain ⟨B, p, L, s, ex, q, rfl, S, k⟩ := h
  have cs := T.cs
  refine ⟨_, (pss_one (ps_ret (pe_and (pe_fn (ok_is_slow_time (K := K) T) (hr.mono (by decide)) (by rfl) (pa_cons (pv 0) (pa_cons (pv 1) pa_nil))) (pe_one (pe_cmpR op_gt (pe_fldK K (pv 0) rfl) pe_int (nomark _)))))), ?_⟩
  walk_at "rds"
  refine ⟨B, p, L, s, ex, q, rfl, S, fun H1 S1 => ?_⟩
  walk_at "rdp"
  all_goals refine qcast (k _ S1) ?_
  all_goals (clear k; simp only [Vbdcaf.mayPlay]; grind)
abbrev sp_is_shut (K : PySem.W.Frag) (C : Cs) : Sp := fun vs H Q _ => ∃ B p L s ex, vs = [.ref p] ∧ s.stack.length ≤ 1000 ∧ Sd K C B H p L s ex ∧ ∀ H', Sd K C B H' p L s ex → Q (.bl (Vbdcaf.shutOut s)) H'
theorem ok_is_shut (T : Txt K mg C) : OkF P w K mg base 1 "is_shut" ["duel"] (sp_is_shut K C) := by
  refine T.h_is_shut.ok sc_is_shut (fun vs H Q E h => ?_) (fun f cdv A outer s0 H vs Q E hr h => ?_)
  · obtain ⟨B, p, L, s, ex, rfl, _⟩ := h; rfl
  obtain ⟨B, p, L, s, ex, rfl, hl, S, k⟩ := h
  have cs := T.cs
  refine ⟨_, (pss_one (ps_ret (pe_callB (cr_anyK K rfl) (by rfl) T.b_any boot_any (pa_cons (pe_lc rfl sc_is_shut.nd (pi_listK K (pe_fldK K (pv 0) rfl)) (own := [("item", 1)]) (blkOk_by (show blkC ["duel", "item"] (defScope s_is_shut) _ _ = true by decide +kernel)) (fun _ _ _ _ _ => pg_name (i := 1) sc_is_shut.nd rfl (by first | exact Or.inl rfl | exact Or.inr rfl)) (fun _ _ _ _ _ => pts_nil) (fun _ _ _ _ _ => (pe_fldK K (pv 1) rfl))) pa_nil)))), ?_⟩
  have S0 := S.rebase
  have hR := S.rep.stkR
  have hRl := Paired.length hR
  walk_at "rds"
  refine lc_sd (fun j acc _ => acc = ((s.stack.take j).map fun i => i.shut).map V.bl) S0 (SqL.of S0.rep.stk) (fun H1 E acc S1 => SqL.of S1.rep.stk) (fun _ _ => rfl) ?_ ?_
  · intro j x acc H1 E hx hj hI S1
    obtain ⟨m, hm, M⟩ := paired_get hR hx
    have hjl : j < (L.v 8).length := (List.getElem?_eq_some_iff.mp hx).1
    walk_at "rds"
    refine lc_yes S1 hj (by rw [sizeLine_eq]; omega) fun H2 _ => ?_
    rw [take_snoc hm, hI]
    simp
  · intro E acc H1 hI S1
    rw [hRl, List.take_length] at hI
    subst hI
    walk_at "rds"
    refine ⟨E, _, rfl, SqL.of S1.at0, ?_⟩
    refine qcast (k _ (S1.base S.kp).tail) ?_
    unfold Vbdcaf.shutOut
    rw [List.any_map]
    rfl
abbrev sp_may_act (K : PySem.W.Frag) (C : Cs) : Sp := fun vs H Q _ => ∃ B p L s ex q z, vs = [.ref p, .int ((q : Nat) : Int), .int z] ∧ s.stack.length ≤ 1000 ∧ (z = 0 ∨ z = 1) ∧ Sd K C B H p L s ex ∧ ∀ H', Sd K C B H' p L s ex → Q (.bl (Vbdcaf.mayAct s q && (z == 0 || Vbdcaf.maySlow s q))) H'
theorem ok_may_act (T : Txt K mg C) : OkF P w K mg base 2 "may_act" ["duel", "side", "slow"] (sp_may_act K C) := by
  refine T.h_may_act.ok sc_may_act (fun vs H Q E h => ?_) (fun f cdv A outer s0 H vs Q E hr h => ?_)
  · obtain ⟨B, p, L, s, ex, q, z, rfl, _⟩ := h; rfl
  obtain ⟨B, p, L, s, ex, q, z, rfl, hl, hz, S, k⟩ := h
  have cs := T.cs
  refine ⟨_, (pss_cons (ps_if ((pw_or (pt_cmpR op_ne (pv 1) (pe_fldK K (pv 0) rfl) (nomark _)) (pw_or1 (pt_val (pe_fn (ok_is_shut (K := K) T) (hr.mono (by decide)) (by rfl) (pa_cons (pv 0) pa_nil)))))).pt (pss_one (ps_ret pe_bl)) pss_nil)
      (pss_one (ps_ret (pe_or (pe_cmpR op_eq (pv 2) pe_int (nomark _)) (pe_one (pe_fn (ok_is_slow_time (K := K) T) (hr.mono (by decide)) (by rfl) (pa_cons (pv 0) (pa_cons (pv 1) pa_nil)))))))), ?_⟩
  walk_at "rds"
  refine w_iteN (fun h => ?_) (fun h => ?_)
  · walk_at "rds"
    refine qcast (k _ S) ?_
    clear k
    simp only [Vbdcaf.mayAct, Vbdcaf.holds]
    grind
  · walk_at "rds"
    refine ⟨B, p, L, s, ex, rfl, hl, S, fun H1 S1 => ?_⟩
    walk_at "rds"
    refine w_iteB (fun h1 => ?_) (fun h1 => ?_)
    · walk_at "rds"
      refine qcast (k _ S1) ?_
      clear k
      simp only [Vbdcaf.mayAct, Vbdcaf.holds]
      grind
    · walk_at "rds"
      refine w_ite (fun h2 => ?_) (fun h2 => ?_)
      · walk_at "rds"
        refine qcast (k _ S1) ?_
        clear k
        simp only [Vbdcaf.mayAct, Vbdcaf.holds]
        grind
      · walk_at "rds"
        refine ⟨B, p, L, s, ex, q, rfl, S1, fun H2 S2 => ?_⟩
        walk_at "rds"
        refine qcast (k _ S2) ?_
        clear k
        simp only [Vbdcaf.mayAct, Vbdcaf.holds]
        grind
open MA
open Vbdcaf (at_ bump drop1 does Call no yes)
/-- what is wanted of an answer: the new state, and the new list with the answer in it -/
def Ans (K : PySem.W.Frag) (C : Cs) (B : Hp) (p : Addr) (ex : List (Addr × HO)) (Q : VK) (r : State × List Int) : Prop := ∀ H' L' a, Sd K C B H' p L' r.1 ((a, .lst (tin r.2)) :: ex) → Q (.ref a) H'
section
variable {B H : Hp} {p a : Addr} {L : Lay} {s s' : State} {ex : List (Addr × HO)} {Q : VK} {r : State × List Int} {xs : List V} {e f g : Addr × HO}
theorem Ans.go (k : Ans K C B p ex Q r) (e : r = (s, unI xs)) (S : Sd K C B H p L s ((a, .lst xs) :: ex)) (hx : xs = tin (unI xs)) : Q (.ref a) H := by
  subst e
  exact k H L a (by rw [← hx]; exact S)
end
abbrev sp_play (K : PySem.W.Frag) (C : Cs) : Sp := fun vs H Q _ => ∃ B p L s ex z, vs = [.ref p, .int z] ∧ WK s ∧ Sd K C B H p L s ex ∧ Ans K C B p ex Q (does s (.play z))
theorem ok_play (T : Txt K mg C) : OkF P w K mg base 3 "play" ["duel", "side"] (sp_play K C) := by
  refine T.h_play.ok sc_play (fun vs H Q E h => ?_) (fun f cdv A outer s0 H vs Q E hr h => ?_)
  · obtain ⟨B, p, L, s, ex, z, rfl, _⟩ := h; rfl
  obtain ⟨B, p, L, s, ex, z, rfl, W, S, k⟩ := h
  have cs := T.cs
  refine ⟨_, (pss_cons (ps_if (pt_cmpR (op_notInK K) (pv 1) (pe_gl (by rfl) T.g_SIDES) (by with_unfolding_all rfl)) (pss_one (ps_ret (pe_lst (pa_cons (pe_gl (by rfl) T.g_OUT_OF_RANGE) pa_nil)))) pss_nil)
      (pss_cons (ps_if (pt_cmpR op_ne (pv 1) (pe_fldK K (pv 0) rfl) (nomark _)) (pss_one (ps_ret (pe_lst (pa_cons (pe_gl (by rfl) T.g_NOT_HOLDER) pa_nil)))) pss_nil)
      (pss_cons (ps_if (pt_not (pt_val (pe_fn (ok_may_play (K := K) T) (hr.mono (by decide)) (by rfl) (pa_cons (pv 0) (pa_cons (pv 1) pa_nil))))) (pss_one (ps_ret (pe_lst (pa_cons (pe_gl (by rfl) T.g_NOT_ALLOWED) pa_nil)))) pss_nil)
      (pss_cons (ps_fldaugK K (pv 0) pe_int in_sub)
      (pss_cons (ps_fldK K (pv 0) pe_bl rfl)
      (pss_one (ps_ret (pe_lst (pa_cons (pe_gl (by rfl) T.g_ACCEPTED) (pa_cons (pe_fldK K (pv 0) rfl) pa_nil)))))))))), ?_⟩
  walk_at "rds"
  refine w_iteN (fun h => ?_) (fun h => ?_)
  · walk_at "rds"
    refine k.go ?_ (by assumption) rfl
    rw [mem_sides] at h
    show (if _ then _ else _) = _
    rw [if_pos (from_f h)]
    rfl
  · rw [mem_sides] at h
    obtain ⟨q, rfl⟩ : ∃ q : Nat, z = (q : Int) := ⟨z.toNat, by omega⟩
    have e1 : does s (.play (q : Int)) = if Vbdcaf.holds s q = false then no s 5 else if Vbdcaf.mayPlay s q = false then no s 6 else yes { s with plays := s.plays - 1, passes := 0 } [s.plays - 1] := by
      show (if _ then _ else _) = _
      rw [if_neg (by rw [from_t h]; decide)]
      rfl
    rw [e1] at k
    walk_at "rds"
    refine w_iteN (fun h2 => ?_) (fun h2 => ?_)
    · walk_at "rds"
      refine k.go ?_ (by assumption) rfl
      rw [if_pos (by simp only [Vbdcaf.holds]; grind)]
      rfl
    · have hh : ¬ Vbdcaf.holds s q = false := by simp only [Vbdcaf.holds]; grind
      rw [if_neg hh] at k
      walk_at "rds"
      refine ⟨B, p, L, s, ex, q, rfl, S, fun H1 S1 => ?_⟩
      walk_at "rds"
      refine w_iteNB (fun h3 => ?_) (fun h3 => ?_)
      · walk_at "rds"
        refine k.go ?_ (by assumption) rfl
        rw [if_pos h3]
        rfl
      · rw [if_neg (by rw [h3]; decide)] at k
        have hp : 0 < s.plays := by
          have h3 := h3
          unfold Vbdcaf.mayPlay at h3
          simp at h3
          omega
        walk_at "rds"
        refine wa_plays cs rfl S1 (fun Q h => h) (fun Q h => w_rSub h) (n := s.plays - 1) (by omega) fun H2 S2 => ?_
        walk_at "rds"
        refine ws_passed cs rfl S2 (m := 0) rfl fun H3 S3 => ?_
        walk_at "rds"
        exact k.go rfl (by assumption) rfl
abbrev sp_fight (K : PySem.W.Frag) (C : Cs) : Sp := fun vs H Q _ => ∃ B p L s ex z, vs = [.ref p, .int z] ∧ WK s ∧ Sd K C B H p L s ex ∧ Ans K C B p ex Q (does s (.fight z))
theorem ok_fight (T : Txt K mg C) : OkF P w K mg base 1 "fight" ["duel", "k"] (sp_fight K C) := by
  refine T.h_fight.ok sc_fight (fun vs H Q E h => ?_) (fun f cdv A outer s0 H vs Q E hr h => ?_)
  · obtain ⟨B, p, L, s, ex, z, rfl, _⟩ := h; rfl
  obtain ⟨B, p, L, s, ex, z, rfl, W, S, k⟩ := h
  have cs := T.cs
  refine ⟨_, (pss_cons (ps_if (pt_cmpR (op_notInK K) (pv 1) (pe_tup (pa_cons pe_int (pa_cons pe_int (pa_cons pe_int pa_nil)))) (by with_unfolding_all rfl)) (pss_one (ps_ret (pe_lst (pa_cons (pe_gl (by rfl) T.g_OUT_OF_RANGE) pa_nil)))) pss_nil)
      (pss_cons (ps_if (pt_cmpR (op_notInK K) (pe_fldK K (pv 0) rfl) (pe_tup (pa_cons (pe_gl (by rfl) T.g_ATTACK) (pa_cons (pe_gl (by rfl) T.g_BLOCK) pa_nil))) (by with_unfolding_all rfl)) (pss_one (ps_ret (pe_lst (pa_cons (pe_gl (by rfl) T.g_WRONG_TIME) pa_nil)))) pss_nil)
      (pss_cons (ps_fldK K (pv 0) (pe_cmpR op_gt (pv 1) pe_int (nomark _)) rfl)
      (pss_cons (ps_fldK K (pv 0) (pe_cmpR op_eq (pv 1) pe_int (nomark _)) rfl)
      (pss_one (ps_ret (pe_lst (pa_cons (pe_gl (by rfl) T.g_ACCEPTED) pa_nil)))))))), ?_⟩
  walk_at "rds"
  refine w_iteN (fun h => ?_) (fun h => ?_)
  · simp only [unI, List.mem_cons, List.not_mem_nil, or_false] at h
    walk_at "rds"
    refine k.go ?_ (by assumption) rfl
    show (if _ then _ else _) = _
    rw [if_pos (from_f (by omega))]
    rfl
  · simp only [unI, List.mem_cons, List.not_mem_nil, or_false] at h
    have e1 : does s (.fight z) = if s.step ≠ 4 ∧ s.step ≠ 5 then no s 3 else yes { s with fights := decide (1 ≤ z), firsts := z == 2 } [] := by
      show (if _ then _ else _) = _
      rw [if_neg (by rw [from_t (by omega)]; decide)]
    rw [e1] at k
    walk_at "rds"
    refine w_iteN (fun h2 => ?_) (fun h2 => ?_)
    · simp only [unI, List.mem_cons, List.not_mem_nil, or_false] at h2
      walk_at "rds"
      refine k.go ?_ (by assumption) rfl
      rw [if_pos (by omega)]
      rfl
    · simp only [unI, List.mem_cons, List.not_mem_nil, or_false] at h2
      rw [if_neg (by omega)] at k
      walk_at "rds"
      refine ws_fighting cs rfl (by assumption) fun H3 S3 => ?_
      walk_at "rds"
      refine ws_first_blows cs rfl S3 fun H4 S4 => ?_
      walk_at "rds"
      refine k.go ?_ (by assumption) rfl
      have e2 : decide (1 ≤ z) = decide (0 < z) := dec_iff (by omega)
      have e3 : (z == 2) = decide (z = 2) := Bool.beq_eq_decide_eq z 2
      rw [e2, e3]
      rfl
abbrev sp_extraturn (K : PySem.W.Frag) (C : Cs) : Sp := fun vs H Q _ => ∃ B p L s ex z, vs = [.ref p, .int z] ∧ WK s ∧ Sd K C B H p L s ex ∧ Ans K C B p ex Q (does s (.extraTurn z))
theorem ok_extraturn (T : Txt K mg C) : OkF P w K mg base 1 "extraturn" ["duel", "side"] (sp_extraturn K C) := by
  refine T.h_extraturn.ok sc_extraturn (fun vs H Q E h => ?_) (fun f cdv A outer s0 H vs Q E hr h => ?_)
  · obtain ⟨B, p, L, s, ex, z, rfl, _⟩ := h; rfl
  obtain ⟨B, p, L, s, ex, z, rfl, W, S, k⟩ := h
  have cs := T.cs
  refine ⟨_, (pss_cons (ps_if (pt_cmpR (op_notInK K) (pv 1) (pe_gl (by rfl) T.g_SIDES) (by with_unfolding_all rfl)) (pss_one (ps_ret (pe_lst (pa_cons (pe_gl (by rfl) T.g_OUT_OF_RANGE) pa_nil)))) pss_nil)
      (pss_cons (ps_if (pt_cmpR op_ge (pe_callB (cr_lenK K) (by rfl) T.b_len PySem.boot_len (pa_cons (pe_fldK K (pv 0) rfl) pa_nil)) (pe_gl (by rfl) T.g_MOST_EXTRA_TURNS) (nomark _)) (pss_one (ps_ret (pe_lst (pa_cons (pe_gl (by rfl) T.g_NO_PLACE) pa_nil)))) pss_nil)
      (pss_cons (ps_expr (pe_bmK K PySem.F.plainAttrs_list PySem.F.slot_list_insert PySem.F.type_list_insert mt_insert0 (pe_fldK K (pv 0) rfl) (pa_cons pe_int (pa_cons (pv 1) pa_nil))))
      (pss_one (ps_ret (pe_lst (pa_cons (pe_gl (by rfl) T.g_ACCEPTED) pa_nil))))))), ?_⟩
  walk_at "rds"
  refine w_iteN (fun h => ?_) (fun h => ?_)
  · walk_at "rds"
    refine k.go ?_ (by assumption) rfl
    rw [mem_sides] at h
    show (if _ then _ else _) = _
    rw [if_pos (from_f h)]
    rfl
  · rw [mem_sides] at h
    obtain ⟨q, rfl⟩ : ∃ q : Nat, z = (q : Int) := ⟨z.toNat, by omega⟩
    have e1 : does s (.extraTurn (q : Int)) = if Vbdcaf.LONG ≤ s.extra.length then no s 4 else yes { s with extra := q :: s.extra } [] := by
      show (if _ then _ else _) = _
      rw [if_neg (by rw [from_t h]; decide)]
      rfl
    rw [e1] at k
    walk_at "rds"
    refine w_ite (fun h2 => ?_) (fun h2 => ?_)
    · walk_at "rds"
      refine k.go ?_ (by assumption) rfl
      rw [if_pos (by unfold Vbdcaf.LONG; omega)]
      rfl
    · rw [if_neg (by unfold Vbdcaf.LONG; omega)] at k
      walk_at "rds"
      refine ins_extra_turns S rfl (by rw [sizeLine_eq]; omega) fun H2 S2 => ?_
      walk_at "rds"
      exact k.go rfl (by assumption) rfl
abbrev sp_extrastep (K : PySem.W.Frag) (C : Cs) : Sp := fun vs H Q _ => ∃ B p L s ex z, vs = [.ref p, .int z] ∧ WK s ∧ Sd K C B H p L s ex ∧ Ans K C B p ex Q (does s (.extraStep z))
theorem ok_extrastep (T : Txt K mg C) : OkF P w K mg base 1 "extrastep" ["duel", "k"] (sp_extrastep K C) := by
  refine T.h_extrastep.ok sc_extrastep (fun vs H Q E h => ?_) (fun f cdv A outer s0 H vs Q E hr h => ?_)
  · obtain ⟨B, p, L, s, ex, z, rfl, _⟩ := h; rfl
  obtain ⟨B, p, L, s, ex, z, rfl, W, S, k⟩ := h
  have cs := T.cs
  refine ⟨_, (pss_cons (ps_if (pt_cmpR (op_notInK K) (pv 1) (pe_tup (pa_cons (pe_gl (by rfl) T.g_UPKEEP) (pa_cons (pe_gl (by rfl) T.g_DRAW) (pa_cons (pe_gl (by rfl) T.g_END) pa_nil)))) (by with_unfolding_all rfl)) (pss_one (ps_ret (pe_lst (pa_cons (pe_gl (by rfl) T.g_OUT_OF_RANGE) pa_nil)))) pss_nil)
      (pss_cons (ps_if (pt_cmpR op_ge (pe_callB (cr_lenK K) (by rfl) T.b_len PySem.boot_len (pa_cons (pe_fldK K (pv 0) rfl) pa_nil)) (pe_gl (by rfl) T.g_MOST_STEPS_TO_COME) (nomark _)) (pss_one (ps_ret (pe_lst (pa_cons (pe_gl (by rfl) T.g_NO_PLACE) pa_nil)))) pss_nil)
      (pss_cons (ps_expr (pe_bmK K PySem.F.plainAttrs_list PySem.F.slot_list_insert PySem.F.type_list_insert mt_insert0 (pe_fldK K (pv 0) rfl) (pa_cons pe_int (pa_cons (pv 1) pa_nil))))
      (pss_one (ps_ret (pe_lst (pa_cons (pe_gl (by rfl) T.g_ACCEPTED) pa_nil))))))), ?_⟩
  walk_at "rds"
  refine w_iteN (fun h => ?_) (fun h => ?_)
  · simp only [unI, List.mem_cons, List.not_mem_nil, or_false] at h
    walk_at "rds"
    refine k.go ?_ (by assumption) rfl
    show (if _ then _ else _) = _
    rw [if_pos (by omega)]
    rfl
  · simp only [unI, List.mem_cons, List.not_mem_nil, or_false] at h
    obtain ⟨q, rfl⟩ : ∃ q : Nat, z = (q : Int) := ⟨z.toNat, by omega⟩
    have e1 : does s (.extraStep (q : Int)) = if Vbdcaf.LONG ≤ s.rest.length then no s 4 else yes { s with rest := q :: s.rest } [] := by
      show (if _ then _ else _) = _
      rw [if_neg (by omega)]
      rfl
    rw [e1] at k
    walk_at "rds"
    refine w_ite (fun h2 => ?_) (fun h2 => ?_)
    · walk_at "rds"
      refine k.go ?_ (by assumption) rfl
      rw [if_pos (by unfold Vbdcaf.LONG; omega)]
      rfl
    · rw [if_neg (by unfold Vbdcaf.LONG; omega)] at k
      walk_at "rds"
      refine ins_rest (by assumption) rfl (by rw [sizeLine_eq]; omega) fun H2 S2 => ?_
      walk_at "rds"
      exact k.go rfl (by assumption) rfl
abbrev sp_allow (K : PySem.W.Frag) (C : Cs) : Sp := fun vs H Q _ => ∃ B p L s ex z, vs = [.ref p, .int z] ∧ WK s ∧ Sd K C B H p L s ex ∧ Ans K C B p ex Q (does s (.allow z))
theorem ok_allow (T : Txt K mg C) : OkF P w K mg base 1 "allow" ["duel", "n"] (sp_allow K C) := by
  refine T.h_allow.ok sc_allow (fun vs H Q E h => ?_) (fun f cdv A outer s0 H vs Q E hr h => ?_)
  · obtain ⟨B, p, L, s, ex, z, rfl, _⟩ := h; rfl
  obtain ⟨B, p, L, s, ex, z, rfl, W, S, k⟩ := h
  have cs := T.cs
  refine ⟨_, (pss_cons (ps_if ((pw_or (pt_cmpR op_lt (pv 1) pe_int (nomark _)) (pw_or1 (pt_cmpR op_gt (pv 1) pe_int (nomark _))))).pt (pss_one (ps_ret (pe_lst (pa_cons (pe_gl (by rfl) T.g_OUT_OF_RANGE) pa_nil)))) pss_nil)
      (pss_cons (ps_fldaugK K (pv 0) (pv 1) in_add)
      (pss_one (ps_ret (pe_lst (pa_cons (pe_gl (by rfl) T.g_ACCEPTED) (pa_cons (pe_fldK K (pv 0) rfl) pa_nil))))))), ?_⟩
  walk_at "rds"
  refine w_ite (fun h => ?_) (fun h => ?_)
  · walk_at "rds"
    refine k.go ?_ (by assumption) rfl
    show (if _ then _ else _) = _
    rw [if_pos (from_f (by omega))]
    rfl
  · walk_at "rds"
    refine w_ite (fun h2 => ?_) (fun h2 => ?_)
    · walk_at "rds"
      refine k.go ?_ (by assumption) rfl
      show (if _ then _ else _) = _
      rw [if_pos (from_f (by omega))]
      rfl
    · obtain ⟨q, rfl⟩ : ∃ q : Nat, z = (q : Int) := ⟨z.toNat, by omega⟩
      have e1 : does s (.allow (q : Int)) = yes { s with plays := s.plays + q } [s.plays + q] := by
        show (if _ then _ else _) = _
        rw [if_neg (by rw [from_t (by omega)]; decide)]
        rfl
      rw [e1] at k
      walk_at "rds"
      refine wa_plays cs rfl S (fun Q h => ⟨_, rfl, h⟩) (fun Q h => w_rAdd h) (n := s.plays + q) (by omega) fun H2 S2 => ?_
      walk_at "rds"
      exact k.go rfl (by assumption) rfl
open MA
open Vbdcaf (at_ bump drop1 does Call no yes)
abbrev sp_skip_one_more (K : PySem.W.Frag) (C : Cs) : Sp := fun vs H Q _ => ∃ a l n, vs = [.ref a, .int ((n : Nat) : Int)] ∧ H a = some (.lst (nats l)) ∧ n < l.length ∧ (9 ≤ at_ l n → ∀ b, H b = none → Q (.ref b) (upd H b (.lst [.int (-4)]))) ∧
  (¬ 9 ≤ at_ l n → ∀ b, (upd H a (.lst (nats (l.set n (at_ l n + 1))))) b = none → Q (.ref b) (upd (upd H a (.lst (nats (l.set n (at_ l n + 1))))) b (.lst [.int 0])))
theorem ok_skip_one_more (T : Txt K mg C) : OkF P w K mg base 1 "skip_one_more" ["skipped", "place"] (sp_skip_one_more K C) := by
  refine T.h_skip_one_more.ok sc_skip_one_more (fun vs H Q E h => ?_) (fun f cdv A outer s0 H vs Q E hr h => ?_)
  · obtain ⟨a, l, n, rfl, _⟩ := h; rfl
  obtain ⟨a, l, n, rfl, ha, hn, k1, k2⟩ := h
  have cs := T.cs
  refine ⟨_, (pss_cons (ps_if (pt_cmpR op_ge (pe_ix (ix_listK K) (pv 0) (pv 1) (fun _ _ => rfl)) (pe_gl (by rfl) T.g_MOST_SKIPPED) (nomark _)) (pss_one (ps_ret (pe_lst (pa_cons (pe_gl (by rfl) T.g_NO_PLACE) pa_nil)))) pss_nil)
      (pss_cons (ps_augS (pv 0) (pv 1) (pget_listK K) pe_int ip_add set_list)
      (pss_one (ps_ret (pe_lst (pa_cons (pe_gl (by rfl) T.g_ACCEPTED) pa_nil)))))), ?_⟩
  walk_at "rds"
  refine ix_nats ha rfl hn ?_
  walk_at "rds"
  refine w_ite (fun h => ?_) (fun h => ?_)
  · walk_at "rds"
    exact ⟨small _, k1 (by omega)⟩
  · walk_at "rds"
    refine ix_nats ha rfl hn ?_
    walk_at "rds"
    refine set_nats ha rfl (n := at_ l n + 1) (by omega) hn ?_
    walk_at "rds"
    exact ⟨small _, k2 (by omega)⟩
abbrev sp_skipturn (K : PySem.W.Frag) (C : Cs) : Sp := fun vs H Q _ => ∃ B p L s ex z, vs = [.ref p, .int z] ∧ WK s ∧ Sd K C B H p L s ex ∧ Ans K C B p ex Q (does s (.skipTurn z))
theorem ok_skipturn (T : Txt K mg C) : OkF P w K mg base 2 "skipturn" ["duel", "side"] (sp_skipturn K C) := by
  refine T.h_skipturn.ok sc_skipturn (fun vs H Q E h => ?_) (fun f cdv A outer s0 H vs Q E hr h => ?_)
  · obtain ⟨B, p, L, s, ex, z, rfl, _⟩ := h; rfl
  obtain ⟨B, p, L, s, ex, z, rfl, W, S, k⟩ := h
  have cs := T.cs
  refine ⟨_, (pss_cons (ps_if (pt_cmpR (op_notInK K) (pv 1) (pe_gl (by rfl) T.g_SIDES) (by with_unfolding_all rfl)) (pss_one (ps_ret (pe_lst (pa_cons (pe_gl (by rfl) T.g_OUT_OF_RANGE) pa_nil)))) pss_nil)
      (pss_one (ps_ret (pe_fn (ok_skip_one_more (K := K) T) (hr.mono (by decide)) (by rfl) (pa_cons (pe_fldK K (pv 0) rfl) (pa_cons (pv 1) pa_nil)))))), ?_⟩
  walk_at "rds"
  refine w_iteN (fun h => ?_) (fun h => ?_)
  · walk_at "rds"
    refine k.go ?_ (by assumption) rfl
    rw [mem_sides] at h
    show (if _ then _ else _) = _
    rw [if_pos (from_f h)]
    rfl
  · rw [mem_sides] at h
    obtain ⟨q, rfl⟩ : ∃ q : Nat, z = (q : Int) := ⟨z.toNat, by omega⟩
    have hl := W.stL
    have hq : q < s.skipTurns.length := by omega
    have e1 : does s (.skipTurn (q : Int)) = if 9 ≤ at_ s.skipTurns q then no s 4 else yes { s with skipTurns := bump s.skipTurns q } [] := by
      show (if _ then _ else _) = _
      rw [if_neg (by rw [from_t h]; decide)]
      rfl
    rw [e1, bump_set hq] at k
    walk_at "rds"
    refine ⟨L.a 3, s.skipTurns, q, rfl, S.rep.st, hq, fun h2 b hb => ?_, fun h2 b hb => ?_⟩
    · rw [if_pos h2] at k
      exact k.go rfl (S.alloc hb) rfl
    · rw [if_neg h2] at k
      exact k.go rfl (S.wst.alloc hb) rfl
abbrev sp_skipfight (K : PySem.W.Frag) (C : Cs) : Sp := fun vs H Q _ => ∃ B p L s ex z, vs = [.ref p, .int z] ∧ WK s ∧ Sd K C B H p L s ex ∧ Ans K C B p ex Q (does s (.skipFight z))
theorem ok_skipfight (T : Txt K mg C) : OkF P w K mg base 2 "skipfight" ["duel", "side"] (sp_skipfight K C) := by
  refine T.h_skipfight.ok sc_skipfight (fun vs H Q E h => ?_) (fun f cdv A outer s0 H vs Q E hr h => ?_)
  · obtain ⟨B, p, L, s, ex, z, rfl, _⟩ := h; rfl
  obtain ⟨B, p, L, s, ex, z, rfl, W, S, k⟩ := h
  have cs := T.cs
  refine ⟨_, (pss_cons (ps_if (pt_cmpR (op_notInK K) (pv 1) (pe_gl (by rfl) T.g_SIDES) (by with_unfolding_all rfl)) (pss_one (ps_ret (pe_lst (pa_cons (pe_gl (by rfl) T.g_OUT_OF_RANGE) pa_nil)))) pss_nil)
      (pss_one (ps_ret (pe_fn (ok_skip_one_more (K := K) T) (hr.mono (by decide)) (by rfl) (pa_cons (pe_fldK K (pv 0) rfl) (pa_cons (pv 1) pa_nil)))))), ?_⟩
  walk_at "rds"
  refine w_iteN (fun h => ?_) (fun h => ?_)
  · walk_at "rds"
    refine k.go ?_ (by assumption) rfl
    rw [mem_sides] at h
    show (if _ then _ else _) = _
    rw [if_pos (from_f h)]
    rfl
  · rw [mem_sides] at h
    obtain ⟨q, rfl⟩ : ∃ q : Nat, z = (q : Int) := ⟨z.toNat, by omega⟩
    have hl := W.sfL
    have hq : q < s.skipFights.length := by omega
    have e1 : does s (.skipFight (q : Int)) = if 9 ≤ at_ s.skipFights q then no s 4 else yes { s with skipFights := bump s.skipFights q } [] := by
      show (if _ then _ else _) = _
      rw [if_neg (by rw [from_t h]; decide)]
      rfl
    rw [e1, bump_set hq] at k
    walk_at "rds"
    refine ⟨L.a 4, s.skipFights, q, rfl, S.rep.sf, hq, fun h2 b hb => ?_, fun h2 b hb => ?_⟩
    · rw [if_pos h2] at k
      exact k.go rfl (S.alloc hb) rfl
    · rw [if_neg h2] at k
      exact k.go rfl (S.wsf.alloc hb) rfl
abbrev sp_skipstep (K : PySem.W.Frag) (C : Cs) : Sp := fun vs H Q _ => ∃ B p L s ex z y, vs = [.ref p, .int z, .int y] ∧ WK s ∧ Sd K C B H p L s ex ∧ Ans K C B p ex Q (does s (.skipStep z y))
theorem ok_skipstep (T : Txt K mg C) : OkF P w K mg base 2 "skipstep" ["duel", "side", "k"] (sp_skipstep K C) := by
  refine T.h_skipstep.ok sc_skipstep (fun vs H Q E h => ?_) (fun f cdv A outer s0 H vs Q E hr h => ?_)
  · obtain ⟨B, p, L, s, ex, z, y, rfl, _⟩ := h; rfl
  obtain ⟨B, p, L, s, ex, z, y, rfl, W, S, k⟩ := h
  have cs := T.cs
  refine ⟨_, (pss_cons (ps_if ((pw_or (pt_cmpR (op_notInK K) (pv 1) (pe_gl (by rfl) T.g_SIDES) (by with_unfolding_all rfl)) (pw_or (pt_cmpR op_lt (pv 2) pe_int (nomark _)) (pw_or1 (pt_cmpR op_gt (pv 2) (pe_gl (by rfl) T.g_END) (nomark _)))))).pt (pss_one (ps_ret (pe_lst (pa_cons (pe_gl (by rfl) T.g_OUT_OF_RANGE) pa_nil)))) pss_nil)
      (pss_one (ps_ret (pe_fn (ok_skip_one_more (K := K) T) (hr.mono (by decide)) (by rfl) (pa_cons (pe_ix (ix_listK K) (pe_fldK K (pv 0) rfl) (pv 1) (fun _ _ => rfl)) (pa_cons (pv 2) pa_nil)))))), ?_⟩
  walk_at "rds"
  refine w_iteN (fun h => ?_) (fun h => ?_)
  · rw [mem_sides] at h
    walk_at "rds"
    refine k.go ?_ (by assumption) rfl
    show (if _ then _ else _) = _
    rw [if_pos (by first | exact .inl (from_f h) | exact .inr (from_f (by omega)))]
    rfl
  · rw [mem_sides] at h
    walk_at "rds"
    refine w_ite (fun h2 => ?_) (fun h2 => ?_)
    · skip
      walk_at "rds"
      refine k.go ?_ (by assumption) rfl
      show (if _ then _ else _) = _
      rw [if_pos (by first | exact .inl (from_f h) | exact .inr (from_f (by omega)))]
      rfl
    · walk_at "rds"
      refine w_ite (fun h3 => ?_) (fun h3 => ?_)
      · skip
        walk_at "rds"
        refine k.go ?_ (by assumption) rfl
        show (if _ then _ else _) = _
        rw [if_pos (by first | exact .inl (from_f h) | exact .inr (from_f (by omega)))]
        rfl
      · obtain ⟨q, rfl⟩ : ∃ q : Nat, z = (q : Int) := ⟨z.toNat, by omega⟩
        obtain ⟨i, rfl⟩ : ∃ i : Nat, y = (i : Int) := ⟨y.toNat, by omega⟩
        have hl := W.ssL
        have hq : 11 * q + i < s.skipSteps.length := by omega
        have e1 : does s (.skipStep (q : Int) (i : Int)) = if 9 ≤ at_ s.skipSteps (11 * q + i) then no s 4 else yes { s with skipSteps := bump s.skipSteps (11 * q + i) } [] := by
          show (if _ then _ else _) = _
          rw [if_neg (by rw [from_t h, from_t (by omega)]; decide)]
          rfl
        rw [e1, bump_set hq] at k
        walk_at "rds"
        refine ix_ss S rfl (by omega) ?_
        walk_at "rds"
        have hat : at_ (skRow s q) i = at_ s.skipSteps (11 * q + i) := at_skRow (by omega)
        refine ⟨L.a (6 + q), skRow s q, i, rfl, S.sk hl (by omega), by rw [skRow_len hl (by omega)]; omega, fun h4 b hb => ?_, fun h4 b hb => ?_⟩
        · rw [hat] at h4
          rw [if_pos h4] at k
          exact k.go rfl (S.alloc hb) rfl
        · rw [hat] at h4 hb ⊢
          rw [if_neg h4] at k
          exact k.go rfl ((S.wsk hl (by omega) (by omega)).alloc hb) rfl
open MA
open Vbdcaf (at_ bump drop1 does Call no yes)
section
variable {B H : Hp} {p : Addr} {L : Lay} {s : State} {ex : List (Addr × HO)} {σ : L2.St} {Q : VK} {i : Nat}
/-- a comprehension over the tuple x -/
def LcT (K : PySem.W.Frag) (g : TG) (tt : TT) (te : TE) (vs : List Nat) (σ : L2.St) (x : V) (H1 : Hp) (Q : VK) : Prop := ∃ a, x = .ref a ∧ (∃ xs, SqT K H1 a xs) ∧ ∀ E, H1 E = none → ∃ W : Nat → Nat → Hp → Prop, (∃ m, W 0 m (upd H1 E (.lst []))) ∧ ∀ j m H, W j m H →
      ((Itt K a).stop j H ∧ Q (.ref E) H) ∨ ((Itt K a).go j H ∧ ∃ Nx : Hp → Prop, (∀ H', Nx H' → ∃ m', m' < m ∧ W (j + 1) m' H') ∧ ∀ x H', (Itt K a).yld j H x H' → g x (wipe σ vs) H' fun σ2 H2 => wipe σ2 vs = wipe σ vs ∧ tt σ2 H2 fun b H3 =>
        if b = true then te σ2 H3 fun y H4 => ∃ acc, H4 E = some (.lst acc) ∧ acc.length < sizeLine ∧ Nx (upd H4 E (.lst (acc ++ [y]))) else Nx H3)
theorem w_lcT {tl : TE} {g : TG} {tt : TT} {te : TE} {vs : List Nat} (h : tl σ H fun x H1 => LcT K g tt te vs σ x H1 Q) : tLc (iTup K tl) g tt te vs σ H Q := h
theorem lc_sdT {tt : TT} {te : TE} {a : Addr} {xs : List V} (I : Nat → List V → Hp → Prop) (S : Sd K C B H p L s ex) (hs : SqT K H a xs) (src : ∀ H1 E acc, Sd K C B H1 p L s ((E, .lst acc) :: ex) → SqT K H1 a xs) (h0 : ∀ H1, Keep H H1 → I 0 [] H1)
    (step : ∀ j x acc H1 E, xs[j]? = some x → acc.length ≤ j → I j acc H1 → Sd K C B H1 p L s ((E, .lst acc) :: ex) → tt (σ.set i (some x)) H1 fun b H2 => if b = true then te (σ.set i (some x)) H2 fun y H3 => LcY K C B p L s ex E I (j + 1) y H3 else LcP K C B p L s ex E I (j + 1) H2)
    (fin : ∀ E acc H1, I xs.length acc H1 → Sd K C B H1 p L s ((E, .lst acc) :: ex) → Q (.ref E) H1) : LcT K (gName i) tt te [i] σ (.ref a) H Q := by
  refine ⟨a, rfl, ⟨xs, hs⟩, fun E hE => ?_⟩
  refine lc_tup (K := K) (a := a) (xs := xs) (g := gName i) (Qd := fun H => Q (.ref E) H) (LcP K C B p L s ex E I) ⟨[], Nat.le_refl _, S.alloc hE, h0 _ (Keep.new hE)⟩ (fun j H1 _ ⟨acc, _, S1, _⟩ => src H1 E acc S1) (fun j x H1 hx ⟨acc, hj, S1, hI⟩ => ?_) (fun H1 ⟨acc, _, S1, hI⟩ => fin E acc H1 hI S1)
  have e1 : (wipe σ [i]).set i (some x) = σ.set i (some x) := by simp [wipe]
  show wipe ((wipe σ [i]).set i (some x)) [i] = wipe σ [i] ∧ _
  rw [e1]
  exact ⟨by simp [wipe], step j x acc H1 E hx hj hI S1⟩
end
abbrev sp_now (K : PySem.W.Frag) (C : Cs) : Sp := fun vs H Q _ => ∃ B p L s ex z, vs = [.ref p, .int z] ∧ WK s ∧ Sd K C B H p L s ex ∧ Ans K C B p ex Q (does s (.now z))
theorem ok_now (T : Txt K mg C) : OkF P w K mg base 3 "now" ["duel", "side"] (sp_now K C) := by
  refine T.h_now.ok sc_now (fun vs H Q E h => ?_) (fun f cdv A outer s0 H vs Q E hr h => ?_)
  · obtain ⟨B, p, L, s, ex, z, rfl, _⟩ := h; rfl
  obtain ⟨B, p, L, s, ex, z, rfl, W, S, k⟩ := h
  have cs := T.cs
  refine ⟨_, (pss_cons (ps_if (pt_cmpR (op_notInK K) (pv 1) (pe_gl (by rfl) T.g_SIDES) (by with_unfolding_all rfl)) (pss_one (ps_ret (pe_lst (pa_cons (pe_gl (by rfl) T.g_OUT_OF_RANGE) pa_nil)))) pss_nil)
      (pss_cons (ps_set (i := 2) sc_now.nd rfl (by first | exact Or.inl rfl | exact Or.inr rfl) (pe_tup (pa_cons (pe_cmpR op_eq (pv 1) (pe_fldK K (pv 0) rfl) (nomark _)) (pa_cons (pe_fn (ok_may_act (K := K) T) (hr.mono (by decide)) (by rfl) (pa_cons (pv 0) (pa_cons (pv 1) (pa_cons pe_int pa_nil)))) (pa_cons (pe_fn (ok_may_act (K := K) T) (hr.mono (by decide)) (by rfl) (pa_cons (pv 0) (pa_cons (pv 1) (pa_cons pe_int pa_nil)))) (pa_cons (pe_fn (ok_may_play (K := K) T) (hr.mono (by decide)) (by rfl) (pa_cons (pv 0) (pa_cons (pv 1) pa_nil))) pa_nil))))))
      (pss_one (ps_ret (pe_op op_cat (pe_lst (pa_cons (pe_gl (by rfl) T.g_ACCEPTED) pa_nil)) (pe_lc rfl sc_now.nd (pi_tupK K (pv 2)) (own := [("yes", 3)]) (blkOk_by (show blkC ["duel", "side", "told", "yes"] (defScope s_now) _ _ = true by decide +kernel)) (fun _ _ _ _ _ => pg_name (i := 3) sc_now.nd rfl (by first | exact Or.inl rfl | exact Or.inr rfl)) (fun _ _ _ _ _ => pts_nil) (fun _ _ _ _ _ => (pe_ifExp (pt_val (pv 3)) pe_int pe_int)))))))), ?_⟩
  have hl : s.stack.length ≤ 1000 := by have := W.things; omega
  walk_at "rds"
  refine w_iteN (fun h => ?_) (fun h => ?_)
  · walk_at "rds"
    refine k.go ?_ (by assumption) rfl
    rw [mem_sides] at h
    show (if _ then _ else _) = _
    rw [if_pos (from_f h)]
    rfl
  · rw [mem_sides] at h
    obtain ⟨q, rfl⟩ : ∃ q : Nat, z = (q : Int) := ⟨z.toNat, by omega⟩
    have e1 : does s (.now (q : Int)) = yes s [Vbdcaf.bit (Vbdcaf.holds s q), Vbdcaf.bit (Vbdcaf.mayAct s q), Vbdcaf.bit (Vbdcaf.maySlow s q && Vbdcaf.mayAct s q), Vbdcaf.bit (Vbdcaf.mayPlay s q)] := by
      show (if _ then _ else _) = _
      rw [if_neg (by rw [from_t h]; decide)]
      rfl
    rw [e1] at k
    walk_at "rds"
    refine ⟨B, p, L, s, ex, q, 0, rfl, hl, .inl rfl, S, fun H1 S1 => ?_⟩
    walk_at "rds"
    refine ⟨B, p, L, s, ex, q, 1, rfl, hl, .inr rfl, S1, fun H2 S2 => ?_⟩
    walk_at "rds"
    refine ⟨B, p, L, s, ex, q, rfl, S2, fun H3 S3 => ?_⟩
    walk_at "rds"
    rename_i a4 H4 S4 a5 H5 S5
    have b0 : decide ((q : Int) = (s.holder : Int)) = Vbdcaf.holds s q := by simp only [Vbdcaf.holds]; grind
    have b1 : (Vbdcaf.mayAct s q && ((0 : Int) == 0 || Vbdcaf.maySlow s q)) = Vbdcaf.mayAct s q := by cases Vbdcaf.mayAct s q <;> rfl
    have b2 : (Vbdcaf.mayAct s q && ((1 : Int) == 0 || Vbdcaf.maySlow s q)) = (Vbdcaf.maySlow s q && Vbdcaf.mayAct s q) := by cases Vbdcaf.mayAct s q <;> cases Vbdcaf.maySlow s q <;> rfl
    rw [b0, b1, b2] at S5
    clear S4
    generalize Vbdcaf.holds s q = c0 at S5 k
    generalize Vbdcaf.mayAct s q = c1 at S5 k
    generalize (Vbdcaf.maySlow s q && c1) = c2 at S5 k
    generalize Vbdcaf.mayPlay s q = c3 at S5 k
    refine w_lcT ?_
    walk_at "rds"
    refine lc_sdT (xs := [c0, c1, c2, c3].map V.bl) (fun j acc _ => acc = ([c0, c1, c2, c3].take j).map fun b => V.int (if b = true then 1 else 0)) S5 (SqT.of S5.at1) (fun H1 E acc S1 => SqT.of S1.at2) (fun _ _ => rfl) ?_ ?_
    · intro j x acc H6 E hx hj hI S6
      have hj4 : j < 4 := (List.getElem?_eq_some_iff.mp hx).1
      rw [List.getElem?_map] at hx
      obtain ⟨b, hb, rfl⟩ := Option.map_eq_some_iff.mp hx
      have fin : LcY K C B p L s ((a5, HO.lst [V.int 0]) :: (a4, HO.tup [V.bl c0, V.bl c1, V.bl c2, V.bl c3]) :: ex) E (fun j acc _ => acc = ([c0, c1, c2, c3].take j).map fun b => V.int (if b = true then 1 else 0)) (j + 1) (.int (if b = true then 1 else 0)) H6 := by
        refine lc_yes S6 hj (by rw [sizeLine_eq]; omega) fun H7 _ => ?_
        rw [take_snoc hb, List.map_append, hI]
        rfl
      walk_at "rds"
      cases b
      · walk_at "rds"
        exact fin
      · walk_at "rds"
        exact fin
    · intro E acc H6 hI S6
      subst hI
      refine cat_sd S6 (small _) fun l H7 S7 => ?_
      refine k.go ?_ S7.d1 ?_
      · cases c0 <;> cases c1 <;> cases c2 <;> cases c3 <;> rfl
      · cases c0 <;> cases c1 <;> cases c2 <;> cases c3 <;> rfl
open MA
open Vbdcaf (at_ bump drop1 does Call no yes)
def putIn (z : Int) : List (List Nat) := if z = 0 then [[8]] else if z = 1 then [Vbdcaf.FIGHT] else [Vbdcaf.FIGHT, [8]]
abbrev sp_phases_put_in (K : PySem.W.Frag) (C : Cs) : Sp := fun vs H Q _ => ∃ B p L s ex z, vs = [.int z] ∧ Sd K C B H p L s ex ∧ ∀ a us H', Sd K C B H' p L s ((a, .lst us) :: ex) → Paired (RT K H') us (putIn z) → Q (.ref a) H'
theorem ok_phases_put_in (T : Txt K mg C) : OkF P w K mg base 1 "phases_put_in" ["k"] (sp_phases_put_in K C) := by
  refine T.h_phases_put_in.ok sc_phases_put_in (fun vs H Q E h => ?_) (fun f cdv A outer s0 H vs Q E hr h => ?_)
  · obtain ⟨B, p, L, s, ex, z, rfl, _⟩ := h; rfl
  obtain ⟨B, p, L, s, ex, z, rfl, S, k⟩ := h
  have cs := T.cs
  refine ⟨_, (pss_cons (ps_if (pt_cmpR op_eq (pv 0) pe_int (nomark _)) (pss_one (ps_ret (pe_lst (pa_cons (pe_gl (by rfl) T.g_SECOND_MAIN_PHASE) pa_nil)))) pss_nil)
      (pss_cons (ps_if (pt_cmpR op_eq (pv 0) pe_int (nomark _)) (pss_one (ps_ret (pe_lst (pa_cons (pe_gl (by rfl) T.g_FIGHT_PHASE) pa_nil)))) pss_nil)
      (pss_one (ps_ret (pe_lst (pa_cons (pe_gl (by rfl) T.g_FIGHT_PHASE) (pa_cons (pe_gl (by rfl) T.g_SECOND_MAIN_PHASE) pa_nil))))))), ?_⟩
  have t1 : ∀ H, RT K H (.ref (C.tu 1)) [4, 5, 6, 7] := fun H => ⟨_, rfl, T.t_FIGHT_PHASE.sq H⟩
  have t2 : ∀ H, RT K H (.ref (C.tu 2)) [8] := fun H => ⟨_, rfl, T.t_SECOND_MAIN_PHASE.sq H⟩
  unfold putIn at k
  walk_at "rds"
  refine w_ite (fun h => ?_) (fun h => ?_)
  · rw [if_pos h] at k
    walk_at "rds"
    exact k _ _ _ (by assumption) (.cons (t2 _) .nil)
  · rw [if_neg h] at k
    walk_at "rds"
    refine w_ite (fun h2 => ?_) (fun h2 => ?_)
    · rw [if_pos h2] at k
      walk_at "rds"
      exact k _ _ _ (by assumption) (.cons (t1 _) .nil)
    · rw [if_neg h2] at k
      walk_at "rds"
      exact k _ _ _ (by assumption) (.cons (t1 _) (.cons (t2 _) .nil))
abbrev sp_extraphase (K : PySem.W.Frag) (C : Cs) : Sp := fun vs H Q _ => ∃ B p L s ex z, vs = [.ref p, .int z] ∧ WK s ∧ Sd K C B H p L s ex ∧ Ans K C B p ex Q (does s (.extraPhase z))
theorem ok_extraphase (T : Txt K mg C) : OkF P w K mg base 2 "extraphase" ["duel", "k"] (sp_extraphase K C) := by
  refine T.h_extraphase.ok sc_extraphase (fun vs H Q E h => ?_) (fun f cdv A outer s0 H vs Q E hr h => ?_)
  · obtain ⟨B, p, L, s, ex, z, rfl, _⟩ := h; rfl
  obtain ⟨B, p, L, s, ex, z, rfl, W, S, k⟩ := h
  have cs := T.cs
  refine ⟨_, (pss_cons (ps_if (pt_cmpR (op_notInK K) (pv 1) (pe_tup (pa_cons pe_int (pa_cons pe_int (pa_cons pe_int pa_nil)))) (by with_unfolding_all rfl)) (pss_one (ps_ret (pe_lst (pa_cons (pe_gl (by rfl) T.g_OUT_OF_RANGE) pa_nil)))) pss_nil)
      (pss_cons (ps_set (i := 2) sc_extraphase.nd rfl (by first | exact Or.inl rfl | exact Or.inr rfl) (pe_op op_cat (pe_fn (ok_phases_put_in (K := K) T) (hr.mono (by decide)) (by rfl) (pa_cons (pv 1) pa_nil)) (pe_fldK K (pv 0) rfl)))
      (pss_cons (ps_if (pt_cmpR op_gt (pe_callB (cr_lenK K) (by rfl) T.b_len PySem.boot_len (pa_cons (pv 2) pa_nil)) (pe_gl (by rfl) T.g_MOST_PHASES_TO_COME) (nomark _)) (pss_one (ps_ret (pe_lst (pa_cons (pe_gl (by rfl) T.g_NO_PLACE) pa_nil)))) pss_nil)
      (pss_cons (ps_fldK K (pv 0) (pv 2) rfl)
      (pss_one (ps_ret (pe_lst (pa_cons (pe_gl (by rfl) T.g_ACCEPTED) pa_nil)))))))), ?_⟩
  have hll := W.laterL
  walk_at "rds"
  refine w_iteN (fun h => ?_) (fun h => ?_)
  · simp only [unI, List.mem_cons, List.not_mem_nil, or_false] at h
    walk_at "rds"
    refine k.go ?_ (by assumption) rfl
    show (if _ then _ else _) = _
    rw [if_pos (from_f (by omega))]
    rfl
  · simp only [unI, List.mem_cons, List.not_mem_nil, or_false] at h
    have hlen : (putIn z).length = if z = 2 then 2 else 1 := by
      unfold putIn
      rcases h with rfl | rfl | rfl <;> rfl
    have e1 : does s (.extraPhase z) = if 20 < (putIn z).length + s.later.length then no s 4 else yes { s with later := putIn z ++ s.later } [] := by
      show (if _ then _ else if _ then _ else _) = _
      rw [if_neg (by rw [from_t (by omega)]; decide)]
      unfold Vbdcaf.LONG
      by_cases hc : 20 < (putIn z).length + s.later.length
      · rw [if_pos hc, if_pos (by rw [hlen] at hc; split at hc <;> rename_i q <;> simp only [q, if_true, if_false] <;> omega)]
      · rw [if_neg hc, if_neg (by rw [hlen] at hc; split at hc <;> rename_i q <;> simp only [q, if_true, if_false] <;> omega)]
        rfl
    rw [e1] at k
    walk_at "rds"
    refine ⟨B, p, L, s, _, z, rfl, (by assumption), fun a us H2 S2 hus => ?_⟩
    have hul := Paired.length hus
    have hvl : (L.v 1).length = s.later.length := Paired.length S2.rep.phsR
    walk_at "rds"
    refine ⟨a, L.a 1, us, L.v 1, rfl, rfl, S2.at0, S2.rep.phs, ?_, fun l hl => ?_⟩
    · rw [sizeLine_eq]
      have : us.length ≤ 2 := by rw [hul, hlen]; split <;> omega
      omega
    have S3 := (S2.alloc (o := .lst (us ++ L.v 1)) hl).d1
    have k3 : Keep H2 (upd H2 l (.lst (us ++ L.v 1))) := Keep.new hl
    have hpp : Paired (RT K (upd H2 l (.lst (us ++ L.v 1)))) (us ++ L.v 1) (putIn z ++ s.later) := pairs_app (pairs_keep (RT.keep k3) hus) (pairs_keep (RT.keep k3) S2.rep.phsR)
    clear k3
    generalize upd H2 l _ = H3 at S3 hpp ⊢
    walk_at "rds"
    refine ⟨l, _, rfl, .inl (SqL.of S3.at0), ?_⟩
    walk_at "rds"
    rw [List.length_append, hul, hvl]
    refine w_ite (fun h2 => ?_) (fun h2 => ?_)
    · rw [if_pos (by omega)] at k
      walk_at "rds"
      refine k.go rfl (Sd.d1 (by assumption)) rfl
    · rw [if_neg (by omega)] at k
      walk_at "rds"
      refine ws_phases cs rfl S3 hpp fun H4 S4 => ?_
      walk_at "rds"
      exact k.go rfl (by assumption) rfl
open MA
open Vbdcaf (at_ bump drop1 does Call no yes)
abbrev sp_do_top (K : PySem.W.Frag) (C : Cs) : Sp := fun vs H Q _ => ∃ B p L s ex i r t xs, vs = [.ref p, .ref t] ∧ s.stack = i :: r ∧ xs.length + 2 ≤ sizeLine ∧ Sd K C B H p L s ((t, .lst (tin xs)) :: ex) ∧ ∀ H' L', Sd K C B H' p L' { s with stack := r, holder := s.active, passes := 0, done := s.done + 1 } ((t, .lst (tin (xs ++ fl [{ sort := 3, what := i.num }]))) :: ex) → Q .non H'
theorem ok_do_top (T : Txt K mg C) : OkF P w K mg base 2 "do_top" ["duel", "told"] (sp_do_top K C) := by
  refine T.h_do_top.ok sc_do_top (fun vs H Q E h => ?_) (fun f cdv A outer s0 H vs Q E hr h => ?_)
  · obtain ⟨B, p, L, s, ex, i, r, t, xs, rfl, _⟩ := h; rfl
  obtain ⟨B, p, L, s, ex, i, r, t, xs, rfl, hst, hz, S, k⟩ := h
  have cs := T.cs
  refine ⟨_, (pss_cons (ps_set (i := 2) sc_do_top.nd rfl (by first | exact Or.inl rfl | exact Or.inr rfl) (pe_bmK K PySem.F.plainAttrs_list PySem.F.slot_list_pop PySem.F.type_list_pop mt_popAt (pe_fldK K (pv 0) rfl) (pa_cons pe_int pa_nil)))
      (pss_cons (ps_fldaugK K (pv 0) pe_int in_add)
      (pss_cons (ps_expr (pe_bmK K PySem.F.plainAttrs_list PySem.F.slot_list_extend PySem.F.type_list_extend mt_extend (pv 1) (pa_cons (pe_lst (pa_cons (pe_gl (by rfl) T.g_ITEM_DONE) (pa_cons (pe_fldK K (pv 2) rfl) pa_nil))) pa_nil)))
      (pss_one (ps_expr (pe_fn (ok_ask_active_side (K := K) T) (hr.mono (by decide)) (by rfl) (pa_cons (pv 0) pa_nil))))))), ?_⟩
  walk_at "rds"
  refine pop_stack S hst fun v H1 vs R1 S1' => ?_
  have hkp := S1'.kp
  have S1 := S1'.rebase
  clear S1'
  walk_at "rds"
  refine wa_items_done cs rfl S1 (fun Q h => h) (fun Q h => w_rAdd h) (n := s.done + 1) rfl fun H1b S1b => ?_
  clear S1
  walk_at "rds"
  refine tell2 { sort := 3, what := i.num } (by assumption) rfl rfl hz fun H2 S2 => ?_
  walk_at "rds"
  refine ⟨_, p, _, _, _, rfl, S2, fun H3 S3 => ?_⟩
  walk_at "rds"
  exact k _ _ (S3.base hkp)
theorem tell_is (x : State × List Ev) : Vbdcaf.tell x = (x.1, 0 :: fl x.2) := by
  have e := tell_eq x
  have e2 : (Vbdcaf.tell x).1 = x.1 := rfl
  rw [← e, ← e2]
abbrev sp_pass_on (K : PySem.W.Frag) (C : Cs) : Sp := fun vs H Q _ => ∃ B p L s ex z, vs = [.ref p, .int z] ∧ WK s ∧ Sd K C B H p L s ex ∧ Ans K C B p ex Q (does s (.pass z))
theorem ok_pass_on (T : Txt K mg C) : OkF P w K mg base 9 "pass_on" ["duel", "side"] (sp_pass_on K C) := by
  refine T.h_pass_on.ok sc_pass_on (fun vs H Q E h => ?_) (fun f cdv A outer s0 H vs Q E hr h => ?_)
  · obtain ⟨B, p, L, s, ex, z, rfl, _⟩ := h; rfl
  obtain ⟨B, p, L, s, ex, z, rfl, W, S, k⟩ := h
  have cs := T.cs
  refine ⟨_, (pss_cons (ps_if (pt_cmpR (op_notInK K) (pv 1) (pe_gl (by rfl) T.g_SIDES) (by with_unfolding_all rfl)) (pss_one (ps_ret (pe_lst (pa_cons (pe_gl (by rfl) T.g_OUT_OF_RANGE) pa_nil)))) pss_nil)
      (pss_cons (ps_if (pt_cmpR op_ne (pv 1) (pe_fldK K (pv 0) rfl) (nomark _)) (pss_one (ps_ret (pe_lst (pa_cons (pe_gl (by rfl) T.g_NOT_HOLDER) pa_nil)))) pss_nil)
      (pss_cons (ps_set (i := 2) sc_pass_on.nd rfl (by first | exact Or.inl rfl | exact Or.inr rfl) (pe_lst (pa_cons (pe_gl (by rfl) T.g_ACCEPTED) pa_nil)))
      (pss_cons (ps_if (pt_not (pt_val (pe_fldK K (pv 0) rfl))) (pss_cons (ps_fldK K (pv 0) (pe_op op_sub pe_int (pv 1)) rfl)
      (pss_one (ps_fldK K (pv 0) pe_bl rfl))) (pss_one (ps_if (pt_cmpR op_gt (pe_callB (cr_lenK K) (by rfl) T.b_len PySem.boot_len (pa_cons (pe_fldK K (pv 0) rfl) pa_nil)) pe_int (nomark _)) (pss_one (ps_expr (pe_fn (ok_do_top (K := K) T) (hr.mono (by decide)) (by rfl) (pa_cons (pv 0) (pa_cons (pv 2) pa_nil))))) (pss_one (ps_expr (pe_fn (ok_end_asked_step (K := K) T) (hr.mono (by decide)) (by rfl) (pa_cons (pv 0) (pa_cons (pv 2) pa_nil))))))))
      (pss_one (ps_ret (pv 2))))))), ?_⟩
  have hpas := W.pas
  walk_at "rds"
  refine w_iteN (fun h => ?_) (fun h => ?_)
  · walk_at "rds"
    refine k.go ?_ (by assumption) rfl
    rw [mem_sides] at h
    show (if _ then _ else _) = _
    rw [if_pos (from_f h)]
    rfl
  · rw [mem_sides] at h
    obtain ⟨q, rfl⟩ : ∃ q : Nat, z = (q : Int) := ⟨z.toNat, by omega⟩
    have e1 : does s (.pass (q : Int)) = if Vbdcaf.holds s q = false then no s 5 else Vbdcaf.tell (Vbdcaf.pass_ s) := by
      show (if _ then _ else _) = _
      rw [if_neg (by rw [from_t h]; decide)]
      rfl
    rw [e1] at k
    walk_at "rds"
    refine w_iteN (fun h2 => ?_) (fun h2 => ?_)
    · walk_at "rds"
      refine k.go ?_ (by assumption) rfl
      rw [if_pos (by simp only [Vbdcaf.holds]; grind)]
      rfl
    · have hq : s.holder = q := by omega
      rw [if_neg (by simp only [Vbdcaf.holds]; grind), tell_is] at k
      walk_at "rds"
      rename_i a H1 S1
      refine w_iteNB (fun h3 => ?_) (fun h3 => ?_)
      · have h3 : s.passes = 0 := by
          have h3 : (s.passes == 1) = false := h3
          simp at h3
          omega
        have e2 : Vbdcaf.pass_ s = ({ s with passes := 1, holder := Vbdcaf.other s.holder }, []) := by unfold Vbdcaf.pass_; rw [if_pos h3]
        rw [e2] at k
        walk_at "rds"
        refine ws_holder cs rfl S1 (n := Vbdcaf.other s.holder) (by unfold Vbdcaf.other; omega) fun H2 S2 => ?_
        walk_at "rds"
        refine ws_passed cs rfl S2 (m := 1) rfl fun H3 S3 => ?_
        walk_at "rds"
        exact k _ _ _ S3
      · have h3 : ¬ s.passes = 0 := by
          have h3 : (s.passes == 1) = true := h3
          simp at h3
          omega
        walk_at "rds"
        cases hst : s.stack with
        | cons i r =>
          refine w_ite (fun h4 => ?_) (fun h4 => absurd (by simp) h4)
          have e2 : Vbdcaf.pass_ s = ({ s with stack := r, holder := s.active, passes := 0, done := s.done + 1 }, [{ sort := 3, what := i.num }]) := by
            unfold Vbdcaf.pass_
            rw [if_neg h3, hst]
          rw [e2] at k
          walk_at "rds"
          refine ⟨B, p, L, s, ex, i, r, a, [0], rfl, hst, small _, S1, fun H2 L2 S2 => ?_⟩
          walk_at "rds"
          exact k _ _ _ S2
        | nil =>
          refine w_ite (fun h4 => absurd h4 (by simp)) (fun h4 => ?_)
          have e2 : Vbdcaf.pass_ s = Vbdcaf.endStep s := by
            unfold Vbdcaf.pass_
            rw [if_neg h3, hst]
          rw [e2] at k
          walk_at "rds"
          refine ⟨B, p, L, s, ex, a, [0], rfl, W, S1, small _, fun H2 L2 S2 => ?_⟩
          walk_at "rds"
          exact k _ _ _ S2
abbrev sp_begin (K : PySem.W.Frag) (C : Cs) : Sp := fun vs H Q _ => ∃ B p L s ex z, vs = [.ref p, .int z] ∧ WK s ∧ Sd K C B H p L s ex ∧ Ans K C B p ex Q (Vbdcaf.step s (.begin_ z))
theorem ok_begin (T : Txt K mg C) : OkF P w K mg base 8 "begin" ["duel", "side"] (sp_begin K C) := by
  refine T.h_begin.ok sc_begin (fun vs H Q E h => ?_) (fun f cdv A outer s0 H vs Q E hr h => ?_)
  · obtain ⟨B, p, L, s, ex, z, rfl, _⟩ := h; rfl
  obtain ⟨B, p, L, s, ex, z, rfl, W, S, k⟩ := h
  have cs := T.cs
  refine ⟨_, (pss_cons (ps_if (pt_cmpR (op_notInK K) (pv 1) (pe_gl (by rfl) T.g_SIDES) (by with_unfolding_all rfl)) (pss_one (ps_ret (pe_lst (pa_cons (pe_gl (by rfl) T.g_OUT_OF_RANGE) pa_nil)))) pss_nil)
      (pss_cons (ps_if (pt_cmpR op_gt (pe_fldK K (pv 0) rfl) pe_int (nomark _)) (pss_one (ps_ret (pe_lst (pa_cons (pe_gl (by rfl) T.g_WRONG_TIME) pa_nil)))) pss_nil)
      (pss_cons (ps_fldK K (pv 0) (pe_op op_sub pe_int (pv 1)) rfl)
      (pss_cons (ps_set (i := 2) sc_begin.nd rfl (by first | exact Or.inl rfl | exact Or.inr rfl) (pe_lst (pa_cons (pe_gl (by rfl) T.g_ACCEPTED) pa_nil)))
      (pss_cons (ps_expr (pe_fn (ok_go_on (K := K) T) (hr.mono (by decide)) (by rfl) (pa_cons (pv 0) (pa_cons (pv 2) pa_nil))))
      (pss_one (ps_ret (pv 2)))))))), ?_⟩
  walk_at "rds"
  refine w_iteN (fun h => ?_) (fun h => ?_)
  · walk_at "rds"
    refine k.go ?_ (by assumption) rfl
    rw [mem_sides] at h
    have hf := from_f h
    unfold Vbdcaf.step
    split
    · dsimp only
      rw [if_pos hf]
      rfl
    · show (if _ then _ else _) = _
      rw [if_pos hf]
      rfl
  · rw [mem_sides] at h
    obtain ⟨q, rfl⟩ : ∃ q : Nat, z = (q : Int) := ⟨z.toNat, by omega⟩
    have hf : ¬ Vbdcaf.from_ (q : Int) 0 1 = false := by rw [from_t h]; decide
    walk_at "rds"
    refine w_ite (fun h2 => ?_) (fun h2 => ?_)
    · walk_at "rds"
      refine k.go ?_ (by assumption) rfl
      unfold Vbdcaf.step
      rw [if_neg (by omega)]
      show (if _ then _ else _) = _
      rw [if_neg hf]
      rfl
    · have e1 : Vbdcaf.step s (.begin_ (q : Int)) = Vbdcaf.tell (Vbdcaf.onward Vbdcaf.FUEL { s with ordinary := Vbdcaf.other q } []) := by
        unfold Vbdcaf.step
        rw [if_pos (by omega)]
        dsimp only
        rw [if_neg hf]
        rfl
      rw [e1, tell_is] at k
      have W1 : WF { s with ordinary := Vbdcaf.other q } := { W.toWF with ord := by show Vbdcaf.other q ≤ 1; unfold Vbdcaf.other; omega }
      walk_at "rds"
      refine ws_last_ordinary cs rfl S (n := Vbdcaf.other q) (by unfold Vbdcaf.other; omega) fun H1 S1 => ?_
      walk_at "rds"
      rename_i a H2 S2
      have h1 := pot_le W1
      have h3 := mu_le W1
      refine ⟨B, p, L, _, ex, a, [0], [], rfl, W1, S2, ?_, fun H3 L3 S3 => ?_⟩
      · unfold evs
        rw [sizeLine_eq]
        show 1 + 2 * (0 + _) ≤ _
        omega
      · walk_at "rds"
        exact k _ _ _ S3
abbrev sp_act (K : PySem.W.Frag) (C : Cs) : Sp := fun vs H Q _ => ∃ B p L s ex z y x, vs = [.ref p, .int z, .int y, .int x] ∧ WK s ∧ Sd K C B H p L s ex ∧ Ans K C B p ex Q (does s (.act z y x))
theorem ok_act (T : Txt K mg C) : OkF P w K mg base 3 "act" ["duel", "side", "shut", "slow"] (sp_act K C) := by
  refine T.h_act.ok sc_act (fun vs H Q E h => ?_) (fun f cdv A outer s0 H vs Q E hr h => ?_)
  · obtain ⟨B, p, L, s, ex, z, y, x, rfl, _⟩ := h; rfl
  obtain ⟨B, p, L, s, ex, z, y, x, rfl, W, S, k⟩ := h
  have cs := T.cs
  refine ⟨_, (pss_cons (ps_if ((pw_or (pt_cmpR (op_notInK K) (pv 1) (pe_gl (by rfl) T.g_SIDES) (by with_unfolding_all rfl)) (pw_or (pt_cmpR (op_notInK K) (pv 2) (pe_tup (pa_cons pe_int (pa_cons pe_int pa_nil))) (by with_unfolding_all rfl)) (pw_or1 (pt_cmpR (op_notInK K) (pv 3) (pe_tup (pa_cons pe_int (pa_cons pe_int pa_nil))) (by with_unfolding_all rfl)))))).pt (pss_one (ps_ret (pe_lst (pa_cons (pe_gl (by rfl) T.g_OUT_OF_RANGE) pa_nil)))) pss_nil)
      (pss_cons (ps_if (pt_cmpR op_ge (pe_fn (ok_count_things (K := K) T) (hr.mono (by decide)) (by rfl) (pa_cons (pv 0) pa_nil)) (pe_gl (by rfl) T.g_MOST_THINGS) (nomark _)) (pss_one (ps_ret (pe_lst (pa_cons (pe_gl (by rfl) T.g_NO_PLACE) pa_nil)))) pss_nil)
      (pss_cons (ps_if (pt_cmpR op_ne (pv 1) (pe_fldK K (pv 0) rfl) (nomark _)) (pss_one (ps_ret (pe_lst (pa_cons (pe_gl (by rfl) T.g_NOT_HOLDER) pa_nil)))) pss_nil)
      (pss_cons (ps_if (pt_not (pt_val (pe_fn (ok_may_act (K := K) T) (hr.mono (by decide)) (by rfl) (pa_cons (pv 0) (pa_cons (pv 1) (pa_cons (pv 3) pa_nil)))))) (pss_one (ps_ret (pe_lst (pa_cons (pe_gl (by rfl) T.g_NOT_ALLOWED) pa_nil)))) pss_nil)
      (pss_cons (ps_set (i := 4) sc_act.nd rfl (by first | exact Or.inl rfl | exact Or.inr rfl) (pe_fn (ok_take_number (K := K) T) (hr.mono (by decide)) (by rfl) (pa_cons (pv 0) pa_nil)))
      (pss_cons (ps_expr (pe_fn (ok_put_on_stack (K := K) T) (hr.mono (by decide)) (by rfl) (pa_cons (pv 0) (pa_cons (pe_mk (okc_Item (K := K) T) (hr.mono (by decide)) (by rfl) (pa_cons (pv 4) (pa_cons (pv 1) (pa_cons (pe_cmpR op_eq (pv 2) pe_int (nomark _)) pa_nil)))) pa_nil))))
      (pss_cons (ps_fldK K (pv 0) pe_bl rfl)
      (pss_one (ps_ret (pe_lst (pa_cons (pe_gl (by rfl) T.g_ACCEPTED) (pa_cons (pv 4) pa_nil)))))))))))), ?_⟩
  have hth := W.things
  walk_at "rds"
  refine w_iteN (fun h => ?_) (fun h => ?_)
  · rw [mem_sides] at h
    walk_at "rds"
    refine k.go ?_ (by assumption) rfl
    show (if _ then _ else _) = _
    rw [if_pos (by first | exact .inl (from_f h) | exact .inr (.inl (from_f (by omega))) | exact .inr (.inr (from_f (by omega))))]
    rfl
  · rw [mem_sides] at h
    walk_at "rds"
    refine w_iteN (fun h1 => ?_) (fun h1 => ?_)
    · simp only [unI, List.mem_cons, List.not_mem_nil, or_false] at h1
      walk_at "rds"
      refine k.go ?_ (by assumption) rfl
      show (if _ then _ else _) = _
      rw [if_pos (by first | exact .inl (from_f h) | exact .inr (.inl (from_f (by omega))) | exact .inr (.inr (from_f (by omega))))]
      rfl
    · simp only [unI, List.mem_cons, List.not_mem_nil, or_false] at h1
      walk_at "rds"
      refine w_iteN (fun h2 => ?_) (fun h2 => ?_)
      · simp only [unI, List.mem_cons, List.not_mem_nil, or_false] at h2
        walk_at "rds"
        refine k.go ?_ (by assumption) rfl
        show (if _ then _ else _) = _
        rw [if_pos (by first | exact .inl (from_f h) | exact .inr (.inl (from_f (by omega))) | exact .inr (.inr (from_f (by omega))))]
        rfl
      · simp only [unI, List.mem_cons, List.not_mem_nil, or_false] at h2
        obtain ⟨q, rfl⟩ : ∃ q : Nat, z = (q : Int) := ⟨z.toNat, by omega⟩
        have e1 : does s (.act (q : Int) y x) = if Vbdcaf.full s = true then no s 4 else if Vbdcaf.holds s q = false then no s 5 else if Vbdcaf.mayAct s q = false ∨ (x = 1 ∧ Vbdcaf.maySlow s q = false) then no s 6
            else yes { s with stack := { num := s.next, side := q, shut := y == 1 } :: s.stack, next := s.next + 1, passes := 0, put := s.put + 1 } [s.next] := by
          show (if _ then _ else _) = _
          rw [if_neg (by rw [from_t h, from_t (by omega), from_t (by omega)]; decide)]
          rfl
        rw [e1] at k
        have hex : ∃ H0, Sd K C B H0 p L s ex := ⟨_, S⟩
        walk_at "rds"
        refine ⟨B, p, L, s, ex, rfl, (by assumption), fun H3 S3 => ?_⟩
        walk_at "rds"
        refine w_ite (fun h3 => ?_) (fun h3 => ?_)
        · walk_at "rds"
          refine k.go ?_ (by assumption) rfl
          rw [if_pos (by unfold Vbdcaf.full Vbdcaf.PLACES; exact decide_eq_true (by omega))]
          rfl
        · rw [if_neg (by unfold Vbdcaf.full Vbdcaf.PLACES; rw [decide_eq_true_eq]; omega)] at k
          walk_at "rds"
          refine w_iteN (fun h4 => ?_) (fun h4 => ?_)
          · walk_at "rds"
            refine k.go ?_ (by assumption) rfl
            rw [if_pos (by simp only [Vbdcaf.holds]; grind)]
            rfl
          · rw [if_neg (by simp only [Vbdcaf.holds]; grind)] at k
            walk_at "rds"
            refine ⟨B, p, L, s, ex, q, x, rfl, by omega, h2, S3, fun H4 S4 => ?_⟩
            walk_at "rds"
            refine w_iteNB (fun h5 => ?_) (fun h5 => ?_)
            · walk_at "rds"
              refine k.go ?_ (by assumption) rfl
              rw [if_pos (by grind)]
              rfl
            · rw [if_neg (by grind)] at k
              walk_at "rds"
              refine ⟨B, p, L, s, ex, rfl, S4, fun H5 S5 => ?_⟩
              walk_at "rds"
              refine mk_item { num := s.next, side := q, shut := y == 1 } S5 rfl rfl ?_ fun a H6 S6 M6 => ?_
              · exact (Bool.beq_eq_decide_eq y 1).symm
              · walk_at "rds"
                refine ⟨_, p, _, _, _, _, _, rfl, S6, M6, by show s.stack.length < _; rw [sizeLine_eq]; omega, fun H7 L7 S7 => ?_⟩
                walk_at "rds"
                refine ws_passed cs rfl S7 (m := 0) rfl fun H8 S8 => ?_
                walk_at "rds"
                exact k.go rfl (by assumption) rfl
open MA
open Vbdcaf (at_ bump drop1 does Call no yes)
/-! ### the duel is made -/
structure Bld (C : Cs) (H0 H : Hp) (x dx : Addr) (fs : List (Str × V)) (as : List (Addr × List V)) (k : Nat) : Prop where
  at_ : H x = some (.ins C.duel dx fs)
  ls : ∀ e ∈ as, H e.1 = some (.lst e.2) ∧ H0 e.1 = none
  nd : (as.map (·.1)).Nodup
  old : ∀ z o, H0 z = some o → z ≠ x → H z = some o
  few : fs.length ≤ k
section
variable {H0 H : Hp} {x dx : Addr} {fs : List (Str × V)} {as : List (Addr × List V)} {n : Nat} {σ : L2.St} {i : Nat} {f : Str} {y : V} {N : Hp → Prop} {Q : VK} {xs : List V}
theorem b_put (b : Bld C H0 H x dx fs as n) (e : σ[i]? = some (some (.ref x))) (c : Cls K C.duel) (na : NoAttr K C.duel f) (hn : Nat.ble n 999 = true) (h : ∀ H', Bld C H0 H' x dx (putF f y fs) as (n + 1) → N H') : Put K σ i f y H N := by
  refine put_ins e b.at_ c na (by have := b.few; have := Nat.le_of_ble_eq_true hn; omega) (h _ ⟨upd_same, fun e he => ?_, b.nd, fun z o q hz => ?_, ?_⟩)
  · obtain ⟨q1, q2⟩ := b.ls e he
    refine ⟨?_, q2⟩
    rw [upd_ne (ne_of q1 b.at_ (by intro z; cases z))]
    exact q1
  · rw [upd_ne hz]
    exact b.old z o q hz
  · have := length_putF f y fs
    have := b.few
    omega
theorem b_lay (b : Bld C H0 H x dx fs as n) {a : Addr} (hx : ∃ o, H0 x = some o) (ha : H a = none) : Bld C H0 (upd H a (.lst xs)) x dx fs ((a, xs) :: as) n := by
  have hxa : x ≠ a := ne_of_none b.at_ ha
  refine ⟨by rw [upd_ne hxa]; exact b.at_, fun e he => ?_, ?_, fun z o q hz => ?_, b.few⟩
  · rcases List.mem_cons.mp he with rfl | he
    · refine ⟨upd_same, ?_⟩
      cases q : H0 a with
      | none => rfl
      | some o =>
        have := b.old a o q (Ne.symm hxa)
        rw [ha] at this
        cases this
    · obtain ⟨q1, q2⟩ := b.ls e he
      exact ⟨by rw [upd_ne (ne_of_none q1 ha)]; exact q1, q2⟩
  · show (a :: as.map (·.1)).Nodup
    refine List.nodup_cons.mpr ⟨fun hm => ?_, b.nd⟩
    obtain ⟨e, he, rfl⟩ := List.mem_map.mp hm
    rw [(b.ls e he).1] at ha
    cases ha
  · have := b.old z o q hz
    rw [upd_ne (ne_of_none this ha)]
    exact this
theorem b_new (b : Bld C H0 H x dx fs as n) (hx : ∃ o, H0 x = some o) (hz : Nat.ble xs.length 1000000 = true) (h : ∀ a H', Bld C H0 H' x dx fs ((a, xs) :: as) n → Q (.ref a) H') : NewL xs H Q := ⟨small _ hz, fun a ha => h a _ (b_lay b hx ha)⟩
theorem b_rep {l : Addr} {k : Nat} (b : Bld C H0 H x dx fs ((l, xs) :: as) n) (hx : ∃ o, H0 x = some o) (hk : Nat.ble (xs.length * k) 1000000 = true) (hk2 : Nat.ble k 1000000 = true) (h : ∀ a H', Bld C H0 H' x dx fs ((a, (List.replicate k xs).flatten) :: (l, xs) :: as) n → Q (.ref a) H') : rRep (.ref l) (.int (k : Int)) H Q := by
  have h1 := Nat.le_of_ble_eq_true hk2
  refine ⟨l, _, xs, rfl, rfl, (b.ls _ List.mem_cons_self).1, by omega, by omega, small _ hk, fun a ha => h a _ (b_lay b hx ha)⟩
end
abbrev spc_Duel (K : PySem.W.Frag) (C : Cs) : Sp := fun vs H Q _ => ∃ x dx, vs = [.ref x] ∧ H x = some (.ins C.duel dx []) ∧ ∀ H' L, Rep K C H' x L Vbdcaf.start → (∀ z o, H z = some o → z ≠ x → H' z = some o ∧ Out L z) → Q .non H'
theorem okc_Duel (T : Txt K mg C) : OkC P w K mg base 1 "Duel" ["self"] C.duel (spc_Duel K C) := by
  refine T.k_Duel.ok sc_Duel (fun vs H Q E h => ?_) (fun f cdv A outer s0 H vs Q E hr h => ?_)
  · obtain ⟨x, dx, rfl, _⟩ := h; rfl
  obtain ⟨x, dx, rfl, hx, k⟩ := h
  have cs := T.cs
  have cd := cs.c_duel
  refine ⟨_, (pss_cons (ps_fldK K (pv 0) pe_int rfl)
      (pss_cons (ps_fldK K (pv 0) (pe_lst (pa_cons pe_int (pa_cons pe_int pa_nil))) rfl)
      (pss_cons (ps_fldK K (pv 0) pe_int rfl)
      (pss_cons (ps_fldK K (pv 0) pe_int rfl)
      (pss_cons (ps_fldK K (pv 0) pe_int rfl)
      (pss_cons (ps_fldK K (pv 0) (pe_lst pa_nil) rfl)
      (pss_cons (ps_fldK K (pv 0) (pe_lst pa_nil) rfl)
      (pss_cons (ps_fldK K (pv 0) (pe_lst pa_nil) rfl)
      (pss_cons (ps_fldK K (pv 0) (pe_lst (pa_cons pe_int (pa_cons pe_int pa_nil))) rfl)
      (pss_cons (ps_fldK K (pv 0) (pe_lst (pa_cons pe_int (pa_cons pe_int pa_nil))) rfl)
      (pss_cons (ps_fldK K (pv 0) (pe_lst (pa_cons (pe_op op_rep (pe_lst (pa_cons pe_int pa_nil)) (pe_gl (by rfl) T.g_STEP_COUNT)) (pa_cons (pe_op op_rep (pe_lst (pa_cons pe_int pa_nil)) (pe_gl (by rfl) T.g_STEP_COUNT)) pa_nil))) rfl)
      (pss_cons (ps_fldK K (pv 0) pe_int rfl)
      (pss_cons (ps_fldK K (pv 0) pe_bl rfl)
      (pss_cons (ps_fldK K (pv 0) pe_int rfl)
      (pss_cons (ps_fldK K (pv 0) pe_bl rfl)
      (pss_cons (ps_fldK K (pv 0) pe_bl rfl)
      (pss_cons (ps_fldK K (pv 0) (pe_lst pa_nil) rfl)
      (pss_cons (ps_fldK K (pv 0) (pe_lst pa_nil) rfl)
      (pss_cons (ps_fldK K (pv 0) (pe_lst pa_nil) rfl)
      (pss_cons (ps_fldK K (pv 0) pe_int rfl)
      (pss_cons (ps_fldK K (pv 0) pe_int rfl)
      (pss_cons (ps_fldK K (pv 0) pe_int rfl)
      (pss_cons (ps_fldK K (pv 0) pe_int rfl)
      (pss_one (ps_fldK K (pv 0) pe_int rfl))))))))))))))))))))))))), ?_⟩
  have b : Bld C H H x dx [] [] 0 := ⟨hx, fun e he => (by cases he), List.nodup_nil, fun z o q _ => q, Nat.le_refl _⟩
  have hxo : ∃ o, H x = some o := ⟨_, hx⟩
  walk_at "rds"
  refine b_put b rfl cd cs.nD_turns rfl fun H1 b1 => ?_
  walk_at "rds"
  refine b_new b1 hxo rfl fun a11 H2 b2 => ?_
  refine b_put b2 rfl cd cs.nD_turns_of_side rfl fun H3 b3 => ?_
  walk_at "rds"
  refine b_put b3 rfl cd cs.nD_active rfl fun H4 b4 => ?_
  walk_at "rds"
  refine b_put b4 rfl cd cs.nD_last_ordinary rfl fun H5 b5 => ?_
  walk_at "rds"
  refine b_put b5 rfl cd cs.nD_step rfl fun H6 b6 => ?_
  walk_at "rds"
  refine b_new b6 hxo rfl fun a0 H7 b7 => ?_
  refine b_put b7 rfl cd cs.nD_rest rfl fun H8 b8 => ?_
  walk_at "rds"
  refine b_new b8 hxo rfl fun a1 H9 b9 => ?_
  refine b_put b9 rfl cd cs.nD_phases rfl fun H10 b10 => ?_
  walk_at "rds"
  refine b_new b10 hxo rfl fun a2 H11 b11 => ?_
  refine b_put b11 rfl cd cs.nD_extra_turns rfl fun H12 b12 => ?_
  walk_at "rds"
  refine b_new b12 hxo rfl fun a3 H13 b13 => ?_
  refine b_put b13 rfl cd cs.nD_skipped_turns rfl fun H14 b14 => ?_
  walk_at "rds"
  refine b_new b14 hxo rfl fun a4 H15 b15 => ?_
  refine b_put b15 rfl cd cs.nD_skipped_fights rfl fun H16 b16 => ?_
  walk_at "rds"
  refine b_new b16 hxo rfl fun x6 H17 b17 => ?_
  walk_at "rds"
  refine b_rep (k := 11) b17 hxo rfl rfl fun a6 H18 b18 => ?_
  walk_at "rds"
  refine b_new b18 hxo rfl fun x7 H19 b19 => ?_
  walk_at "rds"
  refine b_rep (k := 11) b19 hxo rfl rfl fun a7 H20 b20 => ?_
  walk_at "rds"
  refine b_new b20 hxo rfl fun a5 H21 b21 => ?_
  refine b_put b21 rfl cd cs.nD_skipped_steps rfl fun H22 b22 => ?_
  walk_at "rds"
  refine b_put b22 rfl cd cs.nD_holder rfl fun H23 b23 => ?_
  walk_at "rds"
  refine b_put b23 rfl cd cs.nD_passed rfl fun H24 b24 => ?_
  walk_at "rds"
  refine b_put b24 rfl cd cs.nD_plays rfl fun H25 b25 => ?_
  walk_at "rds"
  refine b_put b25 rfl cd cs.nD_fighting rfl fun H26 b26 => ?_
  walk_at "rds"
  refine b_put b26 rfl cd cs.nD_first_blows rfl fun H27 b27 => ?_
  walk_at "rds"
  refine b_new b27 hxo rfl fun a8 H28 b28 => ?_
  refine b_put b28 rfl cd cs.nD_stack rfl fun H29 b29 => ?_
  walk_at "rds"
  refine b_new b29 hxo rfl fun a9 H30 b30 => ?_
  refine b_put b30 rfl cd cs.nD_marks rfl fun H31 b31 => ?_
  walk_at "rds"
  refine b_new b31 hxo rfl fun a10 H32 b32 => ?_
  refine b_put b32 rfl cd cs.nD_delayed rfl fun H33 b33 => ?_
  walk_at "rds"
  refine b_put b33 rfl cd cs.nD_last_number rfl fun H34 b34 => ?_
  walk_at "rds"
  refine b_put b34 rfl cd cs.nD_items_come rfl fun H35 b35 => ?_
  walk_at "rds"
  refine b_put b35 rfl cd cs.nD_items_done rfl fun H36 b36 => ?_
  walk_at "rds"
  refine b_put b36 rfl cd cs.nD_items_countered rfl fun H37 b37 => ?_
  walk_at "rds"
  refine b_put b37 rfl cd cs.nD_items_gone rfl fun H38 b38 => ?_
  let L : Lay := ⟨dx, fun i => ([a0, a1, a2, a3, a4, a5, a6, a7, a8, a9, a10, a11] : List Addr).getD i 0, fun _ => []⟩
  have at_ := b38.at_
  have ls := b38.ls
  have nd := b38.nd
  have old := b38.old
  simp only [List.forall_mem_cons] at ls
  obtain ⟨l10, l9, l8, l5, l7, _, l6, _, l4, l3, l2, l1, l0, l11, _⟩ := ls
  clear b38 b37 b36 b35 b34 b33 b32 b31 b30 b29 b28 b27 b26 b25 b24 b23 b22 b21 b20 b19 b18 b17 b16 b15 b14 b13 b12 b11 b10 b9 b8 b7 b6 b5 b4 b3 b2 b1 b
  simp only [List.map, List.nodup_cons, List.mem_cons, List.not_mem_nil, or_false, not_or] at nd
  have hnd : ([a0, a1, a2, a3, a4, a5, a6, a7, a8, a9, a10, a11] : List Addr).Nodup := by
    simp only [List.nodup_cons, List.mem_cons, List.not_mem_nil, or_false, not_or, List.nodup_nil, and_true, not_false_eq_true]
    grind
  have lk : ∀ i, i < 12 → H (L.a i) = none := fun i hi => by
    match i, hi with
    | 0, _ => exact l0.2
    | 1, _ => exact l1.2
    | 2, _ => exact l2.2
    | 3, _ => exact l3.2
    | 4, _ => exact l4.2
    | 5, _ => exact l5.2
    | 6, _ => exact l6.2
    | 7, _ => exact l7.2
    | 8, _ => exact l8.2
    | 9, _ => exact l9.2
    | 10, _ => exact l10.2
    | 11, _ => exact l11.2
    | i + 12, h => exact absurd h (by omega)
  refine k H38 L ⟨?_, fun i j hi hj e => ?_, l0.1, l1.1, .nil, l2.1, l3.1, l4.1, l5.1, l6.1, l7.1, l8.1, .nil, l9.1, .nil, l10.1, .nil, l11.1⟩ fun z o e h => ⟨old z o e h, fun i hi q => ?_⟩
  · rw [at_]
    refine congrArg (fun fs => some (HO.ins C.duel dx fs)) ?_
    kernel_rfl
  · refine nd_ix hnd (x := L.a i) ?_ ?_
    · show _ = some (([a0, a1, a2, a3, a4, a5, a6, a7, a8, a9, a10, a11] : List Addr).getD i 0)
      rw [List.getD_eq_getElem?_getD, List.getElem?_eq_getElem hi]
      rfl
    · rw [e]
      show _ = some (([a0, a1, a2, a3, a4, a5, a6, a7, a8, a9, a10, a11] : List Addr).getD j 0)
      rw [List.getD_eq_getElem?_getD, List.getElem?_eq_getElem hj]
      rfl
  · rw [q, lk i hi] at e
    cases e
open MA
open Vbdcaf (at_ bump drop1 does Call no yes)
/-! ### items, marks, things put off by their numbers -/
def NumOf (K : PySem.W.Frag) (B : Hp) (v : V) (n : Nat) : Prop := ∃ a A dx fs, v = .ref a ∧ B a = some (.ins A dx fs) ∧ fs.length ≤ 6 ∧ Cls K A ∧ NoAttr K A "number" ∧ fs.lookup ("number" : Str) = some (.int ((n : Nat) : Int))
theorem rd_num {B H : Hp} {p : Addr} {L : Lay} {s : State} {ex : List (Addr × HO)} {Q : VK} {σ : L2.St} {i : Nat} {v : V} {n : Nat} (e : σ[i]? = some (some v)) (S : Sd K C B H p L s ex) (m : NumOf K B v n) (h : Q (.int ((n : Nat) : Int)) H) : tFld K (tVar i) "number" σ H Q := by
  obtain ⟨a, A, dx, fs, rfl, m, hl, c, na, l⟩ := m
  exact ⟨.ref a, e, a, A, dx, _, _, rfl, S.kp _ _ m hl, c, na, l, h⟩
theorem num_I (cs : CsOk K C) {B : Hp} {v : V} {x : Vbdcaf.Item} (m : RI C B v x) : NumOf K B v x.num := by
  obtain ⟨a, dx, rfl, m⟩ := m
  exact ⟨a, _, dx, _, rfl, m, (show 3 ≤ 6 by decide), cs.c_item, cs.nI_number, i_number _⟩
theorem num_M (cs : CsOk K C) {B : Hp} {v : V} {x : Vbdcaf.Mark} (m : RM C B v x) : NumOf K B v x.num := by
  obtain ⟨a, dx, rfl, m⟩ := m
  exact ⟨a, _, dx, _, rfl, m, (show 4 ≤ 6 by decide), cs.c_mark, cs.nM_number, m_number _⟩
theorem num_L (cs : CsOk K C) {B : Hp} {v : V} {x : Vbdcaf.Delay} (m : RL C B v x) : NumOf K B v x.num := by
  obtain ⟨a, dx, rfl, m⟩ := m
  exact ⟨a, _, dx, _, rfl, m, (show 4 ≤ 6 by decide), cs.c_del, cs.nL_number, d_number _⟩
abbrev sp_without_number (K : PySem.W.Frag) (C : Cs) : Sp := fun vs H Q _ => ∃ (α : Type) (R : V → α → Prop) (num : α → Nat) (ds : List α) (ws : List V) (B : Hp) (p : Addr) (L : Lay) (s : State) (ex : List (Addr × HO)) (a : Addr) (z : Int), vs = [.ref a, .int z] ∧ Sd K C B H p L s ex ∧ (∀ H1 ex', Sd K C B H1 p L s ex' → SqL K H1 a ws) ∧ Paired R ws ds ∧ (∀ v d, R v d → NumOf K B v (num d)) ∧ ds.length ≤ 1000 ∧
  ∀ E us H', Paired R us (ds.filter fun d => ((num d : Nat) : Int) != z) → Sd K C B H' p L s ((E, .lst us) :: ex) → Q (.ref E) H'
theorem ok_without_number (T : Txt K mg C) : OkF P w K mg base 1 "without_number" ["row", "number"] (sp_without_number K C) := by
  refine T.h_without_number.ok sc_without_number (fun vs H Q E h => ?_) (fun f cdv A outer s0 H vs Q E hr h => ?_)
  · obtain ⟨α, R, num, ds, ws, B, p, L, s, ex, a, z, rfl, _⟩ := h; rfl
  obtain ⟨α, R, num, ds, ws, B, p, L, s, ex, a, z, rfl, S, src, hR, hn, hl, k⟩ := h
  have cs := T.cs
  refine ⟨_, (pss_one (ps_ret (pe_lc rfl sc_without_number.nd (pi_listK K (pv 0)) (own := [("held", 2)]) (blkOk_by (show blkC ["row", "number", "held"] (defScope s_without_number) _ _ = true by decide +kernel)) (fun _ _ _ _ _ => pg_name (i := 2) sc_without_number.nd rfl (by first | exact Or.inl rfl | exact Or.inr rfl)) (fun _ _ _ _ _ => (pts_one (pt_cmpR op_ne (pe_fldK K (pv 2) rfl) (pv 1) (nomark _)))) (fun _ _ _ _ _ => (pv 2))))), ?_⟩
  walk_at "rds"
  refine lc_filt (fun d => ((num d : Nat) : Int) != z) S (src _ _ S) (fun H1 E acc S1 => src _ _ S1) hR hl (Nat.le_of_ble_eq_true rfl) ?_ ?_
  · intro v m H1 ex' QB hm M S1 hq
    walk_at "rds"
    refine rd_num rfl S1 (hn _ _ M) ?_
    walk_at "rds"
    have e : (!decide (((num m : Nat) : Int) = z)) = (((num m : Nat) : Int) != z) := by grind
    refine (congrArg (fun b => QB b H1) e).mpr (hq _ S1)
  · intro E us H1 hR1 S1
    exact k _ _ _ hR1 S1
theorem gone_any {α : Type} {l : List α} {num : α → Nat} {z : Int} : (l.filter fun d => ((num d : Nat) : Int) != z).length = l.length ↔ (l.any fun d => ((num d : Nat) : Int) == z) = false := by
  rw [List.length_filter_eq_length_iff, List.any_eq_false]
  constructor
  · intro h d hd
    have := h d hd
    grind
  · intro h d hd
    have := h d hd
    grind
abbrev sp_is_step (K : PySem.W.Frag) (C : Cs) : Sp := fun vs H Q _ => ∃ z, vs = [.int z] ∧ Q (.bl (Vbdcaf.from_ z 0 10)) H
theorem ok_is_step (T : Txt K mg C) : OkF P w K mg base 1 "is_step" ["step"] (sp_is_step K C) := by
  refine T.h_is_step.ok sc_is_step (fun vs H Q E h => ?_) (fun f cdv A outer s0 H vs Q E hr h => ?_)
  · obtain ⟨z, rfl, _⟩ := h; rfl
  obtain ⟨z, rfl, k⟩ := h
  have cs := T.cs
  refine ⟨_, (pss_one (ps_ret (pe_and (pe_cmpR op_ge (pv 0) (pe_gl (by rfl) T.g_DAWN) (nomark _)) (pe_one (pe_cmpR op_le (pv 0) (pe_gl (by rfl) T.g_DUSK) (nomark _)))))), ?_⟩
  walk_at "rdp"
  all_goals (refine qcast k ?_; clear k; simp only [Vbdcaf.from_]; grind)
abbrev sp_counter (K : PySem.W.Frag) (C : Cs) : Sp := fun vs H Q _ => ∃ B p L s ex z, vs = [.ref p, .int z] ∧ WK s ∧ Sd K C B H p L s ex ∧ Ans K C B p ex Q (does s (.counter z))
theorem ok_counter (T : Txt K mg C) : OkF P w K mg base 2 "counter" ["duel", "number"] (sp_counter K C) := by
  refine T.h_counter.ok sc_counter (fun vs H Q E h => ?_) (fun f cdv A outer s0 H vs Q E hr h => ?_)
  · obtain ⟨B, p, L, s, ex, z, rfl, _⟩ := h; rfl
  obtain ⟨B, p, L, s, ex, z, rfl, W, S, k⟩ := h
  have cs := T.cs
  refine ⟨_, (pss_cons (ps_set (i := 2) sc_counter.nd rfl (by first | exact Or.inl rfl | exact Or.inr rfl) (pe_fn (ok_without_number (K := K) T) (hr.mono (by decide)) (by rfl) (pa_cons (pe_fldK K (pv 0) rfl) (pa_cons (pv 1) pa_nil))))
      (pss_cons (ps_if (pt_cmpR op_eq (pe_callB (cr_lenK K) (by rfl) T.b_len PySem.boot_len (pa_cons (pv 2) pa_nil)) (pe_callB (cr_lenK K) (by rfl) T.b_len PySem.boot_len (pa_cons (pe_fldK K (pv 0) rfl) pa_nil)) (nomark _)) (pss_one (ps_ret (pe_lst (pa_cons (pe_gl (by rfl) T.g_NOT_THERE) pa_nil)))) pss_nil)
      (pss_cons (ps_fldK K (pv 0) (pv 2) rfl)
      (pss_cons (ps_fldaugK K (pv 0) pe_int in_add)
      (pss_one (ps_ret (pe_lst (pa_cons (pe_gl (by rfl) T.g_ACCEPTED) pa_nil)))))))), ?_⟩
  have hth := W.things
  have S0 := S.rebase
  walk_at "rds"
  refine ⟨Vbdcaf.Item, RI C H, fun i => i.num, s.stack, L.v 8, H, p, L, s, ex, L.a 8, z, rfl, S0, fun H1 ex' S1 => SqL.of S1.rep.stk, S0.rep.stkR, fun v d M => num_I cs M, by omega, fun E us H1 hR1 S1 => ?_⟩
  have hl := Paired.length hR1
  have S2 := S1.base S.kp
  walk_at "rds"
  refine ⟨E, _, rfl, .inl (SqL.of S1.at0), ?_⟩
  walk_at "rds"
  refine w_ite (fun h => ?_) (fun h => ?_)
  · have ha := gone_any.mp (by rw [← hl]; exact Int.ofNat.inj h)
    have S3 := S2.tail
    clear S0 S1 S2
    walk_at "rds"
    refine k.go ?_ (by assumption) rfl
    show (if _ then _ else _) = _
    rw [if_pos ha]
    rfl
  · have ha : ¬ (s.stack.any fun i => (i.num : Int) == z) = false := fun q => h (by rw [hl]; exact congrArg Int.ofNat (gone_any.mpr q))
    walk_at "rds"
    refine ws_stack cs rfl S2 (pairs_keep (RI.keep S1.kp) hR1) fun H2 S3 => ?_
    walk_at "rds"
    refine wa_items_countered cs rfl S3 (fun Q h => h) (fun Q h => w_rAdd h) (n := s.undone + 1) rfl fun H3 S4 => ?_
    clear S0 S1 S2 S3
    walk_at "rds"
    refine k.go ?_ (by assumption) rfl
    show (if _ then _ else _) = _
    rw [if_neg ha]
    rfl
abbrev sp_unmark (K : PySem.W.Frag) (C : Cs) : Sp := fun vs H Q _ => ∃ B p L s ex z, vs = [.ref p, .int z] ∧ WK s ∧ Sd K C B H p L s ex ∧ Ans K C B p ex Q (does s (.unmark z))
theorem ok_unmark (T : Txt K mg C) : OkF P w K mg base 2 "unmark" ["duel", "number"] (sp_unmark K C) := by
  refine T.h_unmark.ok sc_unmark (fun vs H Q E h => ?_) (fun f cdv A outer s0 H vs Q E hr h => ?_)
  · obtain ⟨B, p, L, s, ex, z, rfl, _⟩ := h; rfl
  obtain ⟨B, p, L, s, ex, z, rfl, W, S, k⟩ := h
  have cs := T.cs
  refine ⟨_, (pss_cons (ps_set (i := 2) sc_unmark.nd rfl (by first | exact Or.inl rfl | exact Or.inr rfl) (pe_fn (ok_without_number (K := K) T) (hr.mono (by decide)) (by rfl) (pa_cons (pe_fldK K (pv 0) rfl) (pa_cons (pv 1) pa_nil))))
      (pss_cons (ps_if (pt_cmpR op_eq (pe_callB (cr_lenK K) (by rfl) T.b_len PySem.boot_len (pa_cons (pv 2) pa_nil)) (pe_callB (cr_lenK K) (by rfl) T.b_len PySem.boot_len (pa_cons (pe_fldK K (pv 0) rfl) pa_nil)) (nomark _)) (pss_one (ps_ret (pe_lst (pa_cons (pe_gl (by rfl) T.g_NOT_THERE) pa_nil)))) pss_nil)
      (pss_cons (ps_fldK K (pv 0) (pv 2) rfl)
      (pss_one (ps_ret (pe_lst (pa_cons (pe_gl (by rfl) T.g_ACCEPTED) pa_nil))))))), ?_⟩
  have hth := W.marksL
  have S0 := S.rebase
  walk_at "rds"
  refine ⟨Vbdcaf.Mark, RM C H, fun i => i.num, s.marks, L.v 9, H, p, L, s, ex, L.a 9, z, rfl, S0, fun H1 ex' S1 => SqL.of S1.rep.mks, S0.rep.mksR, fun v d M => num_M cs M, by omega, fun E us H1 hR1 S1 => ?_⟩
  have hl := Paired.length hR1
  have S2 := S1.base S.kp
  walk_at "rds"
  refine ⟨E, _, rfl, .inl (SqL.of S1.at0), ?_⟩
  walk_at "rds"
  refine w_ite (fun h => ?_) (fun h => ?_)
  · have ha := gone_any.mp (by rw [← hl]; exact Int.ofNat.inj h)
    have S3 := S2.tail
    clear S0 S1 S2
    walk_at "rds"
    refine k.go ?_ (by assumption) rfl
    show (if _ then _ else _) = _
    rw [if_pos ha]
    rfl
  · have ha : ¬ (s.marks.any fun i => (i.num : Int) == z) = false := fun q => h (by rw [hl]; exact congrArg Int.ofNat (gone_any.mpr q))
    walk_at "rds"
    refine ws_marks cs rfl S2 (pairs_keep (RM.keep S1.kp) hR1) fun H2 S3 => ?_
    clear S0 S1 S2
    walk_at "rds"
    refine k.go ?_ (by assumption) rfl
    show (if _ then _ else _) = _
    rw [if_neg ha]
    rfl
abbrev sp_undelay (K : PySem.W.Frag) (C : Cs) : Sp := fun vs H Q _ => ∃ B p L s ex z, vs = [.ref p, .int z] ∧ WK s ∧ Sd K C B H p L s ex ∧ Ans K C B p ex Q (does s (.undelay z))
theorem ok_undelay (T : Txt K mg C) : OkF P w K mg base 2 "undelay" ["duel", "number"] (sp_undelay K C) := by
  refine T.h_undelay.ok sc_undelay (fun vs H Q E h => ?_) (fun f cdv A outer s0 H vs Q E hr h => ?_)
  · obtain ⟨B, p, L, s, ex, z, rfl, _⟩ := h; rfl
  obtain ⟨B, p, L, s, ex, z, rfl, W, S, k⟩ := h
  have cs := T.cs
  refine ⟨_, (pss_cons (ps_set (i := 2) sc_undelay.nd rfl (by first | exact Or.inl rfl | exact Or.inr rfl) (pe_fn (ok_without_number (K := K) T) (hr.mono (by decide)) (by rfl) (pa_cons (pe_fldK K (pv 0) rfl) (pa_cons (pv 1) pa_nil))))
      (pss_cons (ps_if (pt_cmpR op_eq (pe_callB (cr_lenK K) (by rfl) T.b_len PySem.boot_len (pa_cons (pv 2) pa_nil)) (pe_callB (cr_lenK K) (by rfl) T.b_len PySem.boot_len (pa_cons (pe_fldK K (pv 0) rfl) pa_nil)) (nomark _)) (pss_one (ps_ret (pe_lst (pa_cons (pe_gl (by rfl) T.g_NOT_THERE) pa_nil)))) pss_nil)
      (pss_cons (ps_fldK K (pv 0) (pv 2) rfl)
      (pss_one (ps_ret (pe_lst (pa_cons (pe_gl (by rfl) T.g_ACCEPTED) pa_nil))))))), ?_⟩
  have hth := W.things
  have S0 := S.rebase
  walk_at "rds"
  refine ⟨Vbdcaf.Delay, RL C H, fun i => i.num, s.delays, L.v 10, H, p, L, s, ex, L.a 10, z, rfl, S0, fun H1 ex' S1 => SqL.of S1.rep.dls, S0.rep.dlsR, fun v d M => num_L cs M, by omega, fun E us H1 hR1 S1 => ?_⟩
  have hl := Paired.length hR1
  have S2 := S1.base S.kp
  walk_at "rds"
  refine ⟨E, _, rfl, .inl (SqL.of S1.at0), ?_⟩
  walk_at "rds"
  refine w_ite (fun h => ?_) (fun h => ?_)
  · have ha := gone_any.mp (by rw [← hl]; exact Int.ofNat.inj h)
    have S3 := S2.tail
    clear S0 S1 S2
    walk_at "rds"
    refine k.go ?_ (by assumption) rfl
    show (if _ then _ else _) = _
    rw [if_pos ha]
    rfl
  · have ha : ¬ (s.delays.any fun i => (i.num : Int) == z) = false := fun q => h (by rw [hl]; exact congrArg Int.ofNat (gone_any.mpr q))
    walk_at "rds"
    refine ws_delayed cs rfl S2 (pairs_keep (RL.keep S1.kp) hR1) fun H2 S3 => ?_
    clear S0 S1 S2
    walk_at "rds"
    refine k.go ?_ (by assumption) rfl
    show (if _ then _ else _) = _
    rw [if_neg ha]
    rfl
abbrev sp_mark (K : PySem.W.Frag) (C : Cs) : Sp := fun vs H Q _ => ∃ B p L s ex z y x, vs = [.ref p, .int z, .int y, .int x] ∧ WK s ∧ Sd K C B H p L s ex ∧ Ans K C B p ex Q (does s (.mark z y x))
theorem ok_mark (T : Txt K mg C) : OkF P w K mg base 3 "mark" ["duel", "till", "side", "step"] (sp_mark K C) := by
  refine T.h_mark.ok sc_mark (fun vs H Q E h => ?_) (fun f cdv A outer s0 H vs Q E hr h => ?_)
  · obtain ⟨B, p, L, s, ex, z, y, x, rfl, _⟩ := h; rfl
  obtain ⟨B, p, L, s, ex, z, y, x, rfl, W, S, k⟩ := h
  have cs := T.cs
  refine ⟨_, (pss_cons (ps_if ((pw_or (pt_cmpR op_lt (pv 1) (pe_gl (by rfl) T.g_TILL_STEP_ENDS) (nomark _)) (pw_or (pt_cmpR op_gt (pv 1) (pe_gl (by rfl) T.g_TILL_OWN_STEP) (nomark _)) (pw_or (pt_cmpR (op_notInK K) (pv 2) (pe_gl (by rfl) T.g_SIDES) (by with_unfolding_all rfl)) (pw_or1 (pt_not (pt_val (pe_fn (ok_is_step (K := K) T) (hr.mono (by decide)) (by rfl) (pa_cons (pv 3) pa_nil))))))))).pt (pss_one (ps_ret (pe_lst (pa_cons (pe_gl (by rfl) T.g_OUT_OF_RANGE) pa_nil)))) pss_nil)
      (pss_cons (ps_if (pt_cmpR op_ge (pe_callB (cr_lenK K) (by rfl) T.b_len PySem.boot_len (pa_cons (pe_fldK K (pv 0) rfl) pa_nil)) (pe_gl (by rfl) T.g_MOST_MARKS) (nomark _)) (pss_one (ps_ret (pe_lst (pa_cons (pe_gl (by rfl) T.g_NO_PLACE) pa_nil)))) pss_nil)
      (pss_cons (ps_set (i := 4) sc_mark.nd rfl (by first | exact Or.inl rfl | exact Or.inr rfl) (pe_fn (ok_take_number (K := K) T) (hr.mono (by decide)) (by rfl) (pa_cons (pv 0) pa_nil)))
      (pss_cons (ps_expr (pe_bmK K PySem.F.plainAttrs_list PySem.F.slot_list_append PySem.F.type_list_append mt_append (pe_fldK K (pv 0) rfl) (pa_cons (pe_mk (okc_Mark (K := K) T) (hr.mono (by decide)) (by rfl) (pa_cons (pv 4) (pa_cons (pv 1) (pa_cons (pv 2) (pa_cons (pv 3) pa_nil))))) pa_nil)))
      (pss_one (ps_ret (pe_lst (pa_cons (pe_gl (by rfl) T.g_ACCEPTED) (pa_cons (pv 4) pa_nil))))))))), ?_⟩
  walk_at "rds"
  refine w_ite (fun h1 => ?_) (fun h1 => ?_)
  · skip
    walk_at "rds"
    refine k.go ?_ (by assumption) rfl
    show (if _ then _ else _) = _
    rw [if_pos (by simp only [Vbdcaf.from_] at *; grind)]
    rfl
  walk_at "rds"
  refine w_ite (fun h2 => ?_) (fun h2 => ?_)
  · skip
    walk_at "rds"
    refine k.go ?_ (by assumption) rfl
    show (if _ then _ else _) = _
    rw [if_pos (by simp only [Vbdcaf.from_] at *; grind)]
    rfl
  walk_at "rds"
  refine w_iteN (fun h3 => ?_) (fun h3 => ?_)
  · rw [mem_sides] at h3
    walk_at "rds"
    refine k.go ?_ (by assumption) rfl
    show (if _ then _ else _) = _
    rw [if_pos (by simp only [Vbdcaf.from_] at *; grind)]
    rfl
  rw [mem_sides] at h3
  walk_at "rds"
  refine ⟨x, rfl, ?_⟩
  walk_at "rds"
  refine w_iteNB (fun h4 => ?_) (fun h4 => ?_)
  · skip
    walk_at "rds"
    refine k.go ?_ (by assumption) rfl
    show (if _ then _ else _) = _
    rw [if_pos (by simp only [Vbdcaf.from_] at *; grind)]
    rfl
  have h4' := of_decide_eq_true h4
  obtain ⟨n1, rfl⟩ : ∃ q : Nat, z = (q : Int) := ⟨z.toNat, by omega⟩
  obtain ⟨n2, rfl⟩ : ∃ q : Nat, y = (q : Int) := ⟨y.toNat, by omega⟩
  obtain ⟨n3, rfl⟩ : ∃ q : Nat, x = (q : Int) := ⟨x.toNat, by omega⟩
  have e1 : does s (.mark (n1 : Int) (n2 : Int) (n3 : Int)) = if Vbdcaf.PLACES ≤ s.marks.length then no s 4 else yes { s with marks := s.marks ++ [{ num := s.next, till := n1, side := n2, step := n3 }], next := s.next + 1 } [s.next] := by
    show (if _ then _ else _) = _
    rw [if_neg (by rw [from_t h3, h4, from_t (by omega)]; decide)]
    rfl
  rw [e1] at k
  walk_at "rds"
  refine w_ite (fun h5 => ?_) (fun h5 => ?_)
  · walk_at "rds"
    refine k.go ?_ (by assumption) rfl
    rw [if_pos (by unfold Vbdcaf.PLACES; omega)]
    rfl
  rw [if_neg (by unfold Vbdcaf.PLACES; omega)] at k
  walk_at "rds"
  refine ⟨B, p, L, s, ex, rfl, S, fun H1 S1 => ?_⟩
  walk_at "rds"
  refine mk_mark { num := s.next, till := n1, side := n2, step := n3 } S1 rfl rfl rfl rfl fun a H2 S2 M2 => ?_
  walk_at "rds"
  refine app_marks S2 M2 (by show s.marks.length < _; rw [sizeLine_eq]; omega) fun H3 S3 => ?_
  clear S S1 S2
  walk_at "rds"
  exact k.go rfl (by assumption) rfl
abbrev sp_delay (K : PySem.W.Frag) (C : Cs) : Sp := fun vs H Q _ => ∃ B p L s ex z y x, vs = [.ref p, .int z, .int y, .int x] ∧ WK s ∧ Sd K C B H p L s ex ∧ Ans K C B p ex Q (does s (.delay z y x))
theorem ok_delay (T : Txt K mg C) : OkF P w K mg base 3 "delay" ["duel", "owner", "side", "step"] (sp_delay K C) := by
  refine T.h_delay.ok sc_delay (fun vs H Q E h => ?_) (fun f cdv A outer s0 H vs Q E hr h => ?_)
  · obtain ⟨B, p, L, s, ex, z, y, x, rfl, _⟩ := h; rfl
  obtain ⟨B, p, L, s, ex, z, y, x, rfl, W, S, k⟩ := h
  have cs := T.cs
  refine ⟨_, (pss_cons (ps_if ((pw_or (pt_cmpR (op_notInK K) (pv 1) (pe_gl (by rfl) T.g_SIDES) (by with_unfolding_all rfl)) (pw_or (pt_cmpR (op_notInK K) (pv 2) (pe_tup (pa_cons pe_int (pa_cons pe_int (pa_cons (pe_gl (by rfl) T.g_EITHER_SIDE) pa_nil)))) (by with_unfolding_all rfl)) (pw_or1 (pt_not (pt_val (pe_fn (ok_is_step (K := K) T) (hr.mono (by decide)) (by rfl) (pa_cons (pv 3) pa_nil)))))))).pt (pss_one (ps_ret (pe_lst (pa_cons (pe_gl (by rfl) T.g_OUT_OF_RANGE) pa_nil)))) pss_nil)
      (pss_cons (ps_if (pt_cmpR op_ge (pe_fn (ok_count_things (K := K) T) (hr.mono (by decide)) (by rfl) (pa_cons (pv 0) pa_nil)) (pe_gl (by rfl) T.g_MOST_THINGS) (nomark _)) (pss_one (ps_ret (pe_lst (pa_cons (pe_gl (by rfl) T.g_NO_PLACE) pa_nil)))) pss_nil)
      (pss_cons (ps_set (i := 4) sc_delay.nd rfl (by first | exact Or.inl rfl | exact Or.inr rfl) (pe_fn (ok_take_number (K := K) T) (hr.mono (by decide)) (by rfl) (pa_cons (pv 0) pa_nil)))
      (pss_cons (ps_expr (pe_bmK K PySem.F.plainAttrs_list PySem.F.slot_list_append PySem.F.type_list_append mt_append (pe_fldK K (pv 0) rfl) (pa_cons (pe_mk (okc_Delayed (K := K) T) (hr.mono (by decide)) (by rfl) (pa_cons (pv 4) (pa_cons (pv 1) (pa_cons (pv 2) (pa_cons (pv 3) pa_nil))))) pa_nil)))
      (pss_one (ps_ret (pe_lst (pa_cons (pe_gl (by rfl) T.g_ACCEPTED) (pa_cons (pv 4) pa_nil))))))))), ?_⟩
  have hth := W.things
  walk_at "rds"
  refine w_iteN (fun h1 => ?_) (fun h1 => ?_)
  · rw [mem_sides] at h1
    walk_at "rds"
    refine k.go ?_ (by assumption) rfl
    show (if _ then _ else _) = _
    rw [if_pos (by simp only [Vbdcaf.from_] at *; grind)]
    rfl
  rw [mem_sides] at h1
  walk_at "rds"
  refine w_iteN (fun h2 => ?_) (fun h2 => ?_)
  · simp only [unI, List.mem_cons, List.not_mem_nil, or_false] at h2
    walk_at "rds"
    refine k.go ?_ (by assumption) rfl
    show (if _ then _ else _) = _
    rw [if_pos (by simp only [Vbdcaf.from_] at *; grind)]
    rfl
  simp only [unI, List.mem_cons, List.not_mem_nil, or_false] at h2
  walk_at "rds"
  refine ⟨x, rfl, ?_⟩
  walk_at "rds"
  refine w_iteNB (fun h4 => ?_) (fun h4 => ?_)
  · skip
    walk_at "rds"
    refine k.go ?_ (by assumption) rfl
    show (if _ then _ else _) = _
    rw [if_pos (by simp only [Vbdcaf.from_] at *; grind)]
    rfl
  have h4' := of_decide_eq_true h4
  obtain ⟨n1, rfl⟩ : ∃ q : Nat, z = (q : Int) := ⟨z.toNat, by omega⟩
  obtain ⟨n2, rfl⟩ : ∃ q : Nat, y = (q : Int) := ⟨y.toNat, by omega⟩
  obtain ⟨n3, rfl⟩ : ∃ q : Nat, x = (q : Int) := ⟨x.toNat, by omega⟩
  have e1 : does s (.delay (n1 : Int) (n2 : Int) (n3 : Int)) = if Vbdcaf.full s = true then no s 4 else yes { s with delays := s.delays ++ [{ num := s.next, owner := n1, side := n2, step := n3 }], next := s.next + 1 } [s.next] := by
    show (if _ then _ else _) = _
    rw [if_neg (by rw [from_t h1, h4, from_t (by omega)]; decide)]
    rfl
  rw [e1] at k
  walk_at "rds"
  refine ⟨B, p, L, s, ex, rfl, by assumption, fun H1 S1 => ?_⟩
  walk_at "rds"
  refine w_ite (fun h5 => ?_) (fun h5 => ?_)
  · walk_at "rds"
    refine k.go ?_ (by assumption) rfl
    rw [if_pos (by unfold Vbdcaf.full Vbdcaf.PLACES; simp; omega)]
    rfl
  rw [if_neg (by unfold Vbdcaf.full Vbdcaf.PLACES; simp; omega)] at k
  walk_at "rds"
  refine ⟨B, p, L, s, ex, rfl, S1, fun H1 S1 => ?_⟩
  walk_at "rds"
  refine mk_delay { num := s.next, owner := n1, side := n2, step := n3 } S1 rfl rfl rfl rfl fun a H2 S2 M2 => ?_
  walk_at "rds"
  refine app_delayed S2 M2 (by show s.delays.length < _; rw [sizeLine_eq]; omega) fun H3 S3 => ?_
  clear S S1 S2
  walk_at "rds"
  exact k.go rfl (by assumption) rfl
open MA
open Vbdcaf (at_ bump drop1 does Call no yes)
def toGone (i : Vbdcaf.Item) : Ev := { sort := 8, what := i.num }
theorem clear_is (s : State) : Vbdcaf.clear s = ({ s with stack := [], gone := s.gone + s.stack.length }, s.stack.map toGone) := rfl
abbrev sp_lose_items (K : PySem.W.Frag) (C : Cs) : Sp := fun vs H Q _ => ∃ B p L s ex t xs, vs = [.ref p, .ref t] ∧ Sd K C B H p L s ((t, .lst (tin xs)) :: ex) ∧ xs.length + 2 * s.stack.length ≤ sizeLine ∧
  ∀ H' L', Sd K C B H' p L' (Vbdcaf.clear s).1 ((t, .lst (tin (xs ++ fl (Vbdcaf.clear s).2))) :: ex) → Q .non H'
theorem ok_lose_items (T : Txt K mg C) : OkF P w K mg base 1 "lose_items" ["duel", "told"] (sp_lose_items K C) := by
  refine T.h_lose_items.ok sc_lose_items (fun vs H Q E h => ?_) (fun f cdv A outer s0 H vs Q E hr h => ?_)
  · obtain ⟨B, p, L, s, ex, t, xs, rfl, _⟩ := h; rfl
  obtain ⟨B, p, L, s, ex, t, xs, rfl, S, hz, k⟩ := h
  have cs := T.cs
  refine ⟨_, (pss_cons (ps_for PassesOwn.never rfl (pi_listK K (pe_fldK K (pv 0) rfl)) (pg_name (i := 2) sc_lose_items.nd rfl (by first | exact Or.inl rfl | exact Or.inr rfl)) (pss_one (ps_expr (pe_bmK K PySem.F.plainAttrs_list PySem.F.slot_list_extend PySem.F.type_list_extend mt_extend (pv 1) (pa_cons (pe_lst (pa_cons (pe_gl (by rfl) T.g_ITEM_GONE) (pa_cons (pe_fldK K (pv 2) rfl) pa_nil))) pa_nil)))))
      (pss_cons (ps_fldaugK K (pv 0) (pe_callB (cr_lenK K) (by rfl) T.b_len PySem.boot_len (pa_cons (pe_fldK K (pv 0) rfl) pa_nil)) in_add)
      (pss_one (ps_fldK K (pv 0) (pe_lst pa_nil) rfl)))), ?_⟩
  rw [clear_is] at k
  dsimp only at k
  have S0 := S.rebase
  have hR := S0.rep.stkR
  have hRl := Paired.length hR
  walk_at "rds"
  refine ⟨_, rfl, ⟨_, SqL.of S0.rep.stk⟩, for_list (K := K) (a := L.a 8) (xs := L.v 8) (fun j σ' H' => ∃ v, σ' = [some (.ref p), some (.ref t), v] ∧
      Sd K C H H' p L s ((t, .lst (tin (xs ++ fl ((s.stack.take j).map toGone)))) :: ex))
    ⟨none, rfl, (S0.castE (by simp [fl]))⟩ (fun j σ' H' _ ⟨v, _, S'⟩ => SqL.of S'.rep.stk) ?_ ?_⟩
  · rintro j x σ' H' hx ⟨v, rfl, S'⟩
    obtain ⟨d, hd, M⟩ := paired_get hR hx
    have hj : j < s.stack.length := (List.getElem?_eq_some_iff.mp hd).1
    show tDrop _ _ _ _
    walk_at "rds"
    refine tell2 (toGone d) (by assumption) rfl rfl (by rw [List.length_append, len_fl, List.length_map, List.length_take]; omega) fun H8 S8 => ?_
    refine ⟨_, rfl, S8.castE ?_⟩
    rw [take_snoc hd, List.map_append, fl_app, List.append_assoc]
    rfl
  · rintro σ' H' ⟨v, rfl, S'⟩
    rw [hRl, List.take_length] at S'
    dsimp only
    have S1 := S'.base S.kp
    clear S' S0
    walk_at "rds"
    refine wa_items_gone (j := (s.stack.length : Int)) cs rfl S1 (fun Q h => ?_) (fun Q h => w_rAdd h) (n := s.gone + s.stack.length) rfl fun H2 S2 => ?_
    · walk_at "rds"
      exact h
    · clear S1
      walk_at "rds"
      rename_i a H3 S3
      refine ws_stack cs rfl S3 .nil fun H4 S4 => ?_
      exact k _ _ S4
def endSt (s : State) : State := { s with rest := [10], later := [] }
def brkSt (s : State) : State := { s with rest := [] }
theorem wf_endSt {s : State} (w : WF s) : WF (endSt s) := { w with rest := (by intro k hk; rw [List.mem_singleton.mp hk]; decide), restL := (by show 1 ≤ 21; omega), later := (by intro p hx; cases hx), laterL := Nat.zero_le _ }
theorem wf_brkSt {s : State} (w : WF s) : WF (brkSt s) := { w with rest := (by intro k hk; cases hk), restL := Nat.zero_le _ }
abbrev sp_endturn (K : PySem.W.Frag) (C : Cs) : Sp := fun vs H Q _ => ∃ B p L s ex, vs = [.ref p] ∧ WK s ∧ Sd K C B H p L s ex ∧ Ans K C B p ex Q (does s .endTurn)
theorem ok_endturn (T : Txt K mg C) : OkF P w K mg base 8 "endturn" ["duel"] (sp_endturn K C) := by
  refine T.h_endturn.ok sc_endturn (fun vs H Q E h => ?_) (fun f cdv A outer s0 H vs Q E hr h => ?_)
  · obtain ⟨B, p, L, s, ex, rfl, _⟩ := h; rfl
  obtain ⟨B, p, L, s, ex, rfl, W, S, k⟩ := h
  have cs := T.cs
  refine ⟨_, (pss_cons (ps_set (i := 1) sc_endturn.nd rfl (by first | exact Or.inl rfl | exact Or.inr rfl) (pe_lst (pa_cons (pe_gl (by rfl) T.g_ACCEPTED) pa_nil)))
      (pss_cons (ps_expr (pe_fn (ok_lose_items (K := K) T) (hr.mono (by decide)) (by rfl) (pa_cons (pv 0) (pa_cons (pv 1) pa_nil))))
      (pss_cons (ps_expr (pe_fn (ok_end_marks_of_till (K := K) T) (hr.mono (by decide)) (by rfl) (pa_cons (pv 0) (pa_cons (pe_gl (by rfl) T.g_TILL_STEP_ENDS) (pa_cons (pv 1) pa_nil)))))
      (pss_cons (ps_expr (pe_fn (ok_end_marks_of_till (K := K) T) (hr.mono (by decide)) (by rfl) (pa_cons (pv 0) (pa_cons (pe_gl (by rfl) T.g_TILL_PHASE_ENDS) (pa_cons (pv 1) pa_nil)))))
      (pss_cons (ps_fldK K (pv 0) (pe_lst (pa_cons (pe_gl (by rfl) T.g_DUSK) pa_nil)) rfl)
      (pss_cons (ps_fldK K (pv 0) (pe_lst pa_nil) rfl)
      (pss_cons (ps_expr (pe_fn (ok_go_on (K := K) T) (hr.mono (by decide)) (by rfl) (pa_cons (pv 0) (pa_cons (pv 1) pa_nil))))
      (pss_one (ps_ret (pv 1)))))))))), ?_⟩
  have w1 := wf_clear W.toWF
  have w2 := w1.endMarks Vbdcaf.till0
  have w3 := w2.endMarks Vbdcaf.till1
  have p1 := pot_endMarks (Vbdcaf.clear s).1 Vbdcaf.till0
  have p2 := pot_endMarks (Vbdcaf.endMarks (Vbdcaf.clear s).1 Vbdcaf.till0).1 Vbdcaf.till1
  have p0 := pot_clear s
  have l0 := len_clear s
  have hth := W.things
  have hp := pot_le W.toWF
  have w4 := wf_endSt w3
  have e1 : does s .endTurn = Vbdcaf.tell (Vbdcaf.onward Vbdcaf.FUEL (endSt (Vbdcaf.endMarks (Vbdcaf.endMarks (Vbdcaf.clear s).1 Vbdcaf.till0).1 Vbdcaf.till1).1) ((Vbdcaf.clear s).2 ++ ((Vbdcaf.endMarks (Vbdcaf.clear s).1 Vbdcaf.till0).2 ++ (Vbdcaf.endMarks (Vbdcaf.endMarks (Vbdcaf.clear s).1 Vbdcaf.till0).1 Vbdcaf.till1).2))) := rfl
  rw [e1, tell_is] at k
  have hpo := pot_le w4
  have hmu := mu_le w4
  generalize hc : Vbdcaf.clear s = cl at *
  obtain ⟨s1, ev1⟩ := cl
  dsimp only at *
  have hm1 : s1.marks.length ≤ 1000 := Nat.le_trans w1.marksL (by decide)
  have hm2 : (Vbdcaf.endMarks s1 Vbdcaf.till0).1.marks.length ≤ 1000 := Nat.le_trans w2.marksL (by decide)
  have n1 := nd_of w1.mSort
  have n2 := nd_of w2.mSort
  clear w1 w2 w3 e1
  walk_at "rds"
  rename_i a H1 S1
  refine ⟨B, p, L, s, ex, a, [0], rfl, S1, by rw [sizeLine_eq]; show 1 + _ ≤ _; omega, fun H2 L2 S2 => ?_⟩
  rw [hc] at S2
  dsimp only at S2
  walk_at "rds"
  refine ⟨B, p, L2, s1, ex, 0, a, _, rfl, n1, hm1, S2, by rw [List.length_append, len_fl, sizeLine_eq]; show 1 + _ + 2 * (Vbdcaf.endMarks s1 Vbdcaf.till0).2.length ≤ _; omega, fun H3 L3 S3 => ?_⟩
  have S3 : Sd K C B H3 p L3 (Vbdcaf.endMarks s1 Vbdcaf.till0).1 ((a, .lst (tin (([0] ++ fl ev1) ++ fl (Vbdcaf.endMarks s1 Vbdcaf.till0).2))) :: ex) := S3
  generalize Vbdcaf.endMarks s1 Vbdcaf.till0 = y at *
  obtain ⟨s2, ev2⟩ := y
  dsimp only at *
  walk_at "rds"
  refine ⟨B, p, L3, s2, ex, 1, a, _, rfl, n2, hm2, S3, by rw [List.length_append, List.length_append, len_fl, len_fl, sizeLine_eq]; show 1 + _ + _ + 2 * (Vbdcaf.endMarks s2 Vbdcaf.till1).2.length ≤ _; omega, fun H4 L4 S4 => ?_⟩
  have S4 : Sd K C B H4 p L4 (Vbdcaf.endMarks s2 Vbdcaf.till1).1 ((a, .lst (tin ((([0] ++ fl ev1) ++ fl ev2) ++ fl (Vbdcaf.endMarks s2 Vbdcaf.till1).2))) :: ex) := S4
  generalize Vbdcaf.endMarks s2 Vbdcaf.till1 = x at *
  obtain ⟨s3, ev3⟩ := x
  dsimp only at *
  clear S S1 S2 S3
  walk_at "rds"
  rename_i b H5 S5
  refine ws_rest cs rfl (r := [10]) S5 fun H6 S6 => ?_
  clear S4 S5
  walk_at "rds"
  rename_i c H7 S7
  refine ws_phases cs rfl (r := []) S7 .nil fun H8 S8 => ?_
  clear S6 S7
  walk_at "rds"
  refine ⟨B, p, _, endSt s3, ex, a, [0], ev1 ++ (ev2 ++ ev3), rfl, w4, S8.castE (by rw [fl_app, fl_app, List.append_assoc, List.append_assoc]), ?_, fun H9 L9 S9 => ?_⟩
  · unfold evs
    rw [sizeLine_eq, List.length_append, List.length_append]
    show 1 + _ ≤ _
    omega
  · walk_at "rds"
    exact k _ _ _ S9
abbrev sp_breakoff (K : PySem.W.Frag) (C : Cs) : Sp := fun vs H Q _ => ∃ B p L s ex, vs = [.ref p] ∧ WK s ∧ Sd K C B H p L s ex ∧ Ans K C B p ex Q (does s .breakOff)
theorem ok_breakoff (T : Txt K mg C) : OkF P w K mg base 8 "breakoff" ["duel"] (sp_breakoff K C) := by
  refine T.h_breakoff.ok sc_breakoff (fun vs H Q E h => ?_) (fun f cdv A outer s0 H vs Q E hr h => ?_)
  · obtain ⟨B, p, L, s, ex, rfl, _⟩ := h; rfl
  obtain ⟨B, p, L, s, ex, rfl, W, S, k⟩ := h
  have cs := T.cs
  refine ⟨_, (pss_cons (ps_if (pt_cmpR (op_notInK K) (pe_fldK K (pv 0) rfl) (pe_gl (by rfl) T.g_FIGHT_PHASE) (by with_unfolding_all rfl)) (pss_one (ps_ret (pe_lst (pa_cons (pe_gl (by rfl) T.g_WRONG_TIME) pa_nil)))) pss_nil)
      (pss_cons (ps_set (i := 1) sc_breakoff.nd rfl (by first | exact Or.inl rfl | exact Or.inr rfl) (pe_lst (pa_cons (pe_gl (by rfl) T.g_ACCEPTED) pa_nil)))
      (pss_cons (ps_expr (pe_fn (ok_lose_items (K := K) T) (hr.mono (by decide)) (by rfl) (pa_cons (pv 0) (pa_cons (pv 1) pa_nil))))
      (pss_cons (ps_expr (pe_fn (ok_end_marks_of_till (K := K) T) (hr.mono (by decide)) (by rfl) (pa_cons (pv 0) (pa_cons (pe_gl (by rfl) T.g_TILL_STEP_ENDS) (pa_cons (pv 1) pa_nil)))))
      (pss_cons (ps_fldK K (pv 0) (pe_lst pa_nil) rfl)
      (pss_cons (ps_expr (pe_fn (ok_go_on (K := K) T) (hr.mono (by decide)) (by rfl) (pa_cons (pv 0) (pa_cons (pv 1) pa_nil))))
      (pss_one (ps_ret (pv 1))))))))), ?_⟩
  walk_at "rds"
  refine w_notK (Txt.t_FIGHT_PHASE (by assumption)) rfl ?_
  walk_at "rds"
  have hm : ((s.step : Int) ∈ unI (nats [4, 5, 6, 7])) ↔ (4 ≤ s.step ∧ s.step ≤ 7) := by
    show (s.step : Int) ∈ [(4 : Int), 5, 6, 7] ↔ _
    simp only [List.mem_cons, List.not_mem_nil, or_false]
    omega
  refine w_iteN (fun h => ?_) (fun h => ?_)
  · rw [hm] at h
    walk_at "rds"
    refine k.go ?_ (by assumption) rfl
    show (if _ then _ else _) = _
    rw [if_pos (by omega)]
    rfl
  rw [hm] at h
  have w1 := wf_clear W.toWF
  have w2 := w1.endMarks Vbdcaf.till0
  have p1 := pot_endMarks (Vbdcaf.clear s).1 Vbdcaf.till0
  have p0 := pot_clear s
  have l0 := len_clear s
  have hth := W.things
  have hp := pot_le W.toWF
  have w4 := wf_brkSt w2
  have e1 : does s .breakOff = Vbdcaf.tell (Vbdcaf.onward Vbdcaf.FUEL (brkSt (Vbdcaf.endMarks (Vbdcaf.clear s).1 Vbdcaf.till0).1) ((Vbdcaf.clear s).2 ++ (Vbdcaf.endMarks (Vbdcaf.clear s).1 Vbdcaf.till0).2)) := by
    show (if _ then _ else _) = _
    rw [if_neg (by omega)]
    rfl
  rw [e1, tell_is] at k
  have hpo := pot_le w4
  have hmu := mu_le w4
  generalize hc : Vbdcaf.clear s = cl at *
  obtain ⟨s1, ev1⟩ := cl
  dsimp only at *
  have hm1 : s1.marks.length ≤ 1000 := Nat.le_trans w1.marksL (by decide)
  have n1 := nd_of w1.mSort
  clear w1 w2 e1
  walk_at "rds"
  rename_i a H1 S1
  refine ⟨B, p, L, s, ex, a, [0], rfl, S1, by rw [sizeLine_eq]; show 1 + _ ≤ _; omega, fun H2 L2 S2 => ?_⟩
  rw [hc] at S2
  dsimp only at S2
  walk_at "rds"
  refine ⟨B, p, L2, s1, ex, 0, a, _, rfl, n1, hm1, S2, by rw [List.length_append, len_fl, sizeLine_eq]; show 1 + _ + 2 * (Vbdcaf.endMarks s1 Vbdcaf.till0).2.length ≤ _; omega, fun H3 L3 S3 => ?_⟩
  have S3 : Sd K C B H3 p L3 (Vbdcaf.endMarks s1 Vbdcaf.till0).1 ((a, .lst (tin (([0] ++ fl ev1) ++ fl (Vbdcaf.endMarks s1 Vbdcaf.till0).2))) :: ex) := S3
  generalize Vbdcaf.endMarks s1 Vbdcaf.till0 = y at *
  obtain ⟨s2, ev2⟩ := y
  dsimp only at *
  clear S S1 S2
  walk_at "rds"
  rename_i b H5 S5
  refine ws_rest cs rfl (r := []) S5 fun H6 S6 => ?_
  clear S3 S5
  walk_at "rds"
  refine ⟨B, p, _, brkSt s2, ex, a, [0], ev1 ++ ev2, rfl, w4, S6.castE (by rw [fl_app, List.append_assoc]), ?_, fun H9 L9 S9 => ?_⟩
  · unfold evs
    rw [sizeLine_eq, List.length_append]
    show 1 + _ ≤ _
    omega
  · walk_at "rds"
    exact k _ _ _ S9
open MA
open Vbdcaf (at_ bump drop1 does Call no yes)
abbrev sp_one_if (K : PySem.W.Frag) (C : Cs) : Sp := fun vs H Q _ => ∃ b, vs = [.bl b] ∧ Q (.int ((Vbdcaf.bit b : Nat) : Int)) H
theorem ok_one_if (T : Txt K mg C) : OkF P w K mg base 1 "one_if" ["yes"] (sp_one_if K C) := by
  refine T.h_one_if.ok sc_one_if (fun vs H Q E h => ?_) (fun f cdv A outer s0 H vs Q E hr h => ?_)
  · obtain ⟨b, rfl, _⟩ := h; rfl
  obtain ⟨b, rfl, k⟩ := h
  have cs := T.cs
  refine ⟨_, (pss_one (ps_ret (pe_ifExp (pt_val (pv 0)) pe_int pe_int))), ?_⟩
  walk_at "rds"
  refine w_iteB (fun h => ?_) (fun h => ?_)
  · subst h
    walk_at "rds"
    exact k
  · subst h
    walk_at "rds"
    exact k
theorem tin_nats (l : List Nat) : nats l = tin (l.map fun n => ((n : Nat) : Int)) := by
  unfold nats tin
  rw [List.map_map]
  rfl
def ni (l : List Nat) : List Int := l.map fun n => ((n : Nat) : Int)
theorem nats_ni (l : List Nat) : nats l = tin (ni l) := tin_nats l
theorem ni_app (a b : List Nat) : ni (a ++ b) = ni a ++ ni b := List.map_append
theorem len_ni (l : List Nat) : (ni l).length = l.length := List.length_map _
theorem tin_ni_app (a b : List Nat) : tin (ni a) ++ nats b = tin (ni (a ++ b)) := by
  rw [ni_app, tin_app, nats_ni]
abbrev sp_with_count (K : PySem.W.Frag) (C : Cs) : Sp := fun vs H Q _ => ∃ (B : Hp) (p : Addr) (L : Lay) (s : State) (ex : List (Addr × HO)) (a : Addr) (l : List Nat), vs = [.ref a] ∧ Sd K C B H p L s ex ∧ (∀ H1 ex', Sd K C B H1 p L s ex' → SqL K H1 a (nats l) ∨ SqT K H1 a (nats l)) ∧ l.length ≤ 1000 ∧
  ∀ E H', Sd K C B H' p L s ((E, .lst (nats (l.length :: l))) :: ex) → Q (.ref E) H'
theorem ok_with_count (T : Txt K mg C) : OkF P w K mg base 1 "with_count" ["row"] (sp_with_count K C) := by
  refine T.h_with_count.ok sc_with_count (fun vs H Q E h => ?_) (fun f cdv A outer s0 H vs Q E hr h => ?_)
  · obtain ⟨B, p, L, s, ex, a, l, rfl, _⟩ := h; rfl
  obtain ⟨B, p, L, s, ex, a, l, rfl, S, src, hl, k⟩ := h
  have cs := T.cs
  refine ⟨_, (pss_one (ps_ret (pe_op op_cat (pe_lst (pa_cons (pe_callB (cr_lenK K) (by rfl) T.b_len PySem.boot_len (pa_cons (pv 0) pa_nil)) pa_nil)) (pe_callTy (cr_listOfK K) (by rfl) T.b_list Pv.boot_list (pa_cons (pv 0) pa_nil))))), ?_⟩
  walk_at "rds"
  refine ⟨a, _, rfl, src _ _ S, ?_⟩
  rw [len_nats]
  walk_at "rds"
  rename_i b H1 S1
  refine list_sd S1 (src _ _ S1) fun c H2 S2 => ?_
  walk_at "rds"
  refine cat_sd S2 (by rw [len_nats, sizeLine_eq]; show 1 + _ ≤ _; omega) fun E H3 S3 => ?_
  exact k _ _ S3
abbrev sp_tell_state (K : PySem.W.Frag) (C : Cs) : Sp := fun vs H Q _ => ∃ B p L s ex, vs = [.ref p] ∧ WK s ∧ Sd K C B H p L s ex ∧ Ans K C B p ex Q (does s .state)
theorem ok_tell_state (T : Txt K mg C) : OkF P w K mg base 2 "tell_state" ["duel"] (sp_tell_state K C) := by
  refine T.h_tell_state.ok sc_tell_state (fun vs H Q E h => ?_) (fun f cdv A outer s0 H vs Q E hr h => ?_)
  · obtain ⟨B, p, L, s, ex, rfl, _⟩ := h; rfl
  obtain ⟨B, p, L, s, ex, rfl, W, S, k⟩ := h
  have cs := T.cs
  refine ⟨_, (pss_one (ps_ret (pe_lst (pa_cons (pe_gl (by rfl) T.g_ACCEPTED) (pa_cons (pe_fldK K (pv 0) rfl) (pa_cons (pe_fldK K (pv 0) rfl) (pa_cons (pe_fldK K (pv 0) rfl) (pa_cons (pe_fldK K (pv 0) rfl) (pa_cons (pe_fn (ok_one_if (K := K) T) (hr.mono (by decide)) (by rfl) (pa_cons (pe_fldK K (pv 0) rfl) pa_nil)) (pa_cons (pe_fldK K (pv 0) rfl) (pa_cons (pe_fn (ok_one_if (K := K) T) (hr.mono (by decide)) (by rfl) (pa_cons (pe_fldK K (pv 0) rfl) pa_nil)) (pa_cons (pe_fn (ok_one_if (K := K) T) (hr.mono (by decide)) (by rfl) (pa_cons (pe_fldK K (pv 0) rfl) pa_nil)) pa_nil)))))))))))), ?_⟩
  have hp : Vbdcaf.bit (s.passes == 1) = s.passes := by
    have := W.pas
    unfold Vbdcaf.bit
    have h : s.passes = 0 ∨ s.passes = 1 := by omega
    rcases h with h | h <;> rw [h] <;> rfl
  walk_at "rds"
  refine ⟨_, rfl, ?_⟩
  walk_at "rds"
  refine ⟨_, rfl, ?_⟩
  walk_at "rds"
  refine ⟨_, rfl, ?_⟩
  rw [hp]
  walk_at "rds"
  exact k.go rfl (by assumption) rfl
/-- a list that is told behind another -/
theorem tellN {B H : Hp} {p : Addr} {L : Lay} {s : State} {ex : List (Addr × HO)} {Q : VK} {t b : Addr} {xs ys : List Nat} {zs : List V} (S : Sd K C B H p L s ((b, .lst zs) :: (t, .lst (nats xs)) :: ex)) (e : zs = nats ys) (hz : xs.length + ys.length ≤ sizeLine) (h : ∀ H2, Sd K C B H2 p L s ((t, .lst (nats (xs ++ ys))) :: ex) → Q .non H2) : rExtend (.ref t) [.ref b] H Q := by
  subst e
  refine ext_tell S (by rw [len_nats, len_nats]; exact hz) fun H2 S2 => h H2 (S2.castE ?_)
  unfold nats
  rw [List.map_append]
/-- one of the duel's own lists told behind another -/
theorem tellO {B H : Hp} {p : Addr} {L : Lay} {s : State} {ex : List (Addr × HO)} {Q : VK} {t b : Addr} {xs ys : List Nat} (S : Sd K C B H p L s ((t, .lst (nats xs)) :: ex)) (hb : H b = some (.lst (nats ys))) (hz : xs.length + ys.length ≤ sizeLine) (h : ∀ H2, Sd K C B H2 p L s ((t, .lst (nats (xs ++ ys))) :: ex) → Q .non H2) : rExtend (.ref t) [.ref b] H Q :=
  ⟨t, b, _, _, rfl, rfl, S.at0, hb, by rw [len_nats, len_nats]; exact hz, by
    have e : nats xs ++ nats ys = nats (xs ++ ys) := by unfold nats; rw [List.map_append]
    rw [e]
    exact h _ S.put⟩
theorem ans_nats {B H : Hp} {p a : Addr} {L : Lay} {s : State} {ex : List (Addr × HO)} {Q : VK} {xs : List Nat} {r : State × List Int} (k : Ans K C B p ex Q r) (e : r = yes s xs) (S : Sd K C B H p L s ((a, .lst (nats (0 :: xs))) :: ex)) : Q (.ref a) H := by
  subst e
  exact k H L a (S.castE (tin_nats (0 :: xs)))
theorem len_fm {α : Type} {f : α → List Nat} {c : Nat} (hf : ∀ x, (f x).length = c) : ∀ l : List α, (l.flatMap f).length = c * l.length
  | [] => rfl
  | a :: r => by rw [List.flatMap_cons, List.length_append, hf, len_fm hf r, List.length_cons, Nat.mul_succ]; omega
def f3 (i : Vbdcaf.Item) : List Nat := [i.num, i.side, Vbdcaf.bit i.shut]
def f4 (m : Vbdcaf.Mark) : List Nat := [m.num, m.till, m.side, m.step]
def f5 (d : Vbdcaf.Delay) : List Nat := [d.num, d.owner, d.side, d.step]
abbrev sp_tell_stack (K : PySem.W.Frag) (C : Cs) : Sp := fun vs H Q _ => ∃ B p L s ex, vs = [.ref p] ∧ WK s ∧ Sd K C B H p L s ex ∧ Ans K C B p ex Q (does s .stack)
theorem ok_tell_stack (T : Txt K mg C) : OkF P w K mg base 2 "tell_stack" ["duel"] (sp_tell_stack K C) := by
  refine T.h_tell_stack.ok sc_tell_stack (fun vs H Q E h => ?_) (fun f cdv A outer s0 H vs Q E hr h => ?_)
  · obtain ⟨B, p, L, s, ex, rfl, _⟩ := h; rfl
  obtain ⟨B, p, L, s, ex, rfl, W, S, k⟩ := h
  have cs := T.cs
  refine ⟨_, (pss_cons (ps_set (i := 1) sc_tell_stack.nd rfl (by first | exact Or.inl rfl | exact Or.inr rfl) (pe_lst (pa_cons (pe_gl (by rfl) T.g_ACCEPTED) pa_nil)))
      (pss_cons (ps_for PassesOwn.never rfl (pi_listK K (pe_fldK K (pv 0) rfl)) (pg_name (i := 2) sc_tell_stack.nd rfl (by first | exact Or.inl rfl | exact Or.inr rfl)) (pss_one (ps_expr (pe_bmK K PySem.F.plainAttrs_list PySem.F.slot_list_extend PySem.F.type_list_extend mt_extend (pv 1) (pa_cons (pe_lst (pa_cons (pe_fldK K (pv 2) rfl) (pa_cons (pe_fldK K (pv 2) rfl) (pa_cons (pe_fn (ok_one_if (K := K) T) (hr.mono (by decide)) (by rfl) (pa_cons (pe_fldK K (pv 2) rfl) pa_nil)) pa_nil)))) pa_nil)))))
      (pss_one (ps_ret (pv 1))))), ?_⟩
  have hth := W.things
  have S0 := S.rebase
  have hR := S0.rep.stkR
  have hRl := Paired.length hR
  have hkp := S.kp
  clear S
  walk_at "rds"
  rename_i t H1 S1
  refine ⟨_, rfl, ⟨_, SqL.of S1.rep.stk⟩, for_list (K := K) (a := L.a 8) (xs := L.v 8) (fun j σ' H' => ∃ v, σ' = [some (.ref p), some (.ref t), v] ∧
      Sd K C H H' p L s ((t, .lst (nats (0 :: (s.stack.take j).flatMap f3))) :: ex))
    ⟨none, rfl, S1⟩ (fun j σ' H' _ ⟨v, _, S'⟩ => SqL.of S'.rep.stk) ?_ ?_⟩
  · rintro j x σ' H' hx ⟨v, rfl, S'⟩
    obtain ⟨d, hd, M⟩ := paired_get hR hx
    have hj : j < s.stack.length := (List.getElem?_eq_some_iff.mp hd).1
    show tDrop _ _ _ _
    walk_at "rds"
    refine ⟨_, rfl, ?_⟩
    walk_at "rds"
    refine tellN (ys := f3 d) (by assumption) rfl (by rw [List.length_cons, len_fm (c := 3) (fun _ => rfl), List.length_take, sizeLine_eq]; show _ + 3 ≤ _; omega) fun H8 S8 => ?_
    refine ⟨_, rfl, S8.castE ?_⟩
    rw [take_snoc hd, List.flatMap_append]
    rw [List.cons_append, List.flatMap_singleton]
  · rintro σ' H' ⟨v, rfl, S'⟩
    rw [hRl, List.take_length] at S'
    dsimp only
    walk_at "rds"
    exact ans_nats k rfl (S'.base hkp)
abbrev sp_tell_marks (K : PySem.W.Frag) (C : Cs) : Sp := fun vs H Q _ => ∃ B p L s ex, vs = [.ref p] ∧ WK s ∧ Sd K C B H p L s ex ∧ Ans K C B p ex Q (does s .marks)
theorem ok_tell_marks (T : Txt K mg C) : OkF P w K mg base 1 "tell_marks" ["duel"] (sp_tell_marks K C) := by
  refine T.h_tell_marks.ok sc_tell_marks (fun vs H Q E h => ?_) (fun f cdv A outer s0 H vs Q E hr h => ?_)
  · obtain ⟨B, p, L, s, ex, rfl, _⟩ := h; rfl
  obtain ⟨B, p, L, s, ex, rfl, W, S, k⟩ := h
  have cs := T.cs
  refine ⟨_, (pss_cons (ps_set (i := 1) sc_tell_marks.nd rfl (by first | exact Or.inl rfl | exact Or.inr rfl) (pe_lst (pa_cons (pe_gl (by rfl) T.g_ACCEPTED) pa_nil)))
      (pss_cons (ps_for PassesOwn.never rfl (pi_listK K (pe_fldK K (pv 0) rfl)) (pg_name (i := 2) sc_tell_marks.nd rfl (by first | exact Or.inl rfl | exact Or.inr rfl)) (pss_one (ps_expr (pe_bmK K PySem.F.plainAttrs_list PySem.F.slot_list_extend PySem.F.type_list_extend mt_extend (pv 1) (pa_cons (pe_lst (pa_cons (pe_fldK K (pv 2) rfl) (pa_cons (pe_fldK K (pv 2) rfl) (pa_cons (pe_fldK K (pv 2) rfl) (pa_cons (pe_fldK K (pv 2) rfl) pa_nil))))) pa_nil)))))
      (pss_one (ps_ret (pv 1))))), ?_⟩
  have hth := W.marksL
  have S0 := S.rebase
  have hR := S0.rep.mksR
  have hRl := Paired.length hR
  have hkp := S.kp
  clear S
  walk_at "rds"
  rename_i t H1 S1
  refine ⟨_, rfl, ⟨_, SqL.of S1.rep.mks⟩, for_list (K := K) (a := L.a 9) (xs := L.v 9) (fun j σ' H' => ∃ v, σ' = [some (.ref p), some (.ref t), v] ∧
      Sd K C H H' p L s ((t, .lst (nats (0 :: (s.marks.take j).flatMap f4))) :: ex))
    ⟨none, rfl, S1⟩ (fun j σ' H' _ ⟨v, _, S'⟩ => SqL.of S'.rep.mks) ?_ ?_⟩
  · rintro j x σ' H' hx ⟨v, rfl, S'⟩
    obtain ⟨d, hd, M⟩ := paired_get hR hx
    have hj : j < s.marks.length := (List.getElem?_eq_some_iff.mp hd).1
    show tDrop _ _ _ _
    walk_at "rds"
    refine tellN (ys := f4 d) (by assumption) rfl (by rw [List.length_cons, len_fm (c := 4) (fun _ => rfl), List.length_take, sizeLine_eq]; show _ + 4 ≤ _; omega) fun H8 S8 => ?_
    refine ⟨_, rfl, S8.castE ?_⟩
    rw [take_snoc hd, List.flatMap_append]
    rw [List.cons_append, List.flatMap_singleton]
  · rintro σ' H' ⟨v, rfl, S'⟩
    rw [hRl, List.take_length] at S'
    dsimp only
    walk_at "rds"
    exact ans_nats k rfl (S'.base hkp)
abbrev sp_tell_delays (K : PySem.W.Frag) (C : Cs) : Sp := fun vs H Q _ => ∃ B p L s ex, vs = [.ref p] ∧ WK s ∧ Sd K C B H p L s ex ∧ Ans K C B p ex Q (does s .delays)
theorem ok_tell_delays (T : Txt K mg C) : OkF P w K mg base 1 "tell_delays" ["duel"] (sp_tell_delays K C) := by
  refine T.h_tell_delays.ok sc_tell_delays (fun vs H Q E h => ?_) (fun f cdv A outer s0 H vs Q E hr h => ?_)
  · obtain ⟨B, p, L, s, ex, rfl, _⟩ := h; rfl
  obtain ⟨B, p, L, s, ex, rfl, W, S, k⟩ := h
  have cs := T.cs
  refine ⟨_, (pss_cons (ps_set (i := 1) sc_tell_delays.nd rfl (by first | exact Or.inl rfl | exact Or.inr rfl) (pe_lst (pa_cons (pe_gl (by rfl) T.g_ACCEPTED) pa_nil)))
      (pss_cons (ps_for PassesOwn.never rfl (pi_listK K (pe_fldK K (pv 0) rfl)) (pg_name (i := 2) sc_tell_delays.nd rfl (by first | exact Or.inl rfl | exact Or.inr rfl)) (pss_one (ps_expr (pe_bmK K PySem.F.plainAttrs_list PySem.F.slot_list_extend PySem.F.type_list_extend mt_extend (pv 1) (pa_cons (pe_lst (pa_cons (pe_fldK K (pv 2) rfl) (pa_cons (pe_fldK K (pv 2) rfl) (pa_cons (pe_fldK K (pv 2) rfl) (pa_cons (pe_fldK K (pv 2) rfl) pa_nil))))) pa_nil)))))
      (pss_one (ps_ret (pv 1))))), ?_⟩
  have hth := W.things
  have S0 := S.rebase
  have hR := S0.rep.dlsR
  have hRl := Paired.length hR
  have hkp := S.kp
  clear S
  walk_at "rds"
  rename_i t H1 S1
  refine ⟨_, rfl, ⟨_, SqL.of S1.rep.dls⟩, for_list (K := K) (a := L.a 10) (xs := L.v 10) (fun j σ' H' => ∃ v, σ' = [some (.ref p), some (.ref t), v] ∧
      Sd K C H H' p L s ((t, .lst (nats (0 :: (s.delays.take j).flatMap f5))) :: ex))
    ⟨none, rfl, S1⟩ (fun j σ' H' _ ⟨v, _, S'⟩ => SqL.of S'.rep.dls) ?_ ?_⟩
  · rintro j x σ' H' hx ⟨v, rfl, S'⟩
    obtain ⟨d, hd, M⟩ := paired_get hR hx
    have hj : j < s.delays.length := (List.getElem?_eq_some_iff.mp hd).1
    show tDrop _ _ _ _
    walk_at "rds"
    refine tellN (ys := f5 d) (by assumption) rfl (by rw [List.length_cons, len_fm (c := 4) (fun _ => rfl), List.length_take, sizeLine_eq]; show _ + 4 ≤ _; omega) fun H8 S8 => ?_
    refine ⟨_, rfl, S8.castE ?_⟩
    rw [take_snoc hd, List.flatMap_append]
    rw [List.cons_append, List.flatMap_singleton]
  · rintro σ' H' ⟨v, rfl, S'⟩
    rw [hRl, List.take_length] at S'
    dsimp only
    walk_at "rds"
    exact ans_nats k rfl (S'.base hkp)
theorem two_at {l : List Nat} (h : l.length = 2) : l = [at_ l 0, at_ l 1] := by
  obtain ⟨a, b, rfl⟩ := len2 h
  rfl
theorem cat_own {B H : Hp} {p : Addr} {L : Lay} {s : State} {ex : List (Addr × HO)} {Q : VK} {a b : Addr} {xs ys : List V} (S : Sd K C B H p L s ((a, .lst xs) :: ex)) (hb : H b = some (.lst ys)) (hz : xs.length + ys.length ≤ sizeLine) (k : ∀ l H2, Sd K C B H2 p L s ((l, .lst (xs ++ ys)) :: ex) → Q (.ref l) H2) : rCat (.ref a) (.ref b) H Q :=
  ⟨a, b, xs, ys, rfl, rfl, S.at0, hb, hz, fun l hl => k l _ (S.alloc hl).d1⟩
abbrev sp_tell_ledger (K : PySem.W.Frag) (C : Cs) : Sp := fun vs H Q _ => ∃ B p L s ex, vs = [.ref p] ∧ WK s ∧ Sd K C B H p L s ex ∧ Ans K C B p ex Q (does s .ledger)
theorem ok_tell_ledger (T : Txt K mg C) : OkF P w K mg base 1 "tell_ledger" ["duel"] (sp_tell_ledger K C) := by
  refine T.h_tell_ledger.ok sc_tell_ledger (fun vs H Q E h => ?_) (fun f cdv A outer s0 H vs Q E hr h => ?_)
  · obtain ⟨B, p, L, s, ex, rfl, _⟩ := h; rfl
  obtain ⟨B, p, L, s, ex, rfl, W, S, k⟩ := h
  have cs := T.cs
  refine ⟨_, (pss_cons (ps_set (i := 1) sc_tell_ledger.nd rfl (by first | exact Or.inl rfl | exact Or.inr rfl) (pe_op op_cat (pe_lst (pa_cons (pe_gl (by rfl) T.g_ACCEPTED) pa_nil)) (pe_fldK K (pv 0) rfl)))
      (pss_cons (ps_expr (pe_bmK K PySem.F.plainAttrs_list PySem.F.slot_list_extend PySem.F.type_list_extend mt_extend (pv 1) (pa_cons (pe_lst (pa_cons (pe_fldK K (pv 0) rfl) (pa_cons (pe_fldK K (pv 0) rfl) (pa_cons (pe_fldK K (pv 0) rfl) (pa_cons (pe_fldK K (pv 0) rfl) (pa_cons (pe_callB (cr_lenK K) (by rfl) T.b_len PySem.boot_len (pa_cons (pe_fldK K (pv 0) rfl) pa_nil)) pa_nil)))))) pa_nil)))
      (pss_one (ps_ret (pv 1))))), ?_⟩
  have htr := W.trL
  walk_at "rds"
  rename_i a H1 S1
  refine cat_own S1 S1.rep.tos (by rw [len_nats, htr]; exact small _) fun l H2 S2 => ?_
  have S2 : Sd K C B H2 p L s ((l, .lst (nats (0 :: s.turns))) :: ex) := S2
  clear S S1
  walk_at "rds"
  refine tellN (ys := [s.put, s.done, s.undone, s.gone, s.stack.length]) (by assumption) rfl (by rw [List.length_cons, htr]; exact small _) fun H3 S3 => ?_
  walk_at "rds"
  refine ans_nats k ?_ S3
  show yes s _ = _
  congr 1
  rw [two_at htr]
  rfl
def fc (ph : List Nat) : List Nat := ph.length :: ph
theorem len_fc : ∀ l : List (List Nat), (∀ ph ∈ l, ph ∈ Vbdcaf.PHASES) → (l.flatMap fc).length ≤ 5 * l.length
  | [], _ => Nat.zero_le _
  | a :: r, h => by
    rw [List.flatMap_cons, List.length_append, List.length_cons]
    have h1 := len_fc r fun ph hp => h ph (List.mem_cons_of_mem _ hp)
    have h2 := h a List.mem_cons_self
    have h3 : (fc a).length ≤ 5 := by
      simp [Vbdcaf.PHASES] at h2
      rcases h2 with rfl | rfl | rfl | rfl | rfl <;> decide
    omega
abbrev sp_tell_coming (K : PySem.W.Frag) (C : Cs) : Sp := fun vs H Q _ => ∃ B p L s ex, vs = [.ref p] ∧ WK s ∧ Sd K C B H p L s ex ∧ Ans K C B p ex Q (does s .coming)
theorem ok_tell_coming (T : Txt K mg C) : OkF P w K mg base 2 "tell_coming" ["duel"] (sp_tell_coming K C) := by
  refine T.h_tell_coming.ok sc_tell_coming (fun vs H Q E h => ?_) (fun f cdv A outer s0 H vs Q E hr h => ?_)
  · obtain ⟨B, p, L, s, ex, rfl, _⟩ := h; rfl
  obtain ⟨B, p, L, s, ex, rfl, W, S, k⟩ := h
  have cs := T.cs
  refine ⟨_, (pss_cons (ps_set (i := 1) sc_tell_coming.nd rfl (by first | exact Or.inl rfl | exact Or.inr rfl) (pe_op op_cat (pe_lst (pa_cons (pe_gl (by rfl) T.g_ACCEPTED) pa_nil)) (pe_fn (ok_with_count (K := K) T) (hr.mono (by decide)) (by rfl) (pa_cons (pe_fldK K (pv 0) rfl) pa_nil))))
      (pss_cons (ps_expr (pe_bmK K PySem.F.plainAttrs_list PySem.F.slot_list_append PySem.F.type_list_append mt_append (pv 1) (pa_cons (pe_callB (cr_lenK K) (by rfl) T.b_len PySem.boot_len (pa_cons (pe_fldK K (pv 0) rfl) pa_nil)) pa_nil)))
      (pss_cons (ps_for PassesOwn.never rfl (pi_listK K (pe_fldK K (pv 0) rfl)) (pg_name (i := 2) sc_tell_coming.nd rfl (by first | exact Or.inl rfl | exact Or.inr rfl)) (pss_one (ps_expr (pe_bmK K PySem.F.plainAttrs_list PySem.F.slot_list_extend PySem.F.type_list_extend mt_extend (pv 1) (pa_cons (pe_fn (ok_with_count (K := K) T) (hr.mono (by decide)) (by rfl) (pa_cons (pv 2) pa_nil)) pa_nil)))))
      (pss_cons (ps_expr (pe_bmK K PySem.F.plainAttrs_list PySem.F.slot_list_extend PySem.F.type_list_extend mt_extend (pv 1) (pa_cons (pe_fn (ok_with_count (K := K) T) (hr.mono (by decide)) (by rfl) (pa_cons (pe_fldK K (pv 0) rfl) pa_nil)) pa_nil)))
      (pss_cons (ps_expr (pe_bmK K PySem.F.plainAttrs_list PySem.F.slot_list_extend PySem.F.type_list_extend mt_extend (pv 1) (pa_cons (pe_fldK K (pv 0) rfl) pa_nil)))
      (pss_cons (ps_expr (pe_bmK K PySem.F.plainAttrs_list PySem.F.slot_list_extend PySem.F.type_list_extend mt_extend (pv 1) (pa_cons (pe_fldK K (pv 0) rfl) pa_nil)))
      (pss_cons (ps_for PassesOwn.never rfl (pi_listK K (pe_fldK K (pv 0) rfl)) (pg_name (i := 3) sc_tell_coming.nd rfl (by first | exact Or.inl rfl | exact Or.inr rfl)) (pss_one (ps_expr (pe_bmK K PySem.F.plainAttrs_list PySem.F.slot_list_extend PySem.F.type_list_extend mt_extend (pv 1) (pa_cons (pv 3) pa_nil)))))
      (pss_one (ps_ret (pv 1)))))))))), ?_⟩
  have hr := W.restL
  have hla := W.laterL
  have hex := W.extraL
  have hst := W.stL
  have hsf := W.sfL
  have hss := W.ssL
  have hfc := len_fc s.later W.later
  have S0 := S.rebase
  have hR := S0.rep.phsR
  have hRl := Paired.length hR
  have hkp := S.kp
  clear S
  walk_at "rds"
  rename_i a H1 S1
  refine ⟨H, p, L, s, _, L.a 0, s.rest, rfl, S1, fun H2 ex' S2 => .inl (SqL.of S2.rep.rest), by omega, fun E2 H2 S2 => ?_⟩
  refine cat_sd S2 (by rw [len_nats, sizeLine_eq]; show 1 + (s.rest.length + 1) ≤ _; omega) fun t H3 S3 => ?_
  have S3 : Sd K C H H3 p L s ((t, .lst (nats (0 :: s.rest.length :: s.rest))) :: ex) := S3
  clear S0 S1 S2
  walk_at "rds"
  refine ⟨t, _, _, rfl, rfl, S3.at0, by rw [len_nats, List.length_cons, List.length_cons, sizeLine_eq]; omega, ?_⟩
  have S4 := S3.put (ys := nats (0 :: s.rest.length :: s.rest) ++ [V.int ((s.later.length : Nat) : Int)])
  generalize upd H3 t _ = H4 at S4 ⊢
  have S4 : Sd K C H H4 p L s ((t, .lst (nats ((0 :: s.rest.length :: s.rest) ++ [s.later.length]))) :: ex) := S4.castE (by unfold nats; rw [List.map_append]; rfl)
  generalize hA : (0 :: s.rest.length :: s.rest) ++ [s.later.length] = A at S4
  have hAl : A.length ≤ 40 := by rw [← hA]; simp; omega
  clear S3
  walk_at "rds"
  refine ⟨_, rfl, ⟨_, SqL.of S4.rep.phs⟩, for_list (K := K) (a := L.a 1) (xs := L.v 1) (fun j σ' H' => ∃ v, σ' = [some (.ref p), some (.ref t), v, none] ∧
      Sd K C H H' p L s ((t, .lst (nats (A ++ (s.later.take j).flatMap fc))) :: ex))
    ⟨none, rfl, S4.castE (by simp)⟩ (fun j σ' H' _ ⟨v, _, S'⟩ => SqL.of S'.rep.phs) ?_ ?_⟩
  · rintro j x σ' H' hx ⟨v, rfl, S'⟩
    obtain ⟨d, hd, M⟩ := paired_get hR hx
    have hj : j < s.later.length := (List.getElem?_eq_some_iff.mp hd).1
    have hd1 := W.later d (List.mem_of_getElem? hd)
    have hd2 : d.length ≤ 5 := by
      simp [Vbdcaf.PHASES] at hd1
      rcases hd1 with rfl | rfl | rfl | rfl | rfl <;> decide
    have hfj := len_fc (s.later.take j) fun ph hp => W.later ph (List.mem_of_mem_take hp)
    rw [List.length_take] at hfj
    obtain ⟨b, rfl, M⟩ := M
    show tDrop _ _ _ _
    walk_at "rds"
    refine ⟨H, p, L, s, _, b, d, rfl, S', fun H2 ex' S2 => .inr (sqT_keep S2.kp M), by omega, fun E2 H2 S2 => ?_⟩
    walk_at "rds"
    refine tellN S2 rfl (by rw [List.length_append, List.length_cons, sizeLine_eq]; omega) fun H8 S8 => ?_
    refine ⟨_, rfl, S8.castE ?_⟩
    rw [take_snoc hd, List.flatMap_append, List.flatMap_singleton, List.append_assoc]
    rfl
  · rintro σ' H' ⟨v1, rfl, S'⟩
    rw [hRl, List.take_length] at S'
    generalize hB : A ++ s.later.flatMap fc = BB at S'
    have hBl : BB.length ≤ 140 := by rw [← hB, List.length_append]; omega
    dsimp only
    clear S4
    walk_at "rds"
    refine ⟨H, p, L, s, _, L.a 2, s.extra, rfl, S', fun H2 ex' S2 => .inl (SqL.of S2.rep.extra), by omega, fun E2 H2 S2 => ?_⟩
    walk_at "rds"
    refine tellN S2 rfl (by rw [List.length_cons, sizeLine_eq]; omega) fun H3 S3 => ?_
    clear S' S2
    walk_at "rds"
    refine tellO S3 S3.rep.st (by rw [List.length_append, List.length_cons, sizeLine_eq]; omega) fun H4 S4 => ?_
    clear S3
    walk_at "rds"
    refine tellO S4 S4.rep.sf (by rw [List.length_append, List.length_append, List.length_cons, sizeLine_eq]; omega) fun H5 S5 => ?_
    clear S4
    generalize hD : BB ++ (s.extra.length :: s.extra) ++ s.skipTurns ++ s.skipFights = DD at S5
    have hDl : DD.length ≤ 200 := by rw [← hD]; simp; omega
    walk_at "rds"
    refine ⟨_, rfl, ⟨_, SqL.of S5.rep.ss⟩, for_list (K := K) (a := L.a 5) (xs := [.ref (L.a 6), .ref (L.a 7)]) (fun j σ' H' => ∃ v, σ' = [some (.ref p), some (.ref t), v1, v] ∧
        Sd K C H H' p L s ((t, .lst (nats (DD ++ s.skipSteps.take (11 * j)))) :: ex))
      ⟨none, rfl, S5.castE (by simp)⟩ (fun j σ' H' _ ⟨v, _, S'⟩ => SqL.of S'.rep.ss) ?_ ?_⟩
    · rintro j x σ' H' hx ⟨v, rfl, S'⟩
      show tDrop _ _ _ _
      have hj : j < 2 := (List.getElem?_eq_some_iff.mp hx).1
      have hc : j = 0 ∨ j = 1 := by omega
      rcases hc with rfl | rfl
      · obtain rfl : V.ref (L.a 6) = x := Option.some.inj hx
        walk_at "rds"
        refine tellO S' S'.rep.s0 (by rw [List.length_append, List.length_take, List.length_take, sizeLine_eq]; omega) fun H8 S8 => ?_
        refine ⟨_, rfl, S8.castE ?_⟩
        simp
      · obtain rfl : V.ref (L.a 7) = x := Option.some.inj hx
        walk_at "rds"
        refine tellO S' S'.rep.s1 (by rw [List.length_append, List.length_take, List.length_drop, sizeLine_eq]; omega) fun H8 S8 => ?_
        refine ⟨_, rfl, S8.castE ?_⟩
        rw [List.append_assoc, List.take_append_drop, List.take_of_length_le (by omega)]
    · rintro σ' H' ⟨v, rfl, S'⟩
      rw [show 11 * ([V.ref (L.a 6), V.ref (L.a 7)] : List V).length = 22 from rfl, List.take_of_length_le (by omega)] at S'
      dsimp only
      clear S5
      walk_at "rds"
      have S6 := S'.base hkp
      rw [← hD, ← hB, ← hA] at S6
      refine ans_nats (xs := (s.rest.length :: (s.rest ++ [s.later.length])) ++ s.later.flatMap fc ++ (s.extra.length :: s.extra) ++ s.skipTurns ++ s.skipFights ++ s.skipSteps) k ?_ S6
      show yes s _ = _
      congr 1
      rw [two_at hst, two_at hsf]
      simp
      rfl
open MA
open Vbdcaf (at_ bump drop1 does Call no yes)
/-! ### the calls one by one -/
theorem Ans.drop {B : Hp} {p : Addr} {ex : List (Addr × HO)} {e : Addr × HO} {Q : VK} {r : State × List Int} (k : Ans K C B p ex Q r) : Ans K C B p (e :: ex) Q r := fun H' L' a S => k H' L' a S.d1
theorem ix_arg {H : Hp} {l : Addr} {args : List Int} {Q : VK} {k z : Int} {n : Nat} (hl : H l = some (.lst (tin args))) (hk : k = (n : Int)) (hn : args[n]? = some z) (h : Q (.int z) H) : rIxL K (.ref l) (.int k) H Q := by
  refine ⟨l, _, k, _, rfl, rfl, SqL.of hl, at_of hk ?_, h⟩
  unfold tin
  rw [List.getElem?_map, hn]
  rfl
local macro_rules | `(tactic| walk_at "pk") => `(tactic| first | refine w_ite (fun h => absurd h (by decide)) (fun _ => ?_) | refine w_ite (fun _ => ?_) (fun h => absurd rfl h))
local macro_rules | `(tactic| walk_at "pks") => `(tactic| repeat (first | walk_at "rd" | walk_at "pk"))
abbrev sp_answer_call_of_none (K : PySem.W.Frag) (C : Cs) : Sp := fun vs H Q _ => ∃ B p L s ex c d, vs = [.ref p, .int c] ∧ WK s ∧ Is c [] d ∧ Sd K C B H p L s ex ∧ Ans K C B p ex Q (does s d)
theorem ok_answer_call_of_none (T : Txt K mg C) : OkF P w K mg base 9 "answer_call_of_none" ["duel", "call"] (sp_answer_call_of_none K C) := by
  refine T.h_answer_call_of_none.ok sc_answer_call_of_none (fun vs H Q E h => ?_) (fun f cdv A outer s0 H vs Q E hr h => ?_)
  · obtain ⟨B, p, L, s, ex, c, d, rfl, _⟩ := h; rfl
  obtain ⟨B, p, L, s, ex, c, d, rfl, W, hI, S, k⟩ := h
  have cs := T.cs
  refine ⟨_, (pss_cons (ps_if (pt_cmpR op_eq (pv 1) (pe_gl (by rfl) T.g_ENDTURN) (nomark _)) (pss_one (ps_ret (pe_fn (ok_endturn (K := K) T) (hr.mono (by decide)) (by rfl) (pa_cons (pv 0) pa_nil)))) pss_nil)
      (pss_cons (ps_if (pt_cmpR op_eq (pv 1) (pe_gl (by rfl) T.g_BREAKOFF) (nomark _)) (pss_one (ps_ret (pe_fn (ok_breakoff (K := K) T) (hr.mono (by decide)) (by rfl) (pa_cons (pv 0) pa_nil)))) pss_nil)
      (pss_cons (ps_if (pt_cmpR op_eq (pv 1) (pe_gl (by rfl) T.g_STATE) (nomark _)) (pss_one (ps_ret (pe_fn (ok_tell_state (K := K) T) (hr.mono (by decide)) (by rfl) (pa_cons (pv 0) pa_nil)))) pss_nil)
      (pss_cons (ps_if (pt_cmpR op_eq (pv 1) (pe_gl (by rfl) T.g_STACK) (nomark _)) (pss_one (ps_ret (pe_fn (ok_tell_stack (K := K) T) (hr.mono (by decide)) (by rfl) (pa_cons (pv 0) pa_nil)))) pss_nil)
      (pss_cons (ps_if (pt_cmpR op_eq (pv 1) (pe_gl (by rfl) T.g_COMING) (nomark _)) (pss_one (ps_ret (pe_fn (ok_tell_coming (K := K) T) (hr.mono (by decide)) (by rfl) (pa_cons (pv 0) pa_nil)))) pss_nil)
      (pss_cons (ps_if (pt_cmpR op_eq (pv 1) (pe_gl (by rfl) T.g_MARKS) (nomark _)) (pss_one (ps_ret (pe_fn (ok_tell_marks (K := K) T) (hr.mono (by decide)) (by rfl) (pa_cons (pv 0) pa_nil)))) pss_nil)
      (pss_cons (ps_if (pt_cmpR op_eq (pv 1) (pe_gl (by rfl) T.g_DELAYS) (nomark _)) (pss_one (ps_ret (pe_fn (ok_tell_delays (K := K) T) (hr.mono (by decide)) (by rfl) (pa_cons (pv 0) pa_nil)))) pss_nil)
      (pss_one (ps_ret (pe_fn (ok_tell_ledger (K := K) T) (hr.mono (by decide)) (by rfl) (pa_cons (pv 0) pa_nil))))))))))), ?_⟩
  cases hI
  all_goals walk_at "pks"
  all_goals exact ⟨B, p, L, s, ex, rfl, W, S, k⟩
abbrev sp_answer_call_of_one (K : PySem.W.Frag) (C : Cs) : Sp := fun vs H Q _ => ∃ B p L s ex c z d, vs = [.ref p, .int c, .int z] ∧ WK s ∧ Is c [z] d ∧ c ≠ 0 ∧ Sd K C B H p L s ex ∧ Ans K C B p ex Q (does s d)
theorem ok_answer_call_of_one (T : Txt K mg C) : OkF P w K mg base 10 "answer_call_of_one" ["duel", "call", "number"] (sp_answer_call_of_one K C) := by
  refine T.h_answer_call_of_one.ok sc_answer_call_of_one (fun vs H Q E h => ?_) (fun f cdv A outer s0 H vs Q E hr h => ?_)
  · obtain ⟨B, p, L, s, ex, c, z, d, rfl, _⟩ := h; rfl
  obtain ⟨B, p, L, s, ex, c, z, d, rfl, W, hI, hc, S, k⟩ := h
  have cs := T.cs
  refine ⟨_, (pss_cons (ps_if (pt_cmpR op_eq (pv 1) (pe_gl (by rfl) T.g_PASS_ON) (nomark _)) (pss_one (ps_ret (pe_fn (ok_pass_on (K := K) T) (hr.mono (by decide)) (by rfl) (pa_cons (pv 0) (pa_cons (pv 2) pa_nil))))) pss_nil)
      (pss_cons (ps_if (pt_cmpR op_eq (pv 1) (pe_gl (by rfl) T.g_PLAY) (nomark _)) (pss_one (ps_ret (pe_fn (ok_play (K := K) T) (hr.mono (by decide)) (by rfl) (pa_cons (pv 0) (pa_cons (pv 2) pa_nil))))) pss_nil)
      (pss_cons (ps_if (pt_cmpR op_eq (pv 1) (pe_gl (by rfl) T.g_NOW) (nomark _)) (pss_one (ps_ret (pe_fn (ok_now (K := K) T) (hr.mono (by decide)) (by rfl) (pa_cons (pv 0) (pa_cons (pv 2) pa_nil))))) pss_nil)
      (pss_cons (ps_if (pt_cmpR op_eq (pv 1) (pe_gl (by rfl) T.g_FIGHT) (nomark _)) (pss_one (ps_ret (pe_fn (ok_fight (K := K) T) (hr.mono (by decide)) (by rfl) (pa_cons (pv 0) (pa_cons (pv 2) pa_nil))))) pss_nil)
      (pss_cons (ps_if (pt_cmpR op_eq (pv 1) (pe_gl (by rfl) T.g_EXTRATURN) (nomark _)) (pss_one (ps_ret (pe_fn (ok_extraturn (K := K) T) (hr.mono (by decide)) (by rfl) (pa_cons (pv 0) (pa_cons (pv 2) pa_nil))))) pss_nil)
      (pss_cons (ps_if (pt_cmpR op_eq (pv 1) (pe_gl (by rfl) T.g_EXTRAPHASE) (nomark _)) (pss_one (ps_ret (pe_fn (ok_extraphase (K := K) T) (hr.mono (by decide)) (by rfl) (pa_cons (pv 0) (pa_cons (pv 2) pa_nil))))) pss_nil)
      (pss_cons (ps_if (pt_cmpR op_eq (pv 1) (pe_gl (by rfl) T.g_EXTRASTEP) (nomark _)) (pss_one (ps_ret (pe_fn (ok_extrastep (K := K) T) (hr.mono (by decide)) (by rfl) (pa_cons (pv 0) (pa_cons (pv 2) pa_nil))))) pss_nil)
      (pss_cons (ps_if (pt_cmpR op_eq (pv 1) (pe_gl (by rfl) T.g_SKIPTURN) (nomark _)) (pss_one (ps_ret (pe_fn (ok_skipturn (K := K) T) (hr.mono (by decide)) (by rfl) (pa_cons (pv 0) (pa_cons (pv 2) pa_nil))))) pss_nil)
      (pss_cons (ps_if (pt_cmpR op_eq (pv 1) (pe_gl (by rfl) T.g_SKIPFIGHT) (nomark _)) (pss_one (ps_ret (pe_fn (ok_skipfight (K := K) T) (hr.mono (by decide)) (by rfl) (pa_cons (pv 0) (pa_cons (pv 2) pa_nil))))) pss_nil)
      (pss_cons (ps_if (pt_cmpR op_eq (pv 1) (pe_gl (by rfl) T.g_ALLOW) (nomark _)) (pss_one (ps_ret (pe_fn (ok_allow (K := K) T) (hr.mono (by decide)) (by rfl) (pa_cons (pv 0) (pa_cons (pv 2) pa_nil))))) pss_nil)
      (pss_cons (ps_if (pt_cmpR op_eq (pv 1) (pe_gl (by rfl) T.g_COUNTER) (nomark _)) (pss_one (ps_ret (pe_fn (ok_counter (K := K) T) (hr.mono (by decide)) (by rfl) (pa_cons (pv 0) (pa_cons (pv 2) pa_nil))))) pss_nil)
      (pss_cons (ps_if (pt_cmpR op_eq (pv 1) (pe_gl (by rfl) T.g_UNMARK) (nomark _)) (pss_one (ps_ret (pe_fn (ok_unmark (K := K) T) (hr.mono (by decide)) (by rfl) (pa_cons (pv 0) (pa_cons (pv 2) pa_nil))))) pss_nil)
      (pss_one (ps_ret (pe_fn (ok_undelay (K := K) T) (hr.mono (by decide)) (by rfl) (pa_cons (pv 0) (pa_cons (pv 2) pa_nil))))))))))))))))), ?_⟩
  cases hI
  · exact absurd rfl hc
  all_goals walk_at "pks"
  all_goals exact ⟨B, p, L, s, ex, z, rfl, W, S, k⟩
abbrev sp_answer_call (K : PySem.W.Frag) (C : Cs) : Sp := fun vs H Q _ => ∃ B p L s ex c l args d, vs = [.ref p, .int c, .ref l] ∧ WK s ∧ Is c args d ∧ Sd K C B H p L s ((l, .lst (tin args)) :: ex) ∧ Ans K C B p ex Q (Vbdcaf.step s d)
theorem step_ne {s : State} {d : Call} (h : s.turn ≠ 0) : Vbdcaf.step s d = does s d := if_neg h
theorem step_no {s : State} {c : Int} {args : List Int} {d : Call} (hI : Is c args d) (hc : c ≠ 0) (h : s.turn = 0) : Vbdcaf.step s d = no s 3 := by
  unfold Vbdcaf.step
  rw [if_pos h]
  cases hI <;> first | rfl | exact absurd rfl hc
theorem ok_answer_call (T : Txt K mg C) : OkF P w K mg base 11 "answer_call" ["duel", "call", "numbers"] (sp_answer_call K C) := by
  refine T.h_answer_call.ok sc_answer_call (fun vs H Q E h => ?_) (fun f cdv A outer s0 H vs Q E hr h => ?_)
  · obtain ⟨B, p, L, s, ex, c, l, args, d, rfl, _⟩ := h; rfl
  obtain ⟨B, p, L, s, ex, c, l, args, d, rfl, W, hI, S, k⟩ := h
  have cs := T.cs
  refine ⟨_, (pss_cons (ps_if (pt_cmpR op_eq (pv 1) (pe_gl (by rfl) T.g_BEGIN) (nomark _)) (pss_one (ps_ret (pe_fn (ok_begin (K := K) T) (hr.mono (by decide)) (by rfl) (pa_cons (pv 0) (pa_cons (pe_ix (ix_listK K) (pv 2) pe_int (fun _ _ => rfl)) pa_nil))))) pss_nil)
      (pss_cons (ps_if (pt_cmpR op_eq (pe_fldK K (pv 0) rfl) pe_int (nomark _)) (pss_one (ps_ret (pe_lst (pa_cons (pe_gl (by rfl) T.g_WRONG_TIME) pa_nil)))) pss_nil)
      (pss_cons (ps_if (pt_cmpR op_eq (pe_callB (cr_lenK K) (by rfl) T.b_len PySem.boot_len (pa_cons (pv 2) pa_nil)) pe_int (nomark _)) (pss_one (ps_ret (pe_fn (ok_answer_call_of_none (K := K) T) (hr.mono (by decide)) (by rfl) (pa_cons (pv 0) (pa_cons (pv 1) pa_nil))))) pss_nil)
      (pss_cons (ps_if (pt_cmpR op_eq (pe_callB (cr_lenK K) (by rfl) T.b_len PySem.boot_len (pa_cons (pv 2) pa_nil)) pe_int (nomark _)) (pss_one (ps_ret (pe_fn (ok_answer_call_of_one (K := K) T) (hr.mono (by decide)) (by rfl) (pa_cons (pv 0) (pa_cons (pv 1) (pa_cons (pe_ix (ix_listK K) (pv 2) pe_int (fun _ _ => rfl)) pa_nil)))))) pss_nil)
      (pss_cons (ps_if (pt_cmpR op_eq (pv 1) (pe_gl (by rfl) T.g_ACT) (nomark _)) (pss_one (ps_ret (pe_fn (ok_act (K := K) T) (hr.mono (by decide)) (by rfl) (pa_cons (pv 0) (pa_cons (pe_ix (ix_listK K) (pv 2) pe_int (fun _ _ => rfl)) (pa_cons (pe_ix (ix_listK K) (pv 2) pe_int (fun _ _ => rfl)) (pa_cons (pe_ix (ix_listK K) (pv 2) pe_int (fun _ _ => rfl)) pa_nil))))))) pss_nil)
      (pss_cons (ps_if (pt_cmpR op_eq (pv 1) (pe_gl (by rfl) T.g_SKIPSTEP) (nomark _)) (pss_one (ps_ret (pe_fn (ok_skipstep (K := K) T) (hr.mono (by decide)) (by rfl) (pa_cons (pv 0) (pa_cons (pe_ix (ix_listK K) (pv 2) pe_int (fun _ _ => rfl)) (pa_cons (pe_ix (ix_listK K) (pv 2) pe_int (fun _ _ => rfl)) pa_nil)))))) pss_nil)
      (pss_cons (ps_if (pt_cmpR op_eq (pv 1) (pe_gl (by rfl) T.g_MARK) (nomark _)) (pss_one (ps_ret (pe_fn (ok_mark (K := K) T) (hr.mono (by decide)) (by rfl) (pa_cons (pv 0) (pa_cons (pe_ix (ix_listK K) (pv 2) pe_int (fun _ _ => rfl)) (pa_cons (pe_ix (ix_listK K) (pv 2) pe_int (fun _ _ => rfl)) (pa_cons (pe_ix (ix_listK K) (pv 2) pe_int (fun _ _ => rfl)) pa_nil))))))) pss_nil)
      (pss_one (ps_ret (pe_fn (ok_delay (K := K) T) (hr.mono (by decide)) (by rfl) (pa_cons (pv 0) (pa_cons (pe_ix (ix_listK K) (pv 2) pe_int (fun _ _ => rfl)) (pa_cons (pe_ix (ix_listK K) (pv 2) pe_int (fun _ _ => rfl)) (pa_cons (pe_ix (ix_listK K) (pv 2) pe_int (fun _ _ => rfl)) pa_nil)))))))))))))), ?_⟩
  have k1 := k.drop (e := (l, HO.lst (tin args)))
  walk_at "rds"
  refine w_ite (fun h => ?_) (fun h => ?_)
  · subst h
    cases hI
    rename_i z
    walk_at "rds"
    refine ix_arg S.at0 (n := 0) rfl rfl ?_
    walk_at "rds"
    exact ⟨B, p, L, s, _, z, rfl, W, S, k1⟩
  walk_at "rds"
  refine w_ite (fun h2 => ?_) (fun h2 => ?_)
  · rw [step_no hI h (by omega)] at k1
    walk_at "rds"
    exact k1.go rfl (by assumption) rfl
  rw [step_ne (by omega)] at k1
  walk_at "rds"
  refine ⟨l, _, rfl, .inl (SqL.of S.at0), ?_⟩
  walk_at "rds"
  rw [len_tin]
  refine w_ite (fun h3 => ?_) (fun h3 => ?_)
  · obtain rfl := len0 (Int.ofNat.inj h3)
    walk_at "rds"
    exact ⟨B, p, L, s, _, c, d, rfl, W, hI, S, k1⟩
  walk_at "rds"
  refine ⟨l, _, rfl, .inl (SqL.of S.at0), ?_⟩
  walk_at "rds"
  rw [len_tin]
  refine w_ite (fun h4 => ?_) (fun h4 => ?_)
  · obtain ⟨z, rfl⟩ := len1 (Int.ofNat.inj h4)
    walk_at "rds"
    refine ix_arg S.at0 (n := 0) rfl rfl ?_
    walk_at "rds"
    exact ⟨B, p, L, s, _, c, z, d, rfl, W, hI, h, S, k1⟩
  cases hI
  all_goals first | exact absurd rfl h3 | exact absurd rfl h4 | skip
  · walk_at "pks"
    refine ix_arg S.at0 (n := 0) rfl rfl ?_
    walk_at "rds"
    refine ix_arg S.at0 (n := 1) rfl rfl ?_
    walk_at "rds"
    refine ix_arg S.at0 (n := 2) rfl rfl ?_
    walk_at "rds"
    exact ⟨B, p, L, s, _, _, _, _, rfl, W, S, k1⟩
  · walk_at "pks"
    refine ix_arg S.at0 (n := 0) rfl rfl ?_
    walk_at "rds"
    refine ix_arg S.at0 (n := 1) rfl rfl ?_
    walk_at "rds"
    exact ⟨B, p, L, s, _, _, _, rfl, W, S, k1⟩
  · walk_at "pks"
    refine ix_arg S.at0 (n := 0) rfl rfl ?_
    walk_at "rds"
    refine ix_arg S.at0 (n := 1) rfl rfl ?_
    walk_at "rds"
    refine ix_arg S.at0 (n := 2) rfl rfl ?_
    walk_at "rds"
    exact ⟨B, p, L, s, _, _, _, _, rfl, W, S, k1⟩
  · walk_at "pks"
    refine ix_arg S.at0 (n := 0) rfl rfl ?_
    walk_at "rds"
    refine ix_arg S.at0 (n := 1) rfl rfl ?_
    walk_at "rds"
    refine ix_arg S.at0 (n := 2) rfl rfl ?_
    walk_at "rds"
    exact ⟨B, p, L, s, _, _, _, _, rfl, W, S, k1⟩
def spAns (K : PySem.W.Frag) : Sp := fun vs H Q _ => ∃ (a : Addr) (ns : List Int), vs = [.ref a] ∧ SqL K H a (ns.map V.int) ∧ ns.length ≤ 17000 ∧ PyVbdcaf.answers_asked ns = true ∧ ∀ (H' : Hp) (p : Addr), H' p = some (.lst ((PyVbdcaf.answers ns).map V.int)) → Q (.ref p) H'
/-- the request beside all else: what keeps it -/
theorem req {H : Hp} {a : Addr} {xs : List V} (h : SqL K H a xs) : ∃ ex : List (Addr × HO), (∀ e ∈ ex, H e.1 = some e.2) ∧ (ex.map (·.1)).Nodup ∧ ∀ H', (∀ e ∈ ex, H' e.1 = some e.2) → SqL K H' a xs := by
  rcases h with (h | ⟨o, h⟩) | h
  · exact ⟨[(a, .lst xs)], fun e he => by rw [List.mem_singleton.mp he]; exact h, by simp, fun H' k => .inl (.inl (k _ List.mem_cons_self))⟩
  · exact ⟨[(a, .frz o (.lst xs))], fun e he => by rw [List.mem_singleton.mp he]; exact h, by simp, fun H' k => .inl (.inr ⟨o, k _ List.mem_cons_self⟩)⟩
  · exact ⟨[], fun e he => (by cases he), List.nodup_nil, fun H' _ => .inr h⟩
theorem mk_duel {H : Hp} {ex : List (Addr × HO)} {Q : VK} {E : XK} (he : ∀ e ∈ ex, H e.1 = some e.2) (hn : (ex.map (·.1)).Nodup) (h : ∀ x H' L, Sd K C H' H' x L Vbdcaf.start ex → Q (.ref x) H') : NewO C.duel (spc_Duel K C) E [] H Q := by
  intro x dx hx hdx hne
  refine ⟨x, dx, rfl, upd_same, fun H' L R k => ⟨rfl, h x H' L ⟨Keep.refl _, R, fun e hm => ?_, hn⟩⟩⟩
  have h1 := he e hm
  have n1 : e.1 ≠ x := ne_of_none h1 hx
  have n2 : e.1 ≠ dx := ne_of_none h1 hdx
  obtain ⟨q1, q2⟩ := k e.1 e.2 (by rw [upd_ne n1, upd_ne n2]; exact h1) n1
  exact ⟨q1, q2, n1⟩
theorem val_shape {p : Int} {n : Nat} (h : PyVbdcaf.shape p = some (n, 0)) : valV ([(Sum.inl 0, .int 1), (Sum.inl 1, .int 1), (Sum.inl 2, .int 3), (Sum.inl 3, .int 1), (Sum.inl 4, .int 1), (Sum.inl 5, .int 1), (Sum.inl 6, .int 1), (Sum.inl 7, .int 1), (Sum.inl 8, .int 1), (Sum.inl 9, .int 1), (Sum.inl 10, .int 2), (Sum.inl 11, .int 1), (Sum.inl 12, .int 1), (Sum.inl 13, .int 1), (Sum.inl 14, .int 3), (Sum.inl 15, .int 1), (Sum.inl 16, .int 3), (Sum.inl 17, .int 1), (Sum.inl 18, .int 0), (Sum.inl 19, .int 0), (Sum.inl 20, .int 0), (Sum.inl 21, .int 0), (Sum.inl 22, .int 0), (Sum.inl 23, .int 0), (Sum.inl 24, .int 0), (Sum.inl 25, .int 0)] : List (Key × V)) (Sum.inl p) = some (.int (n : Int)) := by
  have hp := place26 (shape_range h)
  rcases hp with rfl | rfl | rfl | rfl | rfl | rfl | rfl | rfl | rfl | rfl | rfl | rfl | rfl | rfl | rfl | rfl | rfl | rfl | rfl | rfl | rfl | rfl | rfl | rfl | rfl | rfl <;>
    (have e : n = _ := (Prod.mk.inj (Option.some.inj (h.symm.trans rfl))).1
     subst e
     kernel_rfl)
theorem cut_args {ns : List Int} {i n : Nat} {lo hi : Int} (h1 : lo = ((i + 1 : Nat) : Int)) (h2 : hi = ((i + 1 + n : Nat) : Int)) (h : i + 1 + n ≤ ns.length) : cutV (ns.map V.int) (some lo) (some hi) = tin ((ns.drop (i + 1)).take n) := by
  subst h1 h2
  unfold cutV tin
  rw [HT.sIx_nat, HT.sIx_nat, List.length_map, Nat.min_eq_left (by omega), Nat.min_eq_left (by omega), List.map_take, List.map_drop]
  congr 1
  omega
theorem sl_sd {B H : Hp} {p a : Addr} {L : Lay} {s : State} {ex : List (Addr × HO)} {Q : VK} {xs : List V} {lo hi : Option Int} (S : Sd K C B H p L s ex) (hs : SqL K H a xs) (k : ∀ l H2, Sd K C B H2 p L s ((l, .lst (cutV xs lo hi)) :: ex) → Q (.ref l) H2) : rSlL K (.ref a) lo hi H Q := ⟨a, xs, rfl, hs, fun l hl => k l _ (S.alloc hl)⟩
theorem fn_answers {f : Addr} {fd : FuncData} (F : Fun K "answers" "answers" s_answers f fd) (T : Txt K mg C) : FnOk P w K mg base CX0 12 f fd ["calls"] (spAns K) := by
  refine F.ok sc_answers (fun vs H Q E h => ?_) (fun cdv A outer s0 H vs Q E hr h => ?_)
  · obtain ⟨a, ns, rfl, _⟩ := h; rfl
  obtain ⟨a, ns, rfl, hS, hlen, hask, k⟩ := h
  have cs := T.cs
  obtain ⟨ex, he1, he2, he3⟩ := req hS
  refine ⟨_, (pss_cons (ps_set (i := 1) sc_answers.nd rfl (by first | exact Or.inl rfl | exact Or.inr rfl) (pe_mk0 (okc_Duel (K := K) T) (hr.mono (by decide)) (by rfl)))
      (pss_cons (ps_set (i := 2) sc_answers.nd rfl (by first | exact Or.inl rfl | exact Or.inr rfl) (pe_lst pa_nil))
      (pss_cons (ps_set (i := 3) sc_answers.nd rfl (by first | exact Or.inl rfl | exact Or.inr rfl) pe_int)
      (pss_cons (ps_while PassesOwn.never (pt_cmpR op_lt (pv 3) (pe_callB (cr_lenK K) (by rfl) T.b_len PySem.boot_len (pa_cons (pv 0) pa_nil)) (nomark _)) (pss_cons (ps_set (i := 4) sc_answers.nd rfl (by first | exact Or.inl rfl | exact Or.inr rfl) (pe_ix (ix_listK K) (pv 0) (pv 3) (fun _ _ => rfl)))
      (pss_cons (ps_set (i := 5) sc_answers.nd rfl (by first | exact Or.inl rfl | exact Or.inr rfl) (pe_op op_add (pe_op op_add (pv 3) pe_int) (pe_dgetKK K (pe_gl (by rfl) T.g_NUMBERS_OF_CALL) (pv 4) (fun _ _ => rfl))))
      (pss_cons (ps_set (i := 6) sc_answers.nd rfl (by first | exact Or.inl rfl | exact Or.inr rfl) (pe_fn (ok_answer_call (K := K) T) (hr.mono (by decide)) (by rfl) (pa_cons (pv 1) (pa_cons (pv 4) (pa_cons (pe_slice (sl_listK K) (pv 0) (po_some (pe_op op_add (pv 3) pe_int)) (po_some (pv 5))) pa_nil)))))
      (pss_cons (ps_expr (pe_bmK K PySem.F.plainAttrs_list PySem.F.slot_list_append PySem.F.type_list_append mt_append (pv 2) (pa_cons (pe_callB (cr_lenK K) (by rfl) T.b_len PySem.boot_len (pa_cons (pv 6) pa_nil)) pa_nil)))
      (pss_cons (ps_expr (pe_bmK K PySem.F.plainAttrs_list PySem.F.slot_list_extend PySem.F.type_list_extend mt_extend (pv 2) (pa_cons (pv 6) pa_nil)))
      (pss_one (ps_set (i := 3) sc_answers.nd rfl (by first | exact Or.inl rfl | exact Or.inr rfl) (pv 5)))))))))
      (pss_one (ps_ret (pv 2))))))), ?_⟩
  walk_at "rds"
  refine mk_duel he1 he2 fun p H1 L S1 => ?_
  walk_at "rds"
  rename_i b H2 S2
  refine ⟨fun m σ' H' => ∃ (i : Nat) (out : List Int) (s' : State) (B' : Hp) (L' : Lay) (v1 v2 v3 : Option V), σ' = [some (.ref a), some (.ref p), some (.ref b), some (.int (i : Int)), v1, v2, v3] ∧ m = ns.length - i ∧ LI ns i out s' ∧ Sd K C B' H' p L' s' ((b, .lst (tin out)) :: ex), ⟨_, 0, [], _, _, _, none, none, none, rfl, rfl, li_start hask, S2⟩, ?_⟩
  rintro m σ' H' ⟨i, out, s', B', L', v1, v2, v3, rfl, rfl, hLI, S'⟩
  have hS' : SqL K H' a (ns.map V.int) := he3 H' fun e he => (S'.bes e (List.mem_cons_of_mem _ he)).1
  walk_at "rds"
  refine ⟨a, _, rfl, .inl hS', ?_⟩
  walk_at "rds"
  rw [List.length_map]
  refine w_ite (fun h1 => ?_) (fun h1 => ?_)
  · have hi : i < ns.length := by omega
    obtain ⟨c, n, d, hc, hsh, hle, hIs, hrm, hLI2, hcap⟩ := li_next hLI hi
    refine ⟨_, fun _ _ h => h, ?_⟩
    walk_at "rds"
    refine ⟨a, _, _, .int c, rfl, rfl, hS', at_of rfl (by rw [List.getElem?_map, hc]; rfl), ?_⟩
    walk_at "rds"
    refine dgt_mk T.d_NUMBERS_OF_CALL (val_shape hsh) ?_
    have e : (i : Int) + 1 + (n : Int) = ((i + 1 + n : Nat) : Int) := by omega
    walk_at "rds"
    rw [e]
    refine sl_sd S' hS' fun l H3 S3 => ?_
    rw [cut_args (i := i) (n := n) (by omega) rfl hle] at S3
    walk_at "rds"
    refine ⟨B', p, L', s', _, c, l, _, d, rfl, hLI.wk, hIs, S3, fun H4 L4 r S4 => ?_⟩
    have S5 := S4.swap
    clear S4
    walk_at "rds"
    refine ⟨r, _, rfl, .inl (SqL.of S5.at1), ?_⟩
    walk_at "rds"
    have hcap2 : out.length + 2001 ≤ 802400 := hcap
    have hrm2 : (Vbdcaf.step s' d).2.length ≤ 2000 := hrm
    refine ⟨b, _, _, rfl, rfl, S5.at0, by rw [len_tin, sizeLine_eq]; omega, ?_⟩
    have S6 := S5.put (ys := tin out ++ [V.int ((tin (Vbdcaf.step s' d).2).length : Int)])
    generalize upd H4 b _ = H6 at S6 ⊢
    clear S5
    have S7 := S6.swap
    walk_at "rds"
    refine ext_tell S7 (by rw [List.length_append, len_tin, len_tin, sizeLine_eq]; show out.length + 1 + _ ≤ _; omega) fun H8 S8 => ?_
    walk_at "rds"
    refine ⟨ns.length - (i + 1 + n), by omega, i + 1 + n, _, _, B', L4, _, _, _, rfl, rfl, hLI2, S8.castE ?_⟩
    rw [len_tin, List.append_assoc]
    unfold tin
    rw [List.map_append]
    rfl
  · walk_at "rds"
    refine k H' b ?_
    rw [li_end hLI (by omega)]
    exact S'.at0
end
end D
end
set_option Elab.async false
set_option linter.all false
set_option maxRecDepth 100000
set_option maxHeartbeats 4000000
namespace D
open PySem PySem.Spec PyProof.Rows L2
section
variable {P : Program} {w : World} {K : PySem.W.Frag} {h : Heap} {mg : Str → Option Value}
def IntAt (K : PySem.W.Frag) (x : Str) (i : Int) : Prop := ∃ t, PySem.W.nsIn K mainGlobals x = some (some (.int i t))
theorem IntAt.glb {x : Str} {i : Int} (a : IntAt K x i) (X : K.In h) (G : h.Ns mainGlobals mg) : Glb mg x (.int i) := let ⟨t, a⟩ := a; ⟨_, PySem.W.mg_of X G a, t, rfl⟩
def FnAt (K : PySem.W.Frag) (x : Str) (st : Stmt) : Prop := ∃ (f : Addr) (oc : Value) (od an : Option Addr) (osl : Array (Option Value)) (kV doc pm cdv ct : Value),
  PySem.W.nsIn K mainGlobals x = some (some (.ref f)) ∧ K.lookup f = some ⟨oc, od, .func (PySem.W.fnOf x x (defArgs st) (defBody st) (defScope st) .none kV doc pm an cdv ct), osl⟩ ∧ PySem.W.codeIn K cdv x = true ∧ PySem.W.keepIn K (.ref f) = true
theorem FnAt.has {x : Str} {st : Stmt} {ps : List Str} (a : FnAt K x st) (X : K.In h) (G : h.Ns mainGlobals mg)
    (b : ∀ (kV doc pm : Value) (an : Option Addr) (cdv ct : Value) (us : List Value), us.length = ps.length → bindArgs (PySem.W.fnOf x x (defArgs st) (defBody st) (defScope st) .none kV doc pm an cdv ct) ⟨us, []⟩ = pure (ps.zip us)) : Has K mg x st ps := by
  obtain ⟨f, oc, od, an, osl, kV, doc, pm, cdv, ct, a, l, c, k⟩ := a
  exact ⟨f, _, fun_mk l c k, PySem.W.mg_of X G a, (fun_mk (st := st) l c k).binds b⟩
def ClsAt (K : PySem.W.Frag) (x q : Str) (st : Stmt) (A : Addr) : Prop := ∃ (f : Addr) (oc : Value) (od an : Option Addr) (osl : Array (Option Value)) (kV doc pm cdv ct : Value),
  PySem.W.nsIn K mainGlobals x = some (some (.ref A)) ∧ PySem.W.findIn K (.ref A) "__init__" = some (some (.ref f)) ∧ PySem.W.isFn K (.ref f) = true ∧ K.lookup f = some ⟨oc, od, .func (PySem.W.fnOf "__init__" q (defArgs st) (defBody st) (defScope st) .none kV doc pm an cdv ct), osl⟩ ∧
  PySem.W.codeIn K cdv q = true ∧ PySem.W.keepIn K (.ref f) = true ∧ PySem.W.plainGet K A Str.empty = true ∧ PySem.W.hasDictIn K A = true ∧ PySem.W.plainOver K A = true ∧ PySem.W.findIn K (.ref A) "__setattr__" = some (some (.builtin "object.__setattr__")) ∧ PySem.W.makesIn K A = true ∧ PySem.W.keepIn K (.ref A) = true
theorem ClsAt.has {x q : Str} {st : Stmt} {A : Addr} {ps : List Str} (a : ClsAt K x q st A) (X : K.In h) (G : h.Ns mainGlobals mg)
    (b : ∀ (kV doc pm : Value) (an : Option Addr) (cdv ct : Value) (us : List Value), us.length = ps.length → bindArgs (PySem.W.fnOf "__init__" q (defArgs st) (defBody st) (defScope st) .none kV doc pm an cdv ct) ⟨us, []⟩ = pure (ps.zip us)) : HasC K mg x q st ps A := by
  obtain ⟨f, oc, od, an, osl, kV, doc, pm, cdv, ct, a, a1, i1, l, c, k, pg, hd, po, sa, mk, kc⟩ := a
  exact ⟨f, _, fun_mk l c k, PySem.W.mg_of X G a, ⟨mk, a1, i1, kc⟩, (fun_mk (st := st) l c k).binds b⟩
theorem ClsAt.cls {x q : Str} {st : Stmt} {A : Addr} (a : ClsAt K x q st A) : Cls K A := by
  obtain ⟨f, oc, od, an, osl, kV, doc, pm, cdv, ct, a, a1, i1, l, c, k, pg, hd, po, sa, mk, kc⟩ := a
  exact ⟨pg, hd, po, sa⟩
def DE (p : Key × V) (e : DictEntry) : Prop := ∃ i t, p.1 = Sum.inl i ∧ e.key = .int i t ∧ e.hash = hashInt i ∧ RelV p.2 e.val
def DicAt (K : PySem.W.Frag) (a : Addr) (kvs : List (Key × V)) : Prop := ∃ (o : Obj) (es : Array DictEntry) (ep : Nat), K.lookup a = some o ∧ o.ExactDict ∧ o.data = .dict es ep ∧ Paired DE kvs es.toList ∧ (kvs.map (·.1)).Nodup
theorem de_all {P : Program} {w : World} : ∀ {kvs : List (Key × V)} {es : List DictEntry}, Paired DE kvs es → ∃ vs, KV kvs vs ∧ Pairs (mixKind P w) es vs ∧ vs.map (·.1) = kvs.map (·.1) ∧ ∀ e ∈ es, ∃ k, (mixKind P w).is k e.key = true ∧ e.hash = (mixKind P w).hash k
  | _, _, .nil => ⟨[], .nil, .nil, rfl, fun e he => by cases he⟩
  | p :: kvs, e :: es, .cons r t => by
    obtain ⟨vs, h1, h2, h3, h4⟩ := de_all (P := P) (w := w) t
    obtain ⟨i, tk, e1, e2, e3, e4⟩ := r
    refine ⟨(p.1, e.val) :: vs, .cons ⟨rfl, e4⟩ h1, .cons ?_ rfl h2, by rw [List.map_cons, List.map_cons, h3], fun e' he => ?_⟩
    · show keyIs p.1 e.key = true
      rw [e1, e2]
      exact keyIs_int i tk
    · rcases List.mem_cons.mp he with rfl | he
      · refine ⟨Sum.inl i, ?_, e3⟩
        rw [e2]
        exact mixKind_int P w i tk
      · exact h4 e' he
theorem DicAt.dic {a : Addr} {kvs : List (Key × V)} (d : DicAt K a kvs) : DicK K a kvs := by
  obtain ⟨o, es, ep, h1, h2, h3, h4, h5⟩ := d
  intro P w h X
  obtain ⟨vs, q1, q2, q3, q4⟩ := de_all (P := P) (w := w) h4
  exact ⟨vs, q1, o, es, ep, X a o h1, h2, h3, fun e he => q4 e (by simpa using he), q2, by rw [q3]; exact h5⟩
theorem int_mk {x : Str} {i : Int} {t : Tok} (a : PySem.W.nsIn K mainGlobals x = some (some (.int i t))) : IntAt K x i := ⟨t, a⟩
theorem tup_mk {a : Addr} {xs : List V} {o : Obj} {its : Array Value} {n : Nat} (h1 : K.lookup a = some o) (h2 : o.cls = .type "tuple") (h3 : o.data = .seq its n) (h4 : its.size ≤ sizeLine) (h5 : Vals xs its.toList) : TupK K a xs := ⟨o, its, n, h1, h2, h3, h4, h5⟩
theorem dic_mk {a : Addr} {kvs : List (Key × V)} {o : Obj} {es : Array DictEntry} {ep : Nat} (h1 : K.lookup a = some o) (h2 : o.ExactDict) (h3 : o.data = .dict es ep) (h4 : Paired DE kvs es.toList) (h5 : (kvs.map (·.1)).Nodup) : DicAt K a kvs := ⟨o, es, ep, h1, h2, h3, h4, h5⟩
theorem fn_mk {x : Str} {st : Stmt} {f : Addr} {oc : Value} {od an : Option Addr} {osl : Array (Option Value)} {kV doc pm cdv ct : Value} (a : PySem.W.nsIn K mainGlobals x = some (some (.ref f)))
    (l : K.lookup f = some ⟨oc, od, .func (PySem.W.fnOf x x (defArgs st) (defBody st) (defScope st) .none kV doc pm an cdv ct), osl⟩) (c : PySem.W.codeIn K cdv x = true) (k : PySem.W.keepIn K (.ref f) = true) : FnAt K x st := ⟨f, oc, od, an, osl, kV, doc, pm, cdv, ct, a, l, c, k⟩
theorem cls_mk {x q : Str} {st : Stmt} {A f : Addr} {oc : Value} {od an : Option Addr} {osl : Array (Option Value)} {kV doc pm cdv ct : Value} (q0 : PySem.W.nsIn K mainGlobals x = some (some (.ref A))) (q1 : PySem.W.findIn K (.ref A) "__init__" = some (some (.ref f))) (q2 : PySem.W.isFn K (.ref f) = true)
    (q3 : K.lookup f = some ⟨oc, od, .func (PySem.W.fnOf "__init__" q (defArgs st) (defBody st) (defScope st) .none kV doc pm an cdv ct), osl⟩) (q4 : PySem.W.codeIn K cdv q = true) (q5 : PySem.W.keepIn K (.ref f) = true) (q6 : PySem.W.plainGet K A Str.empty = true) (q7 : PySem.W.hasDictIn K A = true) (q8 : PySem.W.plainOver K A = true)
    (q9 : PySem.W.findIn K (.ref A) "__setattr__" = some (some (.builtin "object.__setattr__"))) (q10 : PySem.W.makesIn K A = true) (q11 : PySem.W.keepIn K (.ref A) = true) : ClsAt K x q st A := ⟨f, oc, od, an, osl, kV, doc, pm, cdv, ct, q0, q1, q2, q3, q4, q5, q6, q7, q8, q9, q10, q11⟩
theorem mg_no {n : Str} (X : K.In h) (G : h.Ns mainGlobals mg) (e : PySem.W.nsIn K mainGlobals n = some none) : mg n = none := PySem.W.mg_none_of X G e
theorem txt_mk {aI aM aD aL t0 t1 t2 t3 t4 b3_0 b3_1 b3_2 b3_3 b3_4 : Addr} (X : K.In h) (G : h.Ns mainGlobals mg)
    (g_SIDES : PySem.W.nsIn K mainGlobals "SIDES" = some (some (.ref t0)))
    (t_SIDES : TupK K t0 (nats [0, 1]))
    (g_EITHER_SIDE : IntAt K "EITHER_SIDE" 2)
    (g_DAWN : IntAt K "DAWN" 0)
    (g_UPKEEP : IntAt K "UPKEEP" 1)
    (g_DRAW : IntAt K "DRAW" 2)
    (g_FIRST_MAIN : IntAt K "FIRST_MAIN" 3)
    (g_ATTACK : IntAt K "ATTACK" 4)
    (g_BLOCK : IntAt K "BLOCK" 5)
    (g_FIRST_BLOWS : IntAt K "FIRST_BLOWS" 6)
    (g_BLOWS : IntAt K "BLOWS" 7)
    (g_SECOND_MAIN : IntAt K "SECOND_MAIN" 8)
    (g_END : IntAt K "END" 9)
    (g_DUSK : IntAt K "DUSK" 10)
    (g_STEP_COUNT : IntAt K "STEP_COUNT" 11)
    (g_FIGHT_PHASE : PySem.W.nsIn K mainGlobals "FIGHT_PHASE" = some (some (.ref t1)))
    (t_FIGHT_PHASE : TupK K t1 (nats [4, 5, 6, 7]))
    (g_SECOND_MAIN_PHASE : PySem.W.nsIn K mainGlobals "SECOND_MAIN_PHASE" = some (some (.ref t2)))
    (t_SECOND_MAIN_PHASE : TupK K t2 (nats [8]))
    (g_PHASES_OF_TURN : PySem.W.nsIn K mainGlobals "PHASES_OF_TURN" = some (some (.ref t3)))
    (t_PHASES_OF_TURN : TupK K t3 [.ref b3_0, .ref b3_1, .ref b3_2, .ref b3_3, .ref b3_4])
    (u_b3_0 : TupK K b3_0 (nats [0, 1, 2]))
    (u_b3_1 : TupK K b3_1 (nats [3]))
    (u_b3_2 : TupK K b3_2 (nats [4, 5, 6, 7]))
    (u_b3_3 : TupK K b3_3 (nats [8]))
    (u_b3_4 : TupK K b3_4 (nats [9, 10]))
    (g_TILL_STEP_ENDS : IntAt K "TILL_STEP_ENDS" 0)
    (g_TILL_PHASE_ENDS : IntAt K "TILL_PHASE_ENDS" 1)
    (g_TILL_DUSK : IntAt K "TILL_DUSK" 2)
    (g_TILL_OWN_TURN : IntAt K "TILL_OWN_TURN" 3)
    (g_TILL_DUSK_OF_OWN_TURN : IntAt K "TILL_DUSK_OF_OWN_TURN" 4)
    (g_TILL_OWN_STEP : IntAt K "TILL_OWN_STEP" 5)
    (g_MOST_THINGS : IntAt K "MOST_THINGS" 64)
    (g_MOST_MARKS : IntAt K "MOST_MARKS" 64)
    (g_MOST_EXTRA_TURNS : IntAt K "MOST_EXTRA_TURNS" 20)
    (g_MOST_PHASES_TO_COME : IntAt K "MOST_PHASES_TO_COME" 20)
    (g_MOST_STEPS_TO_COME : IntAt K "MOST_STEPS_TO_COME" 20)
    (g_MOST_SKIPPED : IntAt K "MOST_SKIPPED" 9)
    (g_ACCEPTED : IntAt K "ACCEPTED" 0)
    (g_OUT_OF_RANGE : IntAt K "OUT_OF_RANGE" (-1))
    (g_NOT_THERE : IntAt K "NOT_THERE" (-2))
    (g_WRONG_TIME : IntAt K "WRONG_TIME" (-3))
    (g_NO_PLACE : IntAt K "NO_PLACE" (-4))
    (g_NOT_HOLDER : IntAt K "NOT_HOLDER" (-5))
    (g_NOT_ALLOWED : IntAt K "NOT_ALLOWED" (-6))
    (g_TURN_BEGINS : IntAt K "TURN_BEGINS" 1)
    (g_STEP_BEGINS : IntAt K "STEP_BEGINS" 2)
    (g_ITEM_DONE : IntAt K "ITEM_DONE" 3)
    (g_MARK_ENDS : IntAt K "MARK_ENDS" 4)
    (g_THING_COMES : IntAt K "THING_COMES" 5)
    (g_STEP_SKIPPED : IntAt K "STEP_SKIPPED" 6)
    (g_TURN_SKIPPED : IntAt K "TURN_SKIPPED" 7)
    (g_ITEM_GONE : IntAt K "ITEM_GONE" 8)
    (g_FIGHT_SKIPPED : IntAt K "FIGHT_SKIPPED" 9)
    (g_BEGIN : IntAt K "BEGIN" 0)
    (g_PASS_ON : IntAt K "PASS_ON" 1)
    (g_ACT : IntAt K "ACT" 2)
    (g_PLAY : IntAt K "PLAY" 3)
    (g_NOW : IntAt K "NOW" 4)
    (g_FIGHT : IntAt K "FIGHT" 5)
    (g_EXTRATURN : IntAt K "EXTRATURN" 6)
    (g_EXTRAPHASE : IntAt K "EXTRAPHASE" 7)
    (g_EXTRASTEP : IntAt K "EXTRASTEP" 8)
    (g_SKIPTURN : IntAt K "SKIPTURN" 9)
    (g_SKIPSTEP : IntAt K "SKIPSTEP" 10)
    (g_SKIPFIGHT : IntAt K "SKIPFIGHT" 11)
    (g_ALLOW : IntAt K "ALLOW" 12)
    (g_COUNTER : IntAt K "COUNTER" 13)
    (g_MARK : IntAt K "MARK" 14)
    (g_UNMARK : IntAt K "UNMARK" 15)
    (g_ENDTURN : IntAt K "ENDTURN" 18)
    (g_BREAKOFF : IntAt K "BREAKOFF" 19)
    (g_STATE : IntAt K "STATE" 20)
    (g_STACK : IntAt K "STACK" 21)
    (g_COMING : IntAt K "COMING" 22)
    (g_MARKS : IntAt K "MARKS" 23)
    (g_DELAYS : IntAt K "DELAYS" 24)
    (g_NUMBERS_OF_CALL : PySem.W.nsIn K mainGlobals "NUMBERS_OF_CALL" = some (some (.ref t4)))
    (d_NUMBERS_OF_CALL : DicAt K t4 [(Sum.inl 0, .int 1), (Sum.inl 1, .int 1), (Sum.inl 2, .int 3), (Sum.inl 3, .int 1), (Sum.inl 4, .int 1), (Sum.inl 5, .int 1), (Sum.inl 6, .int 1), (Sum.inl 7, .int 1), (Sum.inl 8, .int 1), (Sum.inl 9, .int 1), (Sum.inl 10, .int 2), (Sum.inl 11, .int 1), (Sum.inl 12, .int 1), (Sum.inl 13, .int 1), (Sum.inl 14, .int 3), (Sum.inl 15, .int 1), (Sum.inl 16, .int 3), (Sum.inl 17, .int 1), (Sum.inl 18, .int 0), (Sum.inl 19, .int 0), (Sum.inl 20, .int 0), (Sum.inl 21, .int 0), (Sum.inl 22, .int 0), (Sum.inl 23, .int 0), (Sum.inl 24, .int 0), (Sum.inl 25, .int 0)])
    (h_take_number : FnAt K "take_number" s_take_number)
    (h_count_things : FnAt K "count_things" s_count_things)
    (h_put_on_stack : FnAt K "put_on_stack" s_put_on_stack)
    (h_ask_active_side : FnAt K "ask_active_side" s_ask_active_side)
    (h_go_on : FnAt K "go_on" s_go_on)
    (h_end_asked_step : FnAt K "end_asked_step" s_end_asked_step)
    (h_take_step : FnAt K "take_step" s_take_step)
    (h_is_left_out : FnAt K "is_left_out" s_is_left_out)
    (h_is_asked_in : FnAt K "is_asked_in" s_is_asked_in)
    (h_begin_step : FnAt K "begin_step" s_begin_step)
    (h_ends_at_step : FnAt K "ends_at_step" s_ends_at_step)
    (h_bring_things : FnAt K "bring_things" s_bring_things)
    (h_is_due : FnAt K "is_due" s_is_due)
    (h_end_marks : FnAt K "end_marks" s_end_marks)
    (h_end_marks_of_till : FnAt K "end_marks_of_till" s_end_marks_of_till)
    (h_leave_phase : FnAt K "leave_phase" s_leave_phase)
    (h_take_phase : FnAt K "take_phase" s_take_phase)
    (h_look_for_turn : FnAt K "look_for_turn" s_look_for_turn)
    (h_take_side_of_turn : FnAt K "take_side_of_turn" s_take_side_of_turn)
    (h_begin_turn : FnAt K "begin_turn" s_begin_turn)
    (h_as_turn_begins : FnAt K "as_turn_begins" s_as_turn_begins)
    (h_begin : FnAt K "begin" s_begin)
    (h_pass_on : FnAt K "pass_on" s_pass_on)
    (h_do_top : FnAt K "do_top" s_do_top)
    (h_act : FnAt K "act" s_act)
    (h_play : FnAt K "play" s_play)
    (h_now : FnAt K "now" s_now)
    (h_may_act : FnAt K "may_act" s_may_act)
    (h_may_play : FnAt K "may_play" s_may_play)
    (h_is_shut : FnAt K "is_shut" s_is_shut)
    (h_is_slow_time : FnAt K "is_slow_time" s_is_slow_time)
    (h_endturn : FnAt K "endturn" s_endturn)
    (h_breakoff : FnAt K "breakoff" s_breakoff)
    (h_lose_items : FnAt K "lose_items" s_lose_items)
    (h_fight : FnAt K "fight" s_fight)
    (h_extraturn : FnAt K "extraturn" s_extraturn)
    (h_extraphase : FnAt K "extraphase" s_extraphase)
    (h_phases_put_in : FnAt K "phases_put_in" s_phases_put_in)
    (h_extrastep : FnAt K "extrastep" s_extrastep)
    (h_skipturn : FnAt K "skipturn" s_skipturn)
    (h_skipstep : FnAt K "skipstep" s_skipstep)
    (h_skipfight : FnAt K "skipfight" s_skipfight)
    (h_skip_one_more : FnAt K "skip_one_more" s_skip_one_more)
    (h_allow : FnAt K "allow" s_allow)
    (h_tell_state : FnAt K "tell_state" s_tell_state)
    (h_tell_stack : FnAt K "tell_stack" s_tell_stack)
    (h_tell_coming : FnAt K "tell_coming" s_tell_coming)
    (h_tell_marks : FnAt K "tell_marks" s_tell_marks)
    (h_tell_delays : FnAt K "tell_delays" s_tell_delays)
    (h_tell_ledger : FnAt K "tell_ledger" s_tell_ledger)
    (h_with_count : FnAt K "with_count" s_with_count)
    (h_one_if : FnAt K "one_if" s_one_if)
    (h_counter : FnAt K "counter" s_counter)
    (h_mark : FnAt K "mark" s_mark)
    (h_unmark : FnAt K "unmark" s_unmark)
    (h_delay : FnAt K "delay" s_delay)
    (h_undelay : FnAt K "undelay" s_undelay)
    (h_without_number : FnAt K "without_number" s_without_number)
    (h_is_step : FnAt K "is_step" s_is_step)
    (h_answers : FnAt K "answers" s_answers)
    (h_answer_call : FnAt K "answer_call" s_answer_call)
    (h_answer_call_of_none : FnAt K "answer_call_of_none" s_answer_call_of_none)
    (h_answer_call_of_one : FnAt K "answer_call_of_one" s_answer_call_of_one)
    (k_Item : ClsAt K "Item" "Item.__init__" s_Item aI)
    (n_Item_number : PySem.W.findIn K (.ref aI) "number" = some none)
    (n_Item_side : PySem.W.findIn K (.ref aI) "side" = some none)
    (n_Item_shuts : PySem.W.findIn K (.ref aI) "shuts" = some none)
    (k_Mark : ClsAt K "Mark" "Mark.__init__" s_Mark aM)
    (n_Mark_number : PySem.W.findIn K (.ref aM) "number" = some none)
    (n_Mark_till : PySem.W.findIn K (.ref aM) "till" = some none)
    (n_Mark_side : PySem.W.findIn K (.ref aM) "side" = some none)
    (n_Mark_step : PySem.W.findIn K (.ref aM) "step" = some none)
    (k_Delayed : ClsAt K "Delayed" "Delayed.__init__" s_Delayed aL)
    (n_Delayed_number : PySem.W.findIn K (.ref aL) "number" = some none)
    (n_Delayed_owner : PySem.W.findIn K (.ref aL) "owner" = some none)
    (n_Delayed_side : PySem.W.findIn K (.ref aL) "side" = some none)
    (n_Delayed_step : PySem.W.findIn K (.ref aL) "step" = some none)
    (k_Duel : ClsAt K "Duel" "Duel.__init__" s_Duel aD)
    (n_Duel_turns : PySem.W.findIn K (.ref aD) "turns" = some none)
    (n_Duel_turns_of_side : PySem.W.findIn K (.ref aD) "turns_of_side" = some none)
    (n_Duel_active : PySem.W.findIn K (.ref aD) "active" = some none)
    (n_Duel_last_ordinary : PySem.W.findIn K (.ref aD) "last_ordinary" = some none)
    (n_Duel_step : PySem.W.findIn K (.ref aD) "step" = some none)
    (n_Duel_rest : PySem.W.findIn K (.ref aD) "rest" = some none)
    (n_Duel_phases : PySem.W.findIn K (.ref aD) "phases" = some none)
    (n_Duel_extra_turns : PySem.W.findIn K (.ref aD) "extra_turns" = some none)
    (n_Duel_skipped_turns : PySem.W.findIn K (.ref aD) "skipped_turns" = some none)
    (n_Duel_skipped_fights : PySem.W.findIn K (.ref aD) "skipped_fights" = some none)
    (n_Duel_skipped_steps : PySem.W.findIn K (.ref aD) "skipped_steps" = some none)
    (n_Duel_holder : PySem.W.findIn K (.ref aD) "holder" = some none)
    (n_Duel_passed : PySem.W.findIn K (.ref aD) "passed" = some none)
    (n_Duel_plays : PySem.W.findIn K (.ref aD) "plays" = some none)
    (n_Duel_fighting : PySem.W.findIn K (.ref aD) "fighting" = some none)
    (n_Duel_first_blows : PySem.W.findIn K (.ref aD) "first_blows" = some none)
    (n_Duel_stack : PySem.W.findIn K (.ref aD) "stack" = some none)
    (n_Duel_marks : PySem.W.findIn K (.ref aD) "marks" = some none)
    (n_Duel_delayed : PySem.W.findIn K (.ref aD) "delayed" = some none)
    (n_Duel_last_number : PySem.W.findIn K (.ref aD) "last_number" = some none)
    (n_Duel_items_come : PySem.W.findIn K (.ref aD) "items_come" = some none)
    (n_Duel_items_done : PySem.W.findIn K (.ref aD) "items_done" = some none)
    (n_Duel_items_countered : PySem.W.findIn K (.ref aD) "items_countered" = some none)
    (n_Duel_items_gone : PySem.W.findIn K (.ref aD) "items_gone" = some none)
    (b_len : PySem.W.nsIn K mainGlobals "len" = some none)
    (b_any : PySem.W.nsIn K mainGlobals "any" = some none)
    (b_list : PySem.W.nsIn K mainGlobals "list" = some none)
    : Txt K mg ⟨aI, aM, aL, aD, fun j => ([t0, t1, t2, t3, t4] : List Addr).getD j 0⟩ where
  cs := { c_duel := k_Duel.cls, c_item := k_Item.cls, c_mark := k_Mark.cls, c_del := k_Delayed.cls, nD_turns := n_Duel_turns, nD_turns_of_side := n_Duel_turns_of_side, nD_active := n_Duel_active, nD_last_ordinary := n_Duel_last_ordinary, nD_step := n_Duel_step, nD_rest := n_Duel_rest, nD_phases := n_Duel_phases, nD_extra_turns := n_Duel_extra_turns, nD_skipped_turns := n_Duel_skipped_turns, nD_skipped_fights := n_Duel_skipped_fights, nD_skipped_steps := n_Duel_skipped_steps, nD_holder := n_Duel_holder, nD_passed := n_Duel_passed, nD_plays := n_Duel_plays, nD_fighting := n_Duel_fighting, nD_first_blows := n_Duel_first_blows, nD_stack := n_Duel_stack, nD_marks := n_Duel_marks, nD_delayed := n_Duel_delayed, nD_last_number := n_Duel_last_number, nD_items_come := n_Duel_items_come, nD_items_done := n_Duel_items_done, nD_items_countered := n_Duel_items_countered, nD_items_gone := n_Duel_items_gone, nI_number := n_Item_number, nI_side := n_Item_side, nI_shuts := n_Item_shuts, nM_number := n_Mark_number, nM_till := n_Mark_till, nM_side := n_Mark_side, nM_step := n_Mark_step, nL_number := n_Delayed_number, nL_owner := n_Delayed_owner, nL_side := n_Delayed_side, nL_step := n_Delayed_step }
  g_SIDES := ⟨_, PySem.W.mg_of X G g_SIDES, rfl⟩
  t_SIDES := t_SIDES
  g_EITHER_SIDE := g_EITHER_SIDE.glb X G
  g_DAWN := g_DAWN.glb X G
  g_UPKEEP := g_UPKEEP.glb X G
  g_DRAW := g_DRAW.glb X G
  g_FIRST_MAIN := g_FIRST_MAIN.glb X G
  g_ATTACK := g_ATTACK.glb X G
  g_BLOCK := g_BLOCK.glb X G
  g_FIRST_BLOWS := g_FIRST_BLOWS.glb X G
  g_BLOWS := g_BLOWS.glb X G
  g_SECOND_MAIN := g_SECOND_MAIN.glb X G
  g_END := g_END.glb X G
  g_DUSK := g_DUSK.glb X G
  g_STEP_COUNT := g_STEP_COUNT.glb X G
  g_FIGHT_PHASE := ⟨_, PySem.W.mg_of X G g_FIGHT_PHASE, rfl⟩
  t_FIGHT_PHASE := t_FIGHT_PHASE
  g_SECOND_MAIN_PHASE := ⟨_, PySem.W.mg_of X G g_SECOND_MAIN_PHASE, rfl⟩
  t_SECOND_MAIN_PHASE := t_SECOND_MAIN_PHASE
  g_PHASES_OF_TURN := ⟨_, PySem.W.mg_of X G g_PHASES_OF_TURN, rfl⟩
  t_PHASES_OF_TURN := ⟨_, t_PHASES_OF_TURN, (.cons ⟨_, rfl, u_b3_0⟩ (.cons ⟨_, rfl, u_b3_1⟩ (.cons ⟨_, rfl, u_b3_2⟩ (.cons ⟨_, rfl, u_b3_3⟩ (.cons ⟨_, rfl, u_b3_4⟩ .nil)))))⟩
  g_TILL_STEP_ENDS := g_TILL_STEP_ENDS.glb X G
  g_TILL_PHASE_ENDS := g_TILL_PHASE_ENDS.glb X G
  g_TILL_DUSK := g_TILL_DUSK.glb X G
  g_TILL_OWN_TURN := g_TILL_OWN_TURN.glb X G
  g_TILL_DUSK_OF_OWN_TURN := g_TILL_DUSK_OF_OWN_TURN.glb X G
  g_TILL_OWN_STEP := g_TILL_OWN_STEP.glb X G
  g_MOST_THINGS := g_MOST_THINGS.glb X G
  g_MOST_MARKS := g_MOST_MARKS.glb X G
  g_MOST_EXTRA_TURNS := g_MOST_EXTRA_TURNS.glb X G
  g_MOST_PHASES_TO_COME := g_MOST_PHASES_TO_COME.glb X G
  g_MOST_STEPS_TO_COME := g_MOST_STEPS_TO_COME.glb X G
  g_MOST_SKIPPED := g_MOST_SKIPPED.glb X G
  g_ACCEPTED := g_ACCEPTED.glb X G
  g_OUT_OF_RANGE := g_OUT_OF_RANGE.glb X G
  g_NOT_THERE := g_NOT_THERE.glb X G
  g_WRONG_TIME := g_WRONG_TIME.glb X G
  g_NO_PLACE := g_NO_PLACE.glb X G
  g_NOT_HOLDER := g_NOT_HOLDER.glb X G
  g_NOT_ALLOWED := g_NOT_ALLOWED.glb X G
  g_TURN_BEGINS := g_TURN_BEGINS.glb X G
  g_STEP_BEGINS := g_STEP_BEGINS.glb X G
  g_ITEM_DONE := g_ITEM_DONE.glb X G
  g_MARK_ENDS := g_MARK_ENDS.glb X G
  g_THING_COMES := g_THING_COMES.glb X G
  g_STEP_SKIPPED := g_STEP_SKIPPED.glb X G
  g_TURN_SKIPPED := g_TURN_SKIPPED.glb X G
  g_ITEM_GONE := g_ITEM_GONE.glb X G
  g_FIGHT_SKIPPED := g_FIGHT_SKIPPED.glb X G
  g_BEGIN := g_BEGIN.glb X G
  g_PASS_ON := g_PASS_ON.glb X G
  g_ACT := g_ACT.glb X G
  g_PLAY := g_PLAY.glb X G
  g_NOW := g_NOW.glb X G
  g_FIGHT := g_FIGHT.glb X G
  g_EXTRATURN := g_EXTRATURN.glb X G
  g_EXTRAPHASE := g_EXTRAPHASE.glb X G
  g_EXTRASTEP := g_EXTRASTEP.glb X G
  g_SKIPTURN := g_SKIPTURN.glb X G
  g_SKIPSTEP := g_SKIPSTEP.glb X G
  g_SKIPFIGHT := g_SKIPFIGHT.glb X G
  g_ALLOW := g_ALLOW.glb X G
  g_COUNTER := g_COUNTER.glb X G
  g_MARK := g_MARK.glb X G
  g_UNMARK := g_UNMARK.glb X G
  g_ENDTURN := g_ENDTURN.glb X G
  g_BREAKOFF := g_BREAKOFF.glb X G
  g_STATE := g_STATE.glb X G
  g_STACK := g_STACK.glb X G
  g_COMING := g_COMING.glb X G
  g_MARKS := g_MARKS.glb X G
  g_DELAYS := g_DELAYS.glb X G
  g_NUMBERS_OF_CALL := ⟨_, PySem.W.mg_of X G g_NUMBERS_OF_CALL, rfl⟩
  d_NUMBERS_OF_CALL := d_NUMBERS_OF_CALL.dic
  h_take_number := h_take_number.has X G (fun _ _ _ _ _ _ us hl => match us, hl with | [_], _ => rfl)
  h_count_things := h_count_things.has X G (fun _ _ _ _ _ _ us hl => match us, hl with | [_], _ => rfl)
  h_put_on_stack := h_put_on_stack.has X G (fun _ _ _ _ _ _ us hl => match us, hl with | [_, _], _ => rfl)
  h_ask_active_side := h_ask_active_side.has X G (fun _ _ _ _ _ _ us hl => match us, hl with | [_], _ => rfl)
  h_go_on := h_go_on.has X G (fun _ _ _ _ _ _ us hl => match us, hl with | [_, _], _ => rfl)
  h_end_asked_step := h_end_asked_step.has X G (fun _ _ _ _ _ _ us hl => match us, hl with | [_, _], _ => rfl)
  h_take_step := h_take_step.has X G (fun _ _ _ _ _ _ us hl => match us, hl with | [_, _], _ => rfl)
  h_is_left_out := h_is_left_out.has X G (fun _ _ _ _ _ _ us hl => match us, hl with | [_, _], _ => rfl)
  h_is_asked_in := h_is_asked_in.has X G (fun _ _ _ _ _ _ us hl => match us, hl with | [_, _], _ => rfl)
  h_begin_step := h_begin_step.has X G (fun _ _ _ _ _ _ us hl => match us, hl with | [_, _, _], _ => rfl)
  h_ends_at_step := h_ends_at_step.has X G (fun _ _ _ _ _ _ us hl => match us, hl with | [_, _, _], _ => rfl)
  h_bring_things := h_bring_things.has X G (fun _ _ _ _ _ _ us hl => match us, hl with | [_, _, _], _ => rfl)
  h_is_due := h_is_due.has X G (fun _ _ _ _ _ _ us hl => match us, hl with | [_, _, _], _ => rfl)
  h_end_marks := h_end_marks.has X G (fun _ _ _ _ _ _ us hl => match us, hl with | [_, _, _], _ => rfl)
  h_end_marks_of_till := h_end_marks_of_till.has X G (fun _ _ _ _ _ _ us hl => match us, hl with | [_, _, _], _ => rfl)
  h_leave_phase := h_leave_phase.has X G (fun _ _ _ _ _ _ us hl => match us, hl with | [_, _], _ => rfl)
  h_take_phase := h_take_phase.has X G (fun _ _ _ _ _ _ us hl => match us, hl with | [_, _], _ => rfl)
  h_look_for_turn := h_look_for_turn.has X G (fun _ _ _ _ _ _ us hl => match us, hl with | [_, _], _ => rfl)
  h_take_side_of_turn := h_take_side_of_turn.has X G (fun _ _ _ _ _ _ us hl => match us, hl with | [_], _ => rfl)
  h_begin_turn := h_begin_turn.has X G (fun _ _ _ _ _ _ us hl => match us, hl with | [_, _, _], _ => rfl)
  h_as_turn_begins := h_as_turn_begins.has X G (fun _ _ _ _ _ _ us hl => match us, hl with | [_, _], _ => rfl)
  h_begin := h_begin.has X G (fun _ _ _ _ _ _ us hl => match us, hl with | [_, _], _ => rfl)
  h_pass_on := h_pass_on.has X G (fun _ _ _ _ _ _ us hl => match us, hl with | [_, _], _ => rfl)
  h_do_top := h_do_top.has X G (fun _ _ _ _ _ _ us hl => match us, hl with | [_, _], _ => rfl)
  h_act := h_act.has X G (fun _ _ _ _ _ _ us hl => match us, hl with | [_, _, _, _], _ => rfl)
  h_play := h_play.has X G (fun _ _ _ _ _ _ us hl => match us, hl with | [_, _], _ => rfl)
  h_now := h_now.has X G (fun _ _ _ _ _ _ us hl => match us, hl with | [_, _], _ => rfl)
  h_may_act := h_may_act.has X G (fun _ _ _ _ _ _ us hl => match us, hl with | [_, _, _], _ => rfl)
  h_may_play := h_may_play.has X G (fun _ _ _ _ _ _ us hl => match us, hl with | [_, _], _ => rfl)
  h_is_shut := h_is_shut.has X G (fun _ _ _ _ _ _ us hl => match us, hl with | [_], _ => rfl)
  h_is_slow_time := h_is_slow_time.has X G (fun _ _ _ _ _ _ us hl => match us, hl with | [_, _], _ => rfl)
  h_endturn := h_endturn.has X G (fun _ _ _ _ _ _ us hl => match us, hl with | [_], _ => rfl)
  h_breakoff := h_breakoff.has X G (fun _ _ _ _ _ _ us hl => match us, hl with | [_], _ => rfl)
  h_lose_items := h_lose_items.has X G (fun _ _ _ _ _ _ us hl => match us, hl with | [_, _], _ => rfl)
  h_fight := h_fight.has X G (fun _ _ _ _ _ _ us hl => match us, hl with | [_, _], _ => rfl)
  h_extraturn := h_extraturn.has X G (fun _ _ _ _ _ _ us hl => match us, hl with | [_, _], _ => rfl)
  h_extraphase := h_extraphase.has X G (fun _ _ _ _ _ _ us hl => match us, hl with | [_, _], _ => rfl)
  h_phases_put_in := h_phases_put_in.has X G (fun _ _ _ _ _ _ us hl => match us, hl with | [_], _ => rfl)
  h_extrastep := h_extrastep.has X G (fun _ _ _ _ _ _ us hl => match us, hl with | [_, _], _ => rfl)
  h_skipturn := h_skipturn.has X G (fun _ _ _ _ _ _ us hl => match us, hl with | [_, _], _ => rfl)
  h_skipstep := h_skipstep.has X G (fun _ _ _ _ _ _ us hl => match us, hl with | [_, _, _], _ => rfl)
  h_skipfight := h_skipfight.has X G (fun _ _ _ _ _ _ us hl => match us, hl with | [_, _], _ => rfl)
  h_skip_one_more := h_skip_one_more.has X G (fun _ _ _ _ _ _ us hl => match us, hl with | [_, _], _ => rfl)
  h_allow := h_allow.has X G (fun _ _ _ _ _ _ us hl => match us, hl with | [_, _], _ => rfl)
  h_tell_state := h_tell_state.has X G (fun _ _ _ _ _ _ us hl => match us, hl with | [_], _ => rfl)
  h_tell_stack := h_tell_stack.has X G (fun _ _ _ _ _ _ us hl => match us, hl with | [_], _ => rfl)
  h_tell_coming := h_tell_coming.has X G (fun _ _ _ _ _ _ us hl => match us, hl with | [_], _ => rfl)
  h_tell_marks := h_tell_marks.has X G (fun _ _ _ _ _ _ us hl => match us, hl with | [_], _ => rfl)
  h_tell_delays := h_tell_delays.has X G (fun _ _ _ _ _ _ us hl => match us, hl with | [_], _ => rfl)
  h_tell_ledger := h_tell_ledger.has X G (fun _ _ _ _ _ _ us hl => match us, hl with | [_], _ => rfl)
  h_with_count := h_with_count.has X G (fun _ _ _ _ _ _ us hl => match us, hl with | [_], _ => rfl)
  h_one_if := h_one_if.has X G (fun _ _ _ _ _ _ us hl => match us, hl with | [_], _ => rfl)
  h_counter := h_counter.has X G (fun _ _ _ _ _ _ us hl => match us, hl with | [_, _], _ => rfl)
  h_mark := h_mark.has X G (fun _ _ _ _ _ _ us hl => match us, hl with | [_, _, _, _], _ => rfl)
  h_unmark := h_unmark.has X G (fun _ _ _ _ _ _ us hl => match us, hl with | [_, _], _ => rfl)
  h_delay := h_delay.has X G (fun _ _ _ _ _ _ us hl => match us, hl with | [_, _, _, _], _ => rfl)
  h_undelay := h_undelay.has X G (fun _ _ _ _ _ _ us hl => match us, hl with | [_, _], _ => rfl)
  h_without_number := h_without_number.has X G (fun _ _ _ _ _ _ us hl => match us, hl with | [_, _], _ => rfl)
  h_is_step := h_is_step.has X G (fun _ _ _ _ _ _ us hl => match us, hl with | [_], _ => rfl)
  h_answers := h_answers.has X G (fun _ _ _ _ _ _ us hl => match us, hl with | [_], _ => rfl)
  h_answer_call := h_answer_call.has X G (fun _ _ _ _ _ _ us hl => match us, hl with | [_, _, _], _ => rfl)
  h_answer_call_of_none := h_answer_call_of_none.has X G (fun _ _ _ _ _ _ us hl => match us, hl with | [_, _], _ => rfl)
  h_answer_call_of_one := h_answer_call_of_one.has X G (fun _ _ _ _ _ _ us hl => match us, hl with | [_, _, _], _ => rfl)
  k_Item := k_Item.has X G (fun _ _ _ _ _ _ us hl => match us, hl with | [_, _, _, _], _ => rfl)
  k_Mark := k_Mark.has X G (fun _ _ _ _ _ _ us hl => match us, hl with | [_, _, _, _, _], _ => rfl)
  k_Delayed := k_Delayed.has X G (fun _ _ _ _ _ _ us hl => match us, hl with | [_, _, _, _, _], _ => rfl)
  k_Duel := k_Duel.has X G (fun _ _ _ _ _ _ us hl => match us, hl with | [_], _ => rfl)
  b_len := mg_no X G b_len
  b_any := mg_no X G b_any
  b_list := mg_no X G b_list
theorem fin_mk {aI aM aD aL t0 t1 t2 t3 t4 b3_0 b3_1 b3_2 b3_3 b3_4 : Addr} {fa : Addr} (X : K.In h) (G : h.Ns mainGlobals mg) (hfa : mg "answers" = some (.ref fa))
    (g_SIDES : PySem.W.nsIn K mainGlobals "SIDES" = some (some (.ref t0)))
    (t_SIDES : TupK K t0 (nats [0, 1]))
    (g_EITHER_SIDE : IntAt K "EITHER_SIDE" 2)
    (g_DAWN : IntAt K "DAWN" 0)
    (g_UPKEEP : IntAt K "UPKEEP" 1)
    (g_DRAW : IntAt K "DRAW" 2)
    (g_FIRST_MAIN : IntAt K "FIRST_MAIN" 3)
    (g_ATTACK : IntAt K "ATTACK" 4)
    (g_BLOCK : IntAt K "BLOCK" 5)
    (g_FIRST_BLOWS : IntAt K "FIRST_BLOWS" 6)
    (g_BLOWS : IntAt K "BLOWS" 7)
    (g_SECOND_MAIN : IntAt K "SECOND_MAIN" 8)
    (g_END : IntAt K "END" 9)
    (g_DUSK : IntAt K "DUSK" 10)
    (g_STEP_COUNT : IntAt K "STEP_COUNT" 11)
    (g_FIGHT_PHASE : PySem.W.nsIn K mainGlobals "FIGHT_PHASE" = some (some (.ref t1)))
    (t_FIGHT_PHASE : TupK K t1 (nats [4, 5, 6, 7]))
    (g_SECOND_MAIN_PHASE : PySem.W.nsIn K mainGlobals "SECOND_MAIN_PHASE" = some (some (.ref t2)))
    (t_SECOND_MAIN_PHASE : TupK K t2 (nats [8]))
    (g_PHASES_OF_TURN : PySem.W.nsIn K mainGlobals "PHASES_OF_TURN" = some (some (.ref t3)))
    (t_PHASES_OF_TURN : TupK K t3 [.ref b3_0, .ref b3_1, .ref b3_2, .ref b3_3, .ref b3_4])
    (u_b3_0 : TupK K b3_0 (nats [0, 1, 2]))
    (u_b3_1 : TupK K b3_1 (nats [3]))
    (u_b3_2 : TupK K b3_2 (nats [4, 5, 6, 7]))
    (u_b3_3 : TupK K b3_3 (nats [8]))
    (u_b3_4 : TupK K b3_4 (nats [9, 10]))
    (g_TILL_STEP_ENDS : IntAt K "TILL_STEP_ENDS" 0)
    (g_TILL_PHASE_ENDS : IntAt K "TILL_PHASE_ENDS" 1)
    (g_TILL_DUSK : IntAt K "TILL_DUSK" 2)
    (g_TILL_OWN_TURN : IntAt K "TILL_OWN_TURN" 3)
    (g_TILL_DUSK_OF_OWN_TURN : IntAt K "TILL_DUSK_OF_OWN_TURN" 4)
    (g_TILL_OWN_STEP : IntAt K "TILL_OWN_STEP" 5)
    (g_MOST_THINGS : IntAt K "MOST_THINGS" 64)
    (g_MOST_MARKS : IntAt K "MOST_MARKS" 64)
    (g_MOST_EXTRA_TURNS : IntAt K "MOST_EXTRA_TURNS" 20)
    (g_MOST_PHASES_TO_COME : IntAt K "MOST_PHASES_TO_COME" 20)
    (g_MOST_STEPS_TO_COME : IntAt K "MOST_STEPS_TO_COME" 20)
    (g_MOST_SKIPPED : IntAt K "MOST_SKIPPED" 9)
    (g_ACCEPTED : IntAt K "ACCEPTED" 0)
    (g_OUT_OF_RANGE : IntAt K "OUT_OF_RANGE" (-1))
    (g_NOT_THERE : IntAt K "NOT_THERE" (-2))
    (g_WRONG_TIME : IntAt K "WRONG_TIME" (-3))
    (g_NO_PLACE : IntAt K "NO_PLACE" (-4))
    (g_NOT_HOLDER : IntAt K "NOT_HOLDER" (-5))
    (g_NOT_ALLOWED : IntAt K "NOT_ALLOWED" (-6))
    (g_TURN_BEGINS : IntAt K "TURN_BEGINS" 1)
    (g_STEP_BEGINS : IntAt K "STEP_BEGINS" 2)
    (g_ITEM_DONE : IntAt K "ITEM_DONE" 3)
    (g_MARK_ENDS : IntAt K "MARK_ENDS" 4)
    (g_THING_COMES : IntAt K "THING_COMES" 5)
    (g_STEP_SKIPPED : IntAt K "STEP_SKIPPED" 6)
    (g_TURN_SKIPPED : IntAt K "TURN_SKIPPED" 7)
    (g_ITEM_GONE : IntAt K "ITEM_GONE" 8)
    (g_FIGHT_SKIPPED : IntAt K "FIGHT_SKIPPED" 9)
    (g_BEGIN : IntAt K "BEGIN" 0)
    (g_PASS_ON : IntAt K "PASS_ON" 1)
    (g_ACT : IntAt K "ACT" 2)
    (g_PLAY : IntAt K "PLAY" 3)
    (g_NOW : IntAt K "NOW" 4)
    (g_FIGHT : IntAt K "FIGHT" 5)
    (g_EXTRATURN : IntAt K "EXTRATURN" 6)
    (g_EXTRAPHASE : IntAt K "EXTRAPHASE" 7)
    (g_EXTRASTEP : IntAt K "EXTRASTEP" 8)
    (g_SKIPTURN : IntAt K "SKIPTURN" 9)
    (g_SKIPSTEP : IntAt K "SKIPSTEP" 10)
    (g_SKIPFIGHT : IntAt K "SKIPFIGHT" 11)
    (g_ALLOW : IntAt K "ALLOW" 12)
    (g_COUNTER : IntAt K "COUNTER" 13)
    (g_MARK : IntAt K "MARK" 14)
    (g_UNMARK : IntAt K "UNMARK" 15)
    (g_ENDTURN : IntAt K "ENDTURN" 18)
    (g_BREAKOFF : IntAt K "BREAKOFF" 19)
    (g_STATE : IntAt K "STATE" 20)
    (g_STACK : IntAt K "STACK" 21)
    (g_COMING : IntAt K "COMING" 22)
    (g_MARKS : IntAt K "MARKS" 23)
    (g_DELAYS : IntAt K "DELAYS" 24)
    (g_NUMBERS_OF_CALL : PySem.W.nsIn K mainGlobals "NUMBERS_OF_CALL" = some (some (.ref t4)))
    (d_NUMBERS_OF_CALL : DicAt K t4 [(Sum.inl 0, .int 1), (Sum.inl 1, .int 1), (Sum.inl 2, .int 3), (Sum.inl 3, .int 1), (Sum.inl 4, .int 1), (Sum.inl 5, .int 1), (Sum.inl 6, .int 1), (Sum.inl 7, .int 1), (Sum.inl 8, .int 1), (Sum.inl 9, .int 1), (Sum.inl 10, .int 2), (Sum.inl 11, .int 1), (Sum.inl 12, .int 1), (Sum.inl 13, .int 1), (Sum.inl 14, .int 3), (Sum.inl 15, .int 1), (Sum.inl 16, .int 3), (Sum.inl 17, .int 1), (Sum.inl 18, .int 0), (Sum.inl 19, .int 0), (Sum.inl 20, .int 0), (Sum.inl 21, .int 0), (Sum.inl 22, .int 0), (Sum.inl 23, .int 0), (Sum.inl 24, .int 0), (Sum.inl 25, .int 0)])
    (h_take_number : FnAt K "take_number" s_take_number)
    (h_count_things : FnAt K "count_things" s_count_things)
    (h_put_on_stack : FnAt K "put_on_stack" s_put_on_stack)
    (h_ask_active_side : FnAt K "ask_active_side" s_ask_active_side)
    (h_go_on : FnAt K "go_on" s_go_on)
    (h_end_asked_step : FnAt K "end_asked_step" s_end_asked_step)
    (h_take_step : FnAt K "take_step" s_take_step)
    (h_is_left_out : FnAt K "is_left_out" s_is_left_out)
    (h_is_asked_in : FnAt K "is_asked_in" s_is_asked_in)
    (h_begin_step : FnAt K "begin_step" s_begin_step)
    (h_ends_at_step : FnAt K "ends_at_step" s_ends_at_step)
    (h_bring_things : FnAt K "bring_things" s_bring_things)
    (h_is_due : FnAt K "is_due" s_is_due)
    (h_end_marks : FnAt K "end_marks" s_end_marks)
    (h_end_marks_of_till : FnAt K "end_marks_of_till" s_end_marks_of_till)
    (h_leave_phase : FnAt K "leave_phase" s_leave_phase)
    (h_take_phase : FnAt K "take_phase" s_take_phase)
    (h_look_for_turn : FnAt K "look_for_turn" s_look_for_turn)
    (h_take_side_of_turn : FnAt K "take_side_of_turn" s_take_side_of_turn)
    (h_begin_turn : FnAt K "begin_turn" s_begin_turn)
    (h_as_turn_begins : FnAt K "as_turn_begins" s_as_turn_begins)
    (h_begin : FnAt K "begin" s_begin)
    (h_pass_on : FnAt K "pass_on" s_pass_on)
    (h_do_top : FnAt K "do_top" s_do_top)
    (h_act : FnAt K "act" s_act)
    (h_play : FnAt K "play" s_play)
    (h_now : FnAt K "now" s_now)
    (h_may_act : FnAt K "may_act" s_may_act)
    (h_may_play : FnAt K "may_play" s_may_play)
    (h_is_shut : FnAt K "is_shut" s_is_shut)
    (h_is_slow_time : FnAt K "is_slow_time" s_is_slow_time)
    (h_endturn : FnAt K "endturn" s_endturn)
    (h_breakoff : FnAt K "breakoff" s_breakoff)
    (h_lose_items : FnAt K "lose_items" s_lose_items)
    (h_fight : FnAt K "fight" s_fight)
    (h_extraturn : FnAt K "extraturn" s_extraturn)
    (h_extraphase : FnAt K "extraphase" s_extraphase)
    (h_phases_put_in : FnAt K "phases_put_in" s_phases_put_in)
    (h_extrastep : FnAt K "extrastep" s_extrastep)
    (h_skipturn : FnAt K "skipturn" s_skipturn)
    (h_skipstep : FnAt K "skipstep" s_skipstep)
    (h_skipfight : FnAt K "skipfight" s_skipfight)
    (h_skip_one_more : FnAt K "skip_one_more" s_skip_one_more)
    (h_allow : FnAt K "allow" s_allow)
    (h_tell_state : FnAt K "tell_state" s_tell_state)
    (h_tell_stack : FnAt K "tell_stack" s_tell_stack)
    (h_tell_coming : FnAt K "tell_coming" s_tell_coming)
    (h_tell_marks : FnAt K "tell_marks" s_tell_marks)
    (h_tell_delays : FnAt K "tell_delays" s_tell_delays)
    (h_tell_ledger : FnAt K "tell_ledger" s_tell_ledger)
    (h_with_count : FnAt K "with_count" s_with_count)
    (h_one_if : FnAt K "one_if" s_one_if)
    (h_counter : FnAt K "counter" s_counter)
    (h_mark : FnAt K "mark" s_mark)
    (h_unmark : FnAt K "unmark" s_unmark)
    (h_delay : FnAt K "delay" s_delay)
    (h_undelay : FnAt K "undelay" s_undelay)
    (h_without_number : FnAt K "without_number" s_without_number)
    (h_is_step : FnAt K "is_step" s_is_step)
    (h_answers : FnAt K "answers" s_answers)
    (h_answer_call : FnAt K "answer_call" s_answer_call)
    (h_answer_call_of_none : FnAt K "answer_call_of_none" s_answer_call_of_none)
    (h_answer_call_of_one : FnAt K "answer_call_of_one" s_answer_call_of_one)
    (k_Item : ClsAt K "Item" "Item.__init__" s_Item aI)
    (n_Item_number : PySem.W.findIn K (.ref aI) "number" = some none)
    (n_Item_side : PySem.W.findIn K (.ref aI) "side" = some none)
    (n_Item_shuts : PySem.W.findIn K (.ref aI) "shuts" = some none)
    (k_Mark : ClsAt K "Mark" "Mark.__init__" s_Mark aM)
    (n_Mark_number : PySem.W.findIn K (.ref aM) "number" = some none)
    (n_Mark_till : PySem.W.findIn K (.ref aM) "till" = some none)
    (n_Mark_side : PySem.W.findIn K (.ref aM) "side" = some none)
    (n_Mark_step : PySem.W.findIn K (.ref aM) "step" = some none)
    (k_Delayed : ClsAt K "Delayed" "Delayed.__init__" s_Delayed aL)
    (n_Delayed_number : PySem.W.findIn K (.ref aL) "number" = some none)
    (n_Delayed_owner : PySem.W.findIn K (.ref aL) "owner" = some none)
    (n_Delayed_side : PySem.W.findIn K (.ref aL) "side" = some none)
    (n_Delayed_step : PySem.W.findIn K (.ref aL) "step" = some none)
    (k_Duel : ClsAt K "Duel" "Duel.__init__" s_Duel aD)
    (n_Duel_turns : PySem.W.findIn K (.ref aD) "turns" = some none)
    (n_Duel_turns_of_side : PySem.W.findIn K (.ref aD) "turns_of_side" = some none)
    (n_Duel_active : PySem.W.findIn K (.ref aD) "active" = some none)
    (n_Duel_last_ordinary : PySem.W.findIn K (.ref aD) "last_ordinary" = some none)
    (n_Duel_step : PySem.W.findIn K (.ref aD) "step" = some none)
    (n_Duel_rest : PySem.W.findIn K (.ref aD) "rest" = some none)
    (n_Duel_phases : PySem.W.findIn K (.ref aD) "phases" = some none)
    (n_Duel_extra_turns : PySem.W.findIn K (.ref aD) "extra_turns" = some none)
    (n_Duel_skipped_turns : PySem.W.findIn K (.ref aD) "skipped_turns" = some none)
    (n_Duel_skipped_fights : PySem.W.findIn K (.ref aD) "skipped_fights" = some none)
    (n_Duel_skipped_steps : PySem.W.findIn K (.ref aD) "skipped_steps" = some none)
    (n_Duel_holder : PySem.W.findIn K (.ref aD) "holder" = some none)
    (n_Duel_passed : PySem.W.findIn K (.ref aD) "passed" = some none)
    (n_Duel_plays : PySem.W.findIn K (.ref aD) "plays" = some none)
    (n_Duel_fighting : PySem.W.findIn K (.ref aD) "fighting" = some none)
    (n_Duel_first_blows : PySem.W.findIn K (.ref aD) "first_blows" = some none)
    (n_Duel_stack : PySem.W.findIn K (.ref aD) "stack" = some none)
    (n_Duel_marks : PySem.W.findIn K (.ref aD) "marks" = some none)
    (n_Duel_delayed : PySem.W.findIn K (.ref aD) "delayed" = some none)
    (n_Duel_last_number : PySem.W.findIn K (.ref aD) "last_number" = some none)
    (n_Duel_items_come : PySem.W.findIn K (.ref aD) "items_come" = some none)
    (n_Duel_items_done : PySem.W.findIn K (.ref aD) "items_done" = some none)
    (n_Duel_items_countered : PySem.W.findIn K (.ref aD) "items_countered" = some none)
    (n_Duel_items_gone : PySem.W.findIn K (.ref aD) "items_gone" = some none)
    (b_len : PySem.W.nsIn K mainGlobals "len" = some none)
    (b_any : PySem.W.nsIn K mainGlobals "any" = some none)
    (b_list : PySem.W.nsIn K mainGlobals "list" = some none)
    : ∃ fd : FuncData, (∀ (s : Shared) (us : List Value), us.length = (["calls"] : List Str).length → BindsTo s fd ⟨us, []⟩ ((["calls"] : List Str).zip us)) ∧ ∀ base : Heap, K.In base → base.Ns mainGlobals mg → FnOk P w K mg base CX0 12 fa fd ["calls"] (spAns K) := by
  have T := txt_mk X G g_SIDES t_SIDES g_EITHER_SIDE g_DAWN g_UPKEEP g_DRAW g_FIRST_MAIN g_ATTACK g_BLOCK g_FIRST_BLOWS g_BLOWS g_SECOND_MAIN g_END g_DUSK g_STEP_COUNT g_FIGHT_PHASE t_FIGHT_PHASE g_SECOND_MAIN_PHASE t_SECOND_MAIN_PHASE g_PHASES_OF_TURN t_PHASES_OF_TURN u_b3_0 u_b3_1 u_b3_2 u_b3_3 u_b3_4 g_TILL_STEP_ENDS g_TILL_PHASE_ENDS g_TILL_DUSK g_TILL_OWN_TURN g_TILL_DUSK_OF_OWN_TURN g_TILL_OWN_STEP g_MOST_THINGS g_MOST_MARKS g_MOST_EXTRA_TURNS g_MOST_PHASES_TO_COME g_MOST_STEPS_TO_COME g_MOST_SKIPPED g_ACCEPTED g_OUT_OF_RANGE g_NOT_THERE g_WRONG_TIME g_NO_PLACE g_NOT_HOLDER g_NOT_ALLOWED g_TURN_BEGINS g_STEP_BEGINS g_ITEM_DONE g_MARK_ENDS g_THING_COMES g_STEP_SKIPPED g_TURN_SKIPPED g_ITEM_GONE g_FIGHT_SKIPPED g_BEGIN g_PASS_ON g_ACT g_PLAY g_NOW g_FIGHT g_EXTRATURN g_EXTRAPHASE g_EXTRASTEP g_SKIPTURN g_SKIPSTEP g_SKIPFIGHT g_ALLOW g_COUNTER g_MARK g_UNMARK g_ENDTURN g_BREAKOFF g_STATE g_STACK g_COMING g_MARKS g_DELAYS g_NUMBERS_OF_CALL d_NUMBERS_OF_CALL h_take_number h_count_things h_put_on_stack h_ask_active_side h_go_on h_end_asked_step h_take_step h_is_left_out h_is_asked_in h_begin_step h_ends_at_step h_bring_things h_is_due h_end_marks h_end_marks_of_till h_leave_phase h_take_phase h_look_for_turn h_take_side_of_turn h_begin_turn h_as_turn_begins h_begin h_pass_on h_do_top h_act h_play h_now h_may_act h_may_play h_is_shut h_is_slow_time h_endturn h_breakoff h_lose_items h_fight h_extraturn h_extraphase h_phases_put_in h_extrastep h_skipturn h_skipstep h_skipfight h_skip_one_more h_allow h_tell_state h_tell_stack h_tell_coming h_tell_marks h_tell_delays h_tell_ledger h_with_count h_one_if h_counter h_mark h_unmark h_delay h_undelay h_without_number h_is_step h_answers h_answer_call h_answer_call_of_none h_answer_call_of_one k_Item n_Item_number n_Item_side n_Item_shuts k_Mark n_Mark_number n_Mark_till n_Mark_side n_Mark_step k_Delayed n_Delayed_number n_Delayed_owner n_Delayed_side n_Delayed_step k_Duel n_Duel_turns n_Duel_turns_of_side n_Duel_active n_Duel_last_ordinary n_Duel_step n_Duel_rest n_Duel_phases n_Duel_extra_turns n_Duel_skipped_turns n_Duel_skipped_fights n_Duel_skipped_steps n_Duel_holder n_Duel_passed n_Duel_plays n_Duel_fighting n_Duel_first_blows n_Duel_stack n_Duel_marks n_Duel_delayed n_Duel_last_number n_Duel_items_come n_Duel_items_done n_Duel_items_countered n_Duel_items_gone b_len b_any b_list
  obtain ⟨f, oc, od, an, osl, kV, doc, pm, cdv, ct, a, l, c, k⟩ := h_answers
  have e := hfa.symm.trans (PySem.W.mg_of X G a)
  cases e
  exact ⟨_, fun s us hu => match us, hu with | [_], _ => .of_eq rfl, fun base _ _ => fn_answers (fun_mk l c k) T⟩
end
end D
open PySem PySem.W PyProof.Rows
set_option maxRecDepth 100000 in
set_option maxHeartbeats 0 in
theorem PySem.Challenge.cw_turnsteps_s01_answers_holds : PySem.Challenge.rw_turnsteps_s01_answers.Holds := by
  w_on
  refine D.hd ?_
  k_fillS
  refine L2.walk_specK (r := PySem.Challenge.rw_turnsteps_s01_answers) (k := 12) (CX := L2.CX0) (ps := ["calls"]) (sp := D.spAns) (by decide +kernel) rfl rfl ⟨rfl, by decide, by decide⟩ (fun w h Y => PySem.W.kIn_of Y) ?F ?S (fun _ _ _ _ z => z)
  case F =>
    intro w mg fa h Y KX G hmg
    refine' D.fin_mk KX G hmg ?z0 ?z1 ?z2 ?z3 ?z4 ?z5 ?z6 ?z7 ?z8 ?z9 ?z10 ?z11 ?z12 ?z13 ?z14 ?z15 ?z16 ?z17 ?z18 ?z19 ?z20 ?z21 ?z22 ?z23 ?z24 ?z25 ?z26 ?z27 ?z28 ?z29 ?z30 ?z31 ?z32 ?z33 ?z34 ?z35 ?z36 ?z37 ?z38 ?z39 ?z40 ?z41 ?z42 ?z43 ?z44 ?z45 ?z46 ?z47 ?z48 ?z49 ?z50 ?z51 ?z52 ?z53 ?z54 ?z55 ?z56 ?z57 ?z58 ?z59 ?z60 ?z61 ?z62 ?z63 ?z64 ?z65 ?z66 ?z67 ?z68 ?z69 ?z70 ?z71 ?z72 ?z73 ?z74 ?z75 ?z76 ?z77 ?z78 ?z79 ?z80 ?z81 ?z82 ?z83 ?z84 ?z85 ?z86 ?z87 ?z88 ?z89 ?z90 ?z91 ?z92 ?z93 ?z94 ?z95 ?z96 ?z97 ?z98 ?z99 ?z100 ?z101 ?z102 ?z103 ?z104 ?z105 ?z106 ?z107 ?z108 ?z109 ?z110 ?z111 ?z112 ?z113 ?z114 ?z115 ?z116 ?z117 ?z118 ?z119 ?z120 ?z121 ?z122 ?z123 ?z124 ?z125 ?z126 ?z127 ?z128 ?z129 ?z130 ?z131 ?z132 ?z133 ?z134 ?z135 ?z136 ?z137 ?z138 ?z139 ?z140 ?z141 ?z142 ?z143 ?z144 ?z145 ?z146 ?z147 ?z148 ?z149 ?z150 ?z151 ?z152 ?z153 ?z154 ?z155 ?z156 ?z157 ?z158 ?z159 ?z160 ?z161 ?z162 ?z163 ?z164 ?z165 ?z166 ?z167 ?z168 ?z169 ?z170 ?z171 ?z172 ?z173 ?z174 ?z175 ?z176 ?z177 ?z178 ?z179 ?z180 ?z181 ?z182 ?z183
    (case z0 => k_is)
    (case z1 => (refine' D.tup_mk ?q0 ?q1 ?q2 ?q3 ?q4; (case q0 => k_is); (case q1 => exact rfl); (case q2 => exact rfl); (case q3 => exact D.small _); (case q4 => exact (.cons ⟨_, rfl⟩ (.cons ⟨_, rfl⟩ .nil)))))
    (case z2 => (refine' D.int_mk ?q0; (case q0 => k_is)))
    (case z3 => (refine' D.int_mk ?q0; (case q0 => k_is)))
    (case z4 => (refine' D.int_mk ?q0; (case q0 => k_is)))
    (case z5 => (refine' D.int_mk ?q0; (case q0 => k_is)))
    (case z6 => (refine' D.int_mk ?q0; (case q0 => k_is)))
    (case z7 => (refine' D.int_mk ?q0; (case q0 => k_is)))
    (case z8 => (refine' D.int_mk ?q0; (case q0 => k_is)))
    (case z9 => (refine' D.int_mk ?q0; (case q0 => k_is)))
    (case z10 => (refine' D.int_mk ?q0; (case q0 => k_is)))
    (case z11 => (refine' D.int_mk ?q0; (case q0 => k_is)))
    (case z12 => (refine' D.int_mk ?q0; (case q0 => k_is)))
    (case z13 => (refine' D.int_mk ?q0; (case q0 => k_is)))
    (case z14 => (refine' D.int_mk ?q0; (case q0 => k_is)))
    (case z15 => k_is)
    (case z16 => (refine' D.tup_mk ?q0 ?q1 ?q2 ?q3 ?q4; (case q0 => k_is); (case q1 => exact rfl); (case q2 => exact rfl); (case q3 => exact D.small _); (case q4 => exact (.cons ⟨_, rfl⟩ (.cons ⟨_, rfl⟩ (.cons ⟨_, rfl⟩ (.cons ⟨_, rfl⟩ .nil)))))))
    (case z17 => k_is)
    (case z18 => (refine' D.tup_mk ?q0 ?q1 ?q2 ?q3 ?q4; (case q0 => k_is); (case q1 => exact rfl); (case q2 => exact rfl); (case q3 => exact D.small _); (case q4 => exact (.cons ⟨_, rfl⟩ .nil))))
    (case z19 => k_is)
    (case z20 => (refine' D.tup_mk ?q0 ?q1 ?q2 ?q3 ?q4; (case q0 => k_is); (case q1 => exact rfl); (case q2 => exact rfl); (case q3 => exact D.small _); (case q4 => exact (.cons rfl (.cons rfl (.cons rfl (.cons rfl (.cons rfl .nil))))))))
    (case z21 => (refine' D.tup_mk ?q0 ?q1 ?q2 ?q3 ?q4; (case q0 => k_is); (case q1 => exact rfl); (case q2 => exact rfl); (case q3 => exact D.small _); (case q4 => exact (.cons ⟨_, rfl⟩ (.cons ⟨_, rfl⟩ (.cons ⟨_, rfl⟩ .nil))))))
    (case z22 => (refine' D.tup_mk ?q0 ?q1 ?q2 ?q3 ?q4; (case q0 => k_is); (case q1 => exact rfl); (case q2 => exact rfl); (case q3 => exact D.small _); (case q4 => exact (.cons ⟨_, rfl⟩ .nil))))
    (case z23 => (refine' D.tup_mk ?q0 ?q1 ?q2 ?q3 ?q4; (case q0 => k_is); (case q1 => exact rfl); (case q2 => exact rfl); (case q3 => exact D.small _); (case q4 => exact (.cons ⟨_, rfl⟩ (.cons ⟨_, rfl⟩ (.cons ⟨_, rfl⟩ (.cons ⟨_, rfl⟩ .nil)))))))
    (case z24 => (refine' D.tup_mk ?q0 ?q1 ?q2 ?q3 ?q4; (case q0 => k_is); (case q1 => exact rfl); (case q2 => exact rfl); (case q3 => exact D.small _); (case q4 => exact (.cons ⟨_, rfl⟩ .nil))))
    (case z25 => (refine' D.tup_mk ?q0 ?q1 ?q2 ?q3 ?q4; (case q0 => k_is); (case q1 => exact rfl); (case q2 => exact rfl); (case q3 => exact D.small _); (case q4 => exact (.cons ⟨_, rfl⟩ (.cons ⟨_, rfl⟩ .nil)))))
    (case z26 => (refine' D.int_mk ?q0; (case q0 => k_is)))
    (case z27 => (refine' D.int_mk ?q0; (case q0 => k_is)))
    (case z28 => (refine' D.int_mk ?q0; (case q0 => k_is)))
    (case z29 => (refine' D.int_mk ?q0; (case q0 => k_is)))
    (case z30 => (refine' D.int_mk ?q0; (case q0 => k_is)))
    (case z31 => (refine' D.int_mk ?q0; (case q0 => k_is)))
    (case z32 => (refine' D.int_mk ?q0; (case q0 => k_is)))
    (case z33 => (refine' D.int_mk ?q0; (case q0 => k_is)))
    (case z34 => (refine' D.int_mk ?q0; (case q0 => k_is)))
    (case z35 => (refine' D.int_mk ?q0; (case q0 => k_is)))
    (case z36 => (refine' D.int_mk ?q0; (case q0 => k_is)))
    (case z37 => (refine' D.int_mk ?q0; (case q0 => k_is)))
    (case z38 => (refine' D.int_mk ?q0; (case q0 => k_is)))
    (case z39 => (refine' D.int_mk ?q0; (case q0 => k_is)))
    (case z40 => (refine' D.int_mk ?q0; (case q0 => k_is)))
    (case z41 => (refine' D.int_mk ?q0; (case q0 => k_is)))
    (case z42 => (refine' D.int_mk ?q0; (case q0 => k_is)))
    (case z43 => (refine' D.int_mk ?q0; (case q0 => k_is)))
    (case z44 => (refine' D.int_mk ?q0; (case q0 => k_is)))
    (case z45 => (refine' D.int_mk ?q0; (case q0 => k_is)))
    (case z46 => (refine' D.int_mk ?q0; (case q0 => k_is)))
    (case z47 => (refine' D.int_mk ?q0; (case q0 => k_is)))
    (case z48 => (refine' D.int_mk ?q0; (case q0 => k_is)))
    (case z49 => (refine' D.int_mk ?q0; (case q0 => k_is)))
    (case z50 => (refine' D.int_mk ?q0; (case q0 => k_is)))
    (case z51 => (refine' D.int_mk ?q0; (case q0 => k_is)))
    (case z52 => (refine' D.int_mk ?q0; (case q0 => k_is)))
    (case z53 => (refine' D.int_mk ?q0; (case q0 => k_is)))
    (case z54 => (refine' D.int_mk ?q0; (case q0 => k_is)))
    (case z55 => (refine' D.int_mk ?q0; (case q0 => k_is)))
    (case z56 => (refine' D.int_mk ?q0; (case q0 => k_is)))
    (case z57 => (refine' D.int_mk ?q0; (case q0 => k_is)))
    (case z58 => (refine' D.int_mk ?q0; (case q0 => k_is)))
    (case z59 => (refine' D.int_mk ?q0; (case q0 => k_is)))
    (case z60 => (refine' D.int_mk ?q0; (case q0 => k_is)))
    (case z61 => (refine' D.int_mk ?q0; (case q0 => k_is)))
    (case z62 => (refine' D.int_mk ?q0; (case q0 => k_is)))
    (case z63 => (refine' D.int_mk ?q0; (case q0 => k_is)))
    (case z64 => (refine' D.int_mk ?q0; (case q0 => k_is)))
    (case z65 => (refine' D.int_mk ?q0; (case q0 => k_is)))
    (case z66 => (refine' D.int_mk ?q0; (case q0 => k_is)))
    (case z67 => (refine' D.int_mk ?q0; (case q0 => k_is)))
    (case z68 => (refine' D.int_mk ?q0; (case q0 => k_is)))
    (case z69 => (refine' D.int_mk ?q0; (case q0 => k_is)))
    (case z70 => (refine' D.int_mk ?q0; (case q0 => k_is)))
    (case z71 => (refine' D.int_mk ?q0; (case q0 => k_is)))
    (case z72 => (refine' D.int_mk ?q0; (case q0 => k_is)))
    (case z73 => (refine' D.int_mk ?q0; (case q0 => k_is)))
    (case z74 => (refine' D.int_mk ?q0; (case q0 => k_is)))
    (case z75 => (refine' D.int_mk ?q0; (case q0 => k_is)))
    (case z76 => (refine' D.int_mk ?q0; (case q0 => k_is)))
    (case z77 => k_is)
    (case z78 => (refine' D.dic_mk ?q0 ?q1 ?q2 ?q3 ?q4; (case q0 => k_is); (case q1 => exact ⟨rfl, rfl, rfl⟩); (case q2 => exact rfl); (case q3 => repeat (first | exact .nil | refine .cons ⟨_, _, rfl, rfl, rfl, _, rfl⟩ ?_)); (case q4 => decide +kernel)))
    (case z79 => (refine' D.fn_mk ?q0 ?q1 ?q2 ?q3; (case q0 => k_is); (case q1 => k_is); (case q2 => k_is); (case q3 => k_is)))
    (case z80 => (refine' D.fn_mk ?q0 ?q1 ?q2 ?q3; (case q0 => k_is); (case q1 => k_is); (case q2 => k_is); (case q3 => k_is)))
    (case z81 => (refine' D.fn_mk ?q0 ?q1 ?q2 ?q3; (case q0 => k_is); (case q1 => k_is); (case q2 => k_is); (case q3 => k_is)))
    (case z82 => (refine' D.fn_mk ?q0 ?q1 ?q2 ?q3; (case q0 => k_is); (case q1 => k_is); (case q2 => k_is); (case q3 => k_is)))
    (case z83 => (refine' D.fn_mk ?q0 ?q1 ?q2 ?q3; (case q0 => k_is); (case q1 => k_is); (case q2 => k_is); (case q3 => k_is)))
    (case z84 => (refine' D.fn_mk ?q0 ?q1 ?q2 ?q3; (case q0 => k_is); (case q1 => k_is); (case q2 => k_is); (case q3 => k_is)))
    (case z85 => (refine' D.fn_mk ?q0 ?q1 ?q2 ?q3; (case q0 => k_is); (case q1 => k_is); (case q2 => k_is); (case q3 => k_is)))
    (case z86 => (refine' D.fn_mk ?q0 ?q1 ?q2 ?q3; (case q0 => k_is); (case q1 => k_is); (case q2 => k_is); (case q3 => k_is)))
    (case z87 => (refine' D.fn_mk ?q0 ?q1 ?q2 ?q3; (case q0 => k_is); (case q1 => k_is); (case q2 => k_is); (case q3 => k_is)))
    (case z88 => (refine' D.fn_mk ?q0 ?q1 ?q2 ?q3; (case q0 => k_is); (case q1 => k_is); (case q2 => k_is); (case q3 => k_is)))
    (case z89 => (refine' D.fn_mk ?q0 ?q1 ?q2 ?q3; (case q0 => k_is); (case q1 => k_is); (case q2 => k_is); (case q3 => k_is)))
    (case z90 => (refine' D.fn_mk ?q0 ?q1 ?q2 ?q3; (case q0 => k_is); (case q1 => k_is); (case q2 => k_is); (case q3 => k_is)))
    (case z91 => (refine' D.fn_mk ?q0 ?q1 ?q2 ?q3; (case q0 => k_is); (case q1 => k_is); (case q2 => k_is); (case q3 => k_is)))
    (case z92 => (refine' D.fn_mk ?q0 ?q1 ?q2 ?q3; (case q0 => k_is); (case q1 => k_is); (case q2 => k_is); (case q3 => k_is)))
    (case z93 => (refine' D.fn_mk ?q0 ?q1 ?q2 ?q3; (case q0 => k_is); (case q1 => k_is); (case q2 => k_is); (case q3 => k_is)))
    (case z94 => (refine' D.fn_mk ?q0 ?q1 ?q2 ?q3; (case q0 => k_is); (case q1 => k_is); (case q2 => k_is); (case q3 => k_is)))
    (case z95 => (refine' D.fn_mk ?q0 ?q1 ?q2 ?q3; (case q0 => k_is); (case q1 => k_is); (case q2 => k_is); (case q3 => k_is)))
    (case z96 => (refine' D.fn_mk ?q0 ?q1 ?q2 ?q3; (case q0 => k_is); (case q1 => k_is); (case q2 => k_is); (case q3 => k_is)))
    (case z97 => (refine' D.fn_mk ?q0 ?q1 ?q2 ?q3; (case q0 => k_is); (case q1 => k_is); (case q2 => k_is); (case q3 => k_is)))
    (case z98 => (refine' D.fn_mk ?q0 ?q1 ?q2 ?q3; (case q0 => k_is); (case q1 => k_is); (case q2 => k_is); (case q3 => k_is)))
    (case z99 => (refine' D.fn_mk ?q0 ?q1 ?q2 ?q3; (case q0 => k_is); (case q1 => k_is); (case q2 => k_is); (case q3 => k_is)))
    (case z100 => (refine' D.fn_mk ?q0 ?q1 ?q2 ?q3; (case q0 => k_is); (case q1 => k_is); (case q2 => k_is); (case q3 => k_is)))
    (case z101 => (refine' D.fn_mk ?q0 ?q1 ?q2 ?q3; (case q0 => k_is); (case q1 => k_is); (case q2 => k_is); (case q3 => k_is)))
    (case z102 => (refine' D.fn_mk ?q0 ?q1 ?q2 ?q3; (case q0 => k_is); (case q1 => k_is); (case q2 => k_is); (case q3 => k_is)))
    (case z103 => (refine' D.fn_mk ?q0 ?q1 ?q2 ?q3; (case q0 => k_is); (case q1 => k_is); (case q2 => k_is); (case q3 => k_is)))
    (case z104 => (refine' D.fn_mk ?q0 ?q1 ?q2 ?q3; (case q0 => k_is); (case q1 => k_is); (case q2 => k_is); (case q3 => k_is)))
    (case z105 => (refine' D.fn_mk ?q0 ?q1 ?q2 ?q3; (case q0 => k_is); (case q1 => k_is); (case q2 => k_is); (case q3 => k_is)))
    (case z106 => (refine' D.fn_mk ?q0 ?q1 ?q2 ?q3; (case q0 => k_is); (case q1 => k_is); (case q2 => k_is); (case q3 => k_is)))
    (case z107 => (refine' D.fn_mk ?q0 ?q1 ?q2 ?q3; (case q0 => k_is); (case q1 => k_is); (case q2 => k_is); (case q3 => k_is)))
    (case z108 => (refine' D.fn_mk ?q0 ?q1 ?q2 ?q3; (case q0 => k_is); (case q1 => k_is); (case q2 => k_is); (case q3 => k_is)))
    (case z109 => (refine' D.fn_mk ?q0 ?q1 ?q2 ?q3; (case q0 => k_is); (case q1 => k_is); (case q2 => k_is); (case q3 => k_is)))
    (case z110 => (refine' D.fn_mk ?q0 ?q1 ?q2 ?q3; (case q0 => k_is); (case q1 => k_is); (case q2 => k_is); (case q3 => k_is)))
    (case z111 => (refine' D.fn_mk ?q0 ?q1 ?q2 ?q3; (case q0 => k_is); (case q1 => k_is); (case q2 => k_is); (case q3 => k_is)))
    (case z112 => (refine' D.fn_mk ?q0 ?q1 ?q2 ?q3; (case q0 => k_is); (case q1 => k_is); (case q2 => k_is); (case q3 => k_is)))
    (case z113 => (refine' D.fn_mk ?q0 ?q1 ?q2 ?q3; (case q0 => k_is); (case q1 => k_is); (case q2 => k_is); (case q3 => k_is)))
    (case z114 => (refine' D.fn_mk ?q0 ?q1 ?q2 ?q3; (case q0 => k_is); (case q1 => k_is); (case q2 => k_is); (case q3 => k_is)))
    (case z115 => (refine' D.fn_mk ?q0 ?q1 ?q2 ?q3; (case q0 => k_is); (case q1 => k_is); (case q2 => k_is); (case q3 => k_is)))
    (case z116 => (refine' D.fn_mk ?q0 ?q1 ?q2 ?q3; (case q0 => k_is); (case q1 => k_is); (case q2 => k_is); (case q3 => k_is)))
    (case z117 => (refine' D.fn_mk ?q0 ?q1 ?q2 ?q3; (case q0 => k_is); (case q1 => k_is); (case q2 => k_is); (case q3 => k_is)))
    (case z118 => (refine' D.fn_mk ?q0 ?q1 ?q2 ?q3; (case q0 => k_is); (case q1 => k_is); (case q2 => k_is); (case q3 => k_is)))
    (case z119 => (refine' D.fn_mk ?q0 ?q1 ?q2 ?q3; (case q0 => k_is); (case q1 => k_is); (case q2 => k_is); (case q3 => k_is)))
    (case z120 => (refine' D.fn_mk ?q0 ?q1 ?q2 ?q3; (case q0 => k_is); (case q1 => k_is); (case q2 => k_is); (case q3 => k_is)))
    (case z121 => (refine' D.fn_mk ?q0 ?q1 ?q2 ?q3; (case q0 => k_is); (case q1 => k_is); (case q2 => k_is); (case q3 => k_is)))
    (case z122 => (refine' D.fn_mk ?q0 ?q1 ?q2 ?q3; (case q0 => k_is); (case q1 => k_is); (case q2 => k_is); (case q3 => k_is)))
    (case z123 => (refine' D.fn_mk ?q0 ?q1 ?q2 ?q3; (case q0 => k_is); (case q1 => k_is); (case q2 => k_is); (case q3 => k_is)))
    (case z124 => (refine' D.fn_mk ?q0 ?q1 ?q2 ?q3; (case q0 => k_is); (case q1 => k_is); (case q2 => k_is); (case q3 => k_is)))
    (case z125 => (refine' D.fn_mk ?q0 ?q1 ?q2 ?q3; (case q0 => k_is); (case q1 => k_is); (case q2 => k_is); (case q3 => k_is)))
    (case z126 => (refine' D.fn_mk ?q0 ?q1 ?q2 ?q3; (case q0 => k_is); (case q1 => k_is); (case q2 => k_is); (case q3 => k_is)))
    (case z127 => (refine' D.fn_mk ?q0 ?q1 ?q2 ?q3; (case q0 => k_is); (case q1 => k_is); (case q2 => k_is); (case q3 => k_is)))
    (case z128 => (refine' D.fn_mk ?q0 ?q1 ?q2 ?q3; (case q0 => k_is); (case q1 => k_is); (case q2 => k_is); (case q3 => k_is)))
    (case z129 => (refine' D.fn_mk ?q0 ?q1 ?q2 ?q3; (case q0 => k_is); (case q1 => k_is); (case q2 => k_is); (case q3 => k_is)))
    (case z130 => (refine' D.fn_mk ?q0 ?q1 ?q2 ?q3; (case q0 => k_is); (case q1 => k_is); (case q2 => k_is); (case q3 => k_is)))
    (case z131 => (refine' D.fn_mk ?q0 ?q1 ?q2 ?q3; (case q0 => k_is); (case q1 => k_is); (case q2 => k_is); (case q3 => k_is)))
    (case z132 => (refine' D.fn_mk ?q0 ?q1 ?q2 ?q3; (case q0 => k_is); (case q1 => k_is); (case q2 => k_is); (case q3 => k_is)))
    (case z133 => (refine' D.fn_mk ?q0 ?q1 ?q2 ?q3; (case q0 => k_is); (case q1 => k_is); (case q2 => k_is); (case q3 => k_is)))
    (case z134 => (refine' D.fn_mk ?q0 ?q1 ?q2 ?q3; (case q0 => k_is); (case q1 => k_is); (case q2 => k_is); (case q3 => k_is)))
    (case z135 => (refine' D.fn_mk ?q0 ?q1 ?q2 ?q3; (case q0 => k_is); (case q1 => k_is); (case q2 => k_is); (case q3 => k_is)))
    (case z136 => (refine' D.fn_mk ?q0 ?q1 ?q2 ?q3; (case q0 => k_is); (case q1 => k_is); (case q2 => k_is); (case q3 => k_is)))
    (case z137 => (refine' D.fn_mk ?q0 ?q1 ?q2 ?q3; (case q0 => k_is); (case q1 => k_is); (case q2 => k_is); (case q3 => k_is)))
    (case z138 => (refine' D.fn_mk ?q0 ?q1 ?q2 ?q3; (case q0 => k_is); (case q1 => k_is); (case q2 => k_is); (case q3 => k_is)))
    (case z139 => (refine' D.fn_mk ?q0 ?q1 ?q2 ?q3; (case q0 => k_is); (case q1 => k_is); (case q2 => k_is); (case q3 => k_is)))
    (case z140 => (refine' D.fn_mk ?q0 ?q1 ?q2 ?q3; (case q0 => k_is); (case q1 => k_is); (case q2 => k_is); (case q3 => k_is)))
    (case z141 => (refine' D.fn_mk ?q0 ?q1 ?q2 ?q3; (case q0 => k_is); (case q1 => k_is); (case q2 => k_is); (case q3 => k_is)))
    (case z142 => (refine' D.cls_mk ?q0 ?q1 ?q2 ?q3 ?q4 ?q5 ?q6 ?q7 ?q8 ?q9 ?q10 ?q11; (case q0 => k_is); (case q1 => k_is); (case q2 => k_is); (case q3 => k_is); (case q4 => k_is); (case q5 => k_is); (case q6 => k_is); (case q7 => k_is); (case q8 => k_is); (case q9 => k_is); (case q10 => k_is); (case q11 => k_is)))
    (case z143 => k_is)
    (case z144 => k_is)
    (case z145 => k_is)
    (case z146 => (refine' D.cls_mk ?q0 ?q1 ?q2 ?q3 ?q4 ?q5 ?q6 ?q7 ?q8 ?q9 ?q10 ?q11; (case q0 => k_is); (case q1 => k_is); (case q2 => k_is); (case q3 => k_is); (case q4 => k_is); (case q5 => k_is); (case q6 => k_is); (case q7 => k_is); (case q8 => k_is); (case q9 => k_is); (case q10 => k_is); (case q11 => k_is)))
    (case z147 => k_is)
    (case z148 => k_is)
    (case z149 => k_is)
    (case z150 => k_is)
    (case z151 => (refine' D.cls_mk ?q0 ?q1 ?q2 ?q3 ?q4 ?q5 ?q6 ?q7 ?q8 ?q9 ?q10 ?q11; (case q0 => k_is); (case q1 => k_is); (case q2 => k_is); (case q3 => k_is); (case q4 => k_is); (case q5 => k_is); (case q6 => k_is); (case q7 => k_is); (case q8 => k_is); (case q9 => k_is); (case q10 => k_is); (case q11 => k_is)))
    (case z152 => k_is)
    (case z153 => k_is)
    (case z154 => k_is)
    (case z155 => k_is)
    (case z156 => (refine' D.cls_mk ?q0 ?q1 ?q2 ?q3 ?q4 ?q5 ?q6 ?q7 ?q8 ?q9 ?q10 ?q11; (case q0 => k_is); (case q1 => k_is); (case q2 => k_is); (case q3 => k_is); (case q4 => k_is); (case q5 => k_is); (case q6 => k_is); (case q7 => k_is); (case q8 => k_is); (case q9 => k_is); (case q10 => k_is); (case q11 => k_is)))
    (case z157 => k_is)
    (case z158 => k_is)
    (case z159 => k_is)
    (case z160 => k_is)
    (case z161 => k_is)
    (case z162 => k_is)
    (case z163 => k_is)
    (case z164 => k_is)
    (case z165 => k_is)
    (case z166 => k_is)
    (case z167 => k_is)
    (case z168 => k_is)
    (case z169 => k_is)
    (case z170 => k_is)
    (case z171 => k_is)
    (case z172 => k_is)
    (case z173 => k_is)
    (case z174 => k_is)
    (case z175 => k_is)
    (case z176 => k_is)
    (case z177 => k_is)
    (case z178 => k_is)
    (case z179 => k_is)
    (case z180 => k_is)
    (case z181 => k_is)
    (case z182 => k_is)
    (case z183 => k_is)
  case S =>
    intro K H xs a hO hwi hask hx
    cases hx with
    | cons h1 h2 =>
      cases h2
      cases h1 with
      | lst hs ha =>
        have e := L2.ints_dw a.1 _ ha
        subst e
        have q : ((Codec.inLen 0 17000 a.1 && a.1.all (Codec.inInt (-1000000000000000000) 1000000000000000000)) && true) = true := hwi
        rw [Bool.and_eq_true, Bool.and_eq_true] at q
        exact ⟨_, a.1, rfl, hs, (Codec.inNat_iff.mp q.1.1).2, hask, fun H' p hp => .lst (L2.SqL.of hp) (L2.dw_ints _)⟩
#print axioms PySem.Challenge.cw_turnsteps_s01_answers_holds
