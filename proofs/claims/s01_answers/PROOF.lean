import PyProof.Rows.All
import Wide.All
import OpenK.AllK
import Wide.FinOn
import PyProof.EqAt
import PyProof.EqKinds
import PyProof.TupleCall
import KE.BitLaws
import Open.SpecLaws
import KE.OsHead
import KE.OsGo
import PyProof.SetKind
import PyProof.DictStraight
import PyProof.CollectWalk
import PyProof.SetRoads
import PyProof.ListNew
import PyProof.FactsAll.set_1
import PyProof.FactsAll.set_2
import PyProof.CollectIter
import PyProof.Rows.SetFrom
import PyProof.Rows.SortShellAny
import PyProof.DictItems
import PyProof.ZipIter
import PyProof.TupleIter
import PyProof.P3Eq
import VaprbpSpec
import PySem.Challenge.RW_countedchances_s01_answers
set_option Elab.async false
set_option linter.all false
set_option maxRecDepth 100000
set_option maxHeartbeats 4000000
set_option genSizeOf false
theorem zzw:PySem.Challenge.rw_countedchances_s01_answers.wellSaid=true:=by decide +kernel
set_option genInjectivity false in
structure PySem.W.Fast:Prop where(tw12347841263196324089 tw16483484763290789781 tw8228220756757958763 tw17245310721692124224 tw12328769840996685864 tw6921367915330480122 tw14653817914680740458 tw15741896012105562381 tw9683571978622384001 tw13002503781995682 tw4381455171598707015 tw13307825445133332326 tw8205479933005982948 tw11843705885241350123 tw1773105101179208906 tw5654301795212884914 tw3783978928048691314 tw10377045544773473292 tw10099047910226008902 tw6989203528546855185 tw14479643498314899542 tw2755950098041378332 tw1923466519927944414 tw7895945193348425863 tw9008597517537013029 tw14231577662395105765 tw13186547135873087086 tw13292065880611933571 tw17669369855327518676 tw10692438338999344867 tw2617534858814490252 tw3178255387857598837 tw7633849981712282521 tw239769200960460215 tw6573491534455308043 tw14223877667034998970 tw10798408830560585818 tw7556129041572383267 tw11377108152471863021 tw967861960189627210 tw4675065086809335838 tw2528694460478488320 tw6963561339355625015 tw289296170801440129 tw5924382988213589828 tw13106817996177641093 tw5823190792396593511 tw10114257639468026949 tw540076145489510237 tw8837309452344298119 tw5611384771321006654 tw14894474474665932231 tw16259769676255269734 tw18395270648344469183 tw8118212740266876498 tw177841535898579958 tw16233034156373691115 tw4360620195394193775 tw11988378745958021062 tw15033109764782573190 tw6168576797351400829 tw8922179806154291533 tw797176701919681292 tw8881587350957143430 tw15530940452156341833 tw17507253531299813361 tw10933655178436877749 tw18311004172897514291 tw16690061311506027144 tw6852145904305206726 tw7241196032552144444 tw15263235524047654825 tw6233034738361910581 tw17063096363797141752 tw15898584112203320404 tw16909106002101995412 tw14459705352237382826 tw3412637370107973555 tw7910091284039375114 tw13315616397097915866 tw646736094170011520 tw8881186854567461373 tw17472223242523032106 tw15186863462941627501 tw17341443857679030709 tw13628507790492153705 tw16970008655947122090 tw5562095740477964257 tw8675557426253387771 tw11804014909164630503 tw10226506230291163214 tw12787679122938832700 tw15084994533716753784 tw18407461485460086021 tw2413461934875827291 tw2540556060426666212 tw8022831639774978713 tw12929457980803873405 tw12438905265654365084 tw13662580294500162716 tw4124265548321816026 tw17403694959338690297 tw10761996283279567165 tw14853932986846782304 tw17913260396836496802 tw3288590179599308173 tw14625248447825649169 tw2717132802350254975 tw470857480060974435 tw1349321951345666999 tw13853847442606866732 tw15810120914736846524 tw716131830279924093 tw3196520536216502145 tw2142427920444480166 tw649868906092809253 tw5555851525067482975 tw17017235863830234579 tw3962168692518147960 tw7008492496748574205 tw7731734301160287750 tw10302114458474093904 tw6646075359775894086 tw1843441663739865918 tw14978348574546005765 tw4892682246098283802 tw12549635794592482379 tw7837465267663671241 tw14659860159553366473 tw16690042321358193785 tw4471503956848578521 tw9109390017749337655 tw3849790856192861502 tw17829992353972544746 tw7176864823974413262 tw14197029739534402680 tw16908367723283467950 tw9659522622982506930 tw17789922259221105438 tw9733165560610457770 tw12874909641202536632 tw7966906606585931129 tw8970742611412704297 tw696001613401630651 tw10933176584233168525 tw4952076373376521981 tw5244999209188083545 tw18429744966132873524 tw6960984852825068956 tw9985142748167047147 tw8957885234074118780 tw6612039436794176431 tw12889105379379147169 tw17300870204477577824 tw7560075646968100050 tw4766995084131459795 tw7926266087970896870 tw6191675072968616527 tw10337408762292521616 tw13262978035012273825 tw15484398777192608258 tw7625785522863651098 tw6919493432255447849 tw17105975800199613347 tw4634323360205659370 tw7641603483051194677 tw11481944500125722456 tw10126364502643120487 tw7878505229387907405 tw13036128039411116788 tw10292681574155002595 tw8471870790640943181 tw1115221404286353666 tw15491619615060247457 tw7920722472189415016 tw16252003849365382754 tw4950722998996485818 tw11716191490065185934 tw3164759273664044632 tw2124836396398098190 tw16950617939232940175 tw16767609545094119173 tw12970520037849057098 tw12995232913311643402 tw11395187991357547863 tw15151467433320369956 tw17496096525110424595 tw10181210948839294359 tw2984443327691800138 tw13824361294974779906 tw10677907091487156386 tw12637965395606607904 tw12812679609687483134 tw17227750487803471029 tw17452008713035216109 tw11772632392924562294 tw979085118957368310 tw15180896727874714355 tw5923369606277699972 tw6427369551295885096 tw13840330607660182308 tw4221597371157842503 tw3373782839806519020 tw1571407994432369124 tw17529311370939716610 tw7924350776931397270 tw9562217475813960394 tw628997725782048392 tw17487219870584211281 tw2908613105834034578 tw7973373937817758607 tw11705437730563666611 tw8292191491061720465 tw15228606009514907925 tw7730458122115972886 tw274302084559281706 tw16278499719903845851 tw927448303956703328 tw12594462628757143383 tw17600885550394895653 tw12598037452604996653 tw12571180455781469511 tw3973033093637423151 tw13021766142712930448 tw4096622035191292026 tw8576605509572804479 tw12581335663298046520 tw3979976786104883419 tw5551296861174335020 tw17941992721854543901 tw3179343898236161659 tw10237545935225299594 tw14234011418367485942 tw11932738713171808986 tw7958063036751714069 tw4581007084158844206 tw13203586071968940618 tw134313450629149916 tw4520748017743427985 tw14743849596327913309 tw15995424633904717355 tw15908456642332876247 tw8038142568085176997 tw3133546763908278971 tw13769342468278828180 tw14975789937858867548 tw10990929547251008900 tw14004423105769672889 tw82312027313852254 tw12548688751676689175 tw9560925769289447400 tw12911891629747158232 tw5207189931394192795 tw16829128329473687438 tw18386503139050464270 tw16959036711743775721 tw4755762725167895415 tw13560738166474003889 tw16690391452618129634 tw235652334742169820 tw17001081474950041802 tw5047477640189651771 tw9680704054930510365 tw4693944511978423746 tw7027387952086237678 tw3081666071509364470 tw2904423116179452732 tw6461561555174653569 tw14956578000347033314 tw8142516609716827046 tw4428962901653317369 tw14189057244689445848 tw15774213768266991309 tw12356433931833497500 tw16581289134632424700 tw10884212129086503250 tw13319606833296463416 tw2283969768350332976 tw1491515602164575697 tw7821791878379766691 tw13750585144885971157 tw4520126917558571333 tw4381202799223483670 tw10484151677892753449 tw3814237709611928620 tw14063662163252464007 tw8632228714282999290 tw11561913475654342734 tw6357095377918994368 tw6788022656365272234 tw15014712091172799340 tw11657829521260678285 tw351235327369129553 tw16177561318047431270 tw17969748919637616707 tw5095301556478464788 tw11356357523551263416 tw10119948118099240835 tw12887330052355973656 tw7098846430220520961 tw6225114207218263664 tw3014657042370632721 tw6038363057803019593 tw5842661622326359945 tw5430802792274520669 tw18398845179325720934 tw3853070846524517693 tw9304969420876144364 tw6110178153435597693 tw4123861828916813115 tw12052811108898190166 tw17046375494151552236 tw12727745017695511703 tw15908742485768414470 tw13862760105150079512 tw13431301785164310579 tw3722782346468873597 tw17760855150804823542 tw8619637409653448372 tw8396378692662715275 tw13175005521508904905 tw13963676424259627535 tw5694097059773549885 tw3806869673232561555 tw14144450281358401701 tw2691521913471554756 tw14202507807904559535 tw7264346930682562104 tw14872867388208074322 tw3056288930039480121 tw11680514033199087991 tw3057889707486672983 tw1236727465374751180 tw15661593279202034119 tw12984117155189350262 tw15724084431604050360 tw12624200857831340063 tw9814039714989435977 tw8576051421213753567 tw5801960647307931400 tw1001103923602488461 tw5197201362661478874 tw14317384524950010581 tw6381583583557526697 tw14912372009215634132 tw3335689641357807240 tw13327690042336054779 tw11647192082263506425 tw15994733583460958484 tw882838459202971711 tw13421353367690582554 tw10142792779505318965 tw11811879876301546952 tw11477258305062916512 tw4901851459256897323 tw4450708129226603907 tw1758496500803327255 tw12805719443897991392 tw15115256220386559698 tw16880720567379249079 tw5709004669079786614 tw1054384459699142314 tw14198858624504259766 tw5098288362094525327 tw16577385713880344480 tw14507459620511601502 tw3576294034114163758 tw16942755558041174370 tw10398386649258672980 tw14749876595443530001 tw3356375768025463753 tw10403205742801838533 tw10282521943420391528 tw10659917892864349146 tw11074947666221060757 tw14559563653849487445 tw7795321744527536627 tw14371935453374733452 tw17591917361001111653 tw10462556589211157861 tw8183793387463478783 tw13763490049141578932 tw15297212428312878978 tw9260912646500178852 tw975455608798738010 tw13733888667685817536 tw11232149981851783081 tw8545110867179128317 tw11008814010216909337 tw14942699550616214503 tw8702246598649075181 tw12071247047286453474 tw8083499554417231554 tw3392098098813444025 tw18187296846477298060 tw3202726195936097990 tw16158021045453762996 tw14818817912210243211 tw14241542816349140763 tw17339737024236595217 tw10505891247652448788 tw10759909770673281422 tw9476967292680073238 tw2607504082758663985 tw9009111079906520546 tw9763057733452934448 tw6237993244177308438 tw17367521155296044669 tw9157158792629112061 tw13875805099997343122 tw179568228281373222 tw4758695266224628231 tw5620785606166683749 tw7035369830007400871 tw8715707518969891032 tw15205590870398051035 tw12259347121473906494 tw17123028600907404439 tw9605469623631201070 tw15207302619847120796 tw9352537814145102136 tw2518290461094116079 tw11302422949286022053 tw17350299077348576446 tw7225258710362690828 tw253541245235977204 tw16049814382120011918 tw14144184630675084839 tw10558722432991028423 tw15679645083699320866 tw16481461943409499546 tw12470447877303374596 tw16650207533159995345 tw4718842132982288255 tw9474154721434735242 tw17819566645946528351 tw8733265886981987914 tw14686704606194527753 tw15620322381193887400 tw12772309721425119257 tw6659025152302742500 tw15341874989154377419 tw1761533937042771727 tw816952373723355625 tw12421282578628187002 tw4765845484013511983 tw18151374762280916555 tw8187541340389847847 tw12325192775794846299 tw4301474226688115083 tw15604275094044394070 tw6742351028917364226 tw1145569894902319763 tw837377532488205103 tw17542446551313697941 tw18370288435073777275 tw8278382464131465651 tw2410265176200929695 tw1504413221655634904 tw10460049431727078221 tw9096577547042114085 tw8351534203332517724 tw6104249884793752559 tw15934455980509399635 tw10633084418836453955 tw973748942954874452 tw6742605846446998443 tw18377910663696668386 tw5265773036000599797 tw12756286755613556575 tw17702983405678947677 tw1579135490268690451 tw3070515345620122536 tw9173240236778207192 tw17914322260470813650 tw714061973197470205 tw2830498550019415052 tw17150987449147904174 tw7981094399463489142 tw17310521951896915481 tw7752488975308159584 tw16552318475536449530 tw8362553548315494566 tw17512976450073638824 tw1479874329744593876 tw4326151939698184906 tw17676719272309644081 tw14165411987282225044 tw5548567531863383512 tw18049038541075179520:True)
section
open PySem PySem.W PyProof.Rows
local macro_rules|`(tactic|o_law)=>`(tactic|have:=zzw)|`(tactic|k_head)=>`(tactic|k_headS)|`(tactic|w_witness2)=>`(tactic|exact⟨[.list [.int 1]],by decide +kernel,by decide +kernel⟩)
set_option maxHeartbeats 0
open_top zzh for PySem.Challenge.rw_countedchances_s01_answers
end
theorem Z{A:Sort _}{a:A}:a=a:=rfl
open Option renaming some->aa,none->ae
open Bool renaming true->ai,false->az
open Array renaming append_empty->yG,forIn_toList->ab7,getElem?_eq_getElem->ni,getElem?_eq_none->uF,getElem?_eq_some_iff->nj,getElem?_toList->nk,length_toList->fP,toList->B8,toList_push->G8
open Bool renaming and_eq_false_iff->Ss,and_eq_true->fQ,and_eq_true_iff->B9,and_false->B_,beq_comm->yH,beq_eq_decide_eq->G9,decide_and->sZ,eq_false_iff->uG,eq_iff_iff->gu,false_and->Su,false_eq_true->wh,false_ne_true->cZ,false_or->G_,noConfusion->ke,not_eq_true'->Ca,or_eq_true->wj,or_false->Cb,true_and->yI,true_or->Ha
open Classical renaming propDecidable->Cc
open Except renaming map->ab8,ok->s_
open ForInStep renaming yield->yJ
open Int renaming fdiv_eq_ediv_of_nonneg->Hb,le_of_lt->yK,le_of_mul_le_mul_right->Hd,le_trans->Cd,mul_eq_zero->He,mul_le_mul_of_nonneg_right->Hf,natAbs_natCast->wk,natCast_add->yL,natCast_ediv->fR,natCast_emod->Ce,natCast_mul->fH,natCast_pow->Hg,ofNat->Hh,ofNat_dvd_left->Hj,toNat->Hk,toNat_natCast->cI,toNat_of_nonneg->yM,zero_add->yN,zero_mul->Cf
open List renaming toArray->tAr,Perm->Hl,all_cons->yO,all_eq_true->jE,any_cons->l7,any_eq_false->yP,any_eq_true->qG,append_assoc->kf,append_eq_nil_iff->Hm,append_nil->l8,cons_append->uH,contains_cons->yQ,contains_iff_mem->yR,count_cons->Cg,drop->Ci,dropWhile->Hn,drop_drop->kS,drop_eq_getElem_cons->tf,drop_eq_nil_of_le->wm,drop_length->Cj,drop_one->Ho,drop_succ_cons->wq,drop_zero->Sv,eq_nil_of_length_eq_zero->Hq,eraseIdx_cons_succ->Hr,ext_getElem?->l9,filterMap_cons->Ck,filterMap_cons_some->Hs,filter_append->Cm,filter_congr->Ht,filter_cons->yS,filter_map->Hu,find?_cons->ab9,findIdx?_eq_none_iff->Hv,findIdx?_eq_some_iff_getElem->yT,flatMap_append->Hw,flatMap_cons->l_,flatMap_def->Cn,flatMap_nil->Co,flatten_append->Cp,flatten_cons->wt,foldl->Hx,foldl_append->tj,foldl_cons->ma,forIn_cons->Sy,forIn_nil->ab_,getD_eq_getElem?_getD->Hy,getElem?_append_left->yU,getElem?_append_right->Cq,getElem?_cons_succ->aca,getElem?_cons_zero->Cr,getElem?_drop->Cs,getElem?_eq_getElem->aY,getElem?_eq_none->fz,getElem?_eq_some_iff->bx,getElem?_map->bL,getElem?_mapIdx->wu,getElem?_range->wx,getElem?_replicate->Hz,getElem?_set->HA,getElem?_set_ne->yV,getElem?_set_self->yW,getElem?_take_of_lt->HB,getElem?_toArray->Sz,getElem?_zipWith->Ct,getElem_mem->ff,getLast?_cons_cons->HC,head?->HD,head?_cons->HE,head?_drop->HF,length->tm,length_append->b6,length_cons->bP,length_drop->gY,length_eq_zero_iff->Cu,length_eraseIdx_of_lt->Cv,length_filter_le->HG,length_map->aJ,length_mapIdx->yX,length_nil->uI,length_range->me,length_replicate->Cw,length_set->yY,length_singleton->kT,length_take->gw,length_zipWith->Cy,lookup->mh,lookup_cons->tp,mapM_cons->HH,map_append->bR,map_congr_left->i9,map_cons->b7,map_const'->Cz,map_drop->CA,map_id'->CD,map_id->HI,map_map->eU,map_nil->kU,map_replicate->uJ,map_set->HJ,map_take->CF,mem_append->df,mem_append_left->kg,mem_append_right->gZ,mem_cons->bM,mem_cons_of_mem->bI,mem_cons_self->bH,mem_filter->HK,mem_filterMap->HL,mem_iff_getElem?->kh,mem_map->bK,mem_of_getElem?->dg,mem_of_mem_drop->CG,mem_of_mem_take->qH,mem_range->gx,mem_singleton->cj,nil_append->HM,nodup_append->oV,nodup_cons->nq,nodup_nil->mi,not_mem_nil->dB,of_mem_zip->yZ,pairwise_cons->HN,pairwise_iff_getElem->CH,pairwise_lt_range->HP,pairwise_map->HQ,range->fg,range_eq_range'->HR,range_succ->y1,replicate->cR,replicate_succ'->HU,replicate_succ->y2,set->aN,size_toArray->dG,sum_append->tq,sum_cons->kW,tail_cons->HV,takeWhile->qI,takeWhile_cons_of_neg->CI,takeWhile_cons_of_pos->tr,take_add_one->qJ,take_append_drop->HW,take_length->eV,take_of_length_le->mj,take_zero->HX,zip->tu,zipIdx_cons->acb,zipIdx_nil->acd,zipWith->oW,zipWith_cons_cons->HY
open List.Pairwise renaming nil->HZ
open List.Perm renaming cons->H_
open Nat renaming Coprime->ml,add_assoc->tw,add_comm->qK,add_mul->qL,add_zero->uK,coprime_div_gcd_div_gcd->wy,div_add_mod->y3,div_eq_of_lt->Ia,div_le_self->oX,div_lt_iff_lt_mul->CJ,div_pos->uL,dvd_mul_left->nt,dvd_refl->Ib,dvd_trans->tB,eq_zero_or_pos->CK,gcd->bj,gcd_comm->Ic,gcd_dvd_left->qM,gcd_dvd_right->kX,gcd_pos_of_pos_left->y4,gcd_pos_of_pos_right->kY,lcm->Ie,le_add_right->kZ,le_mul_of_pos_left->y6,le_mul_of_pos_right->wz,le_of_dvd->mq,le_of_eq->oY,le_of_lt->tD,le_of_succ_le->y8,le_refl->bb,le_succ->qO,le_trans->bF,lt_irrefl->i_,lt_of_le_of_lt->tE,lt_of_lt_of_le->eW,lt_succ_of_lt->ki,lt_succ_self->iH,lt_trans->gy,min_eq_left->qP,mod_eq_of_lt->uM,mod_lt->nu,mul_add->uN,mul_add_div->Ig,mul_add_mod->Ih,mul_assoc->jF,mul_comm->d5,mul_div_cancel_left->f7,mul_le_mul->nv,mul_le_mul_left->y9,mul_le_mul_right->ja,mul_one->tF,mul_pos->gA,mul_zero->y_,ne_of_gt->fh,ne_of_lt->c6,not_lt->f9,not_lt_zero->ny,one_le_two_pow->za,one_mul->jG,pos_of_dvd_of_pos->Ii,pos_of_mul_pos_left->tG,pos_of_ne_zero->Ij,pow_add->qQ,pow_le_pow_right->oZ,pow_succ->zb,pow_zero->Ik,repr->qS,succ_mul->uO,toDigits->zc,zero_add->o7,zero_le->c7,zero_mul->uP
open Nat.Coprime renaming coprime_dvd_left->zd,coprime_dvd_right->ze,mul_left->CL,mul_right->zf
open Ne renaming symm->bG
open NeutralIO renaming bytes->Il
open Option renaming bind_some->Im,getD_none->Io,getD_some->CM,isSome_iff_exists->Ip,isSome_map->Iq,isSome_some->Ir,map_eq_some_iff->Iu,map_some->uQ,none->Iv
open Option.some renaming inj->bf,injEq->uR
open Or renaming inl->zg,inr->wA
open Prod renaming fst->d7
open Prod.mk renaming inj->qT
open PyFlat renaming call->tH,calls->mr,played->zh,row->zi,rows->uS,told->tI
open PyProof.Rows renaming AllBare->qU,IntsAre->kj,Subscript_->CN,callWith_type1->tJ,envOfC->jH,floordiv_int->Iw,importsNone->Iy,subscriptTail->SA,subscriptTail_builtinR->Iz
open PyProof.Rows.F renaming entry_set_update_loop->IA,plain_set_update_loop->SD
open PySem renaming Addr->af,Around->iI,BindsTo->wB,Builtin->fi,DictEntry->uT,ElemsOf->zj,Env->eN,ExceptHandler->IB,Expr->bW,FuncData->kl,GenState->IC,Heap->aU,IntMulOk->CO,IsItemIter->uU,IsItemIterOut->SE,IsPair->d8,IsRangeIter->SF,IsZip->jI,Keyword->wC,NameKind->wD,Obj->bN,Operator->ID,OsState->IE,Params->wF,Pos->iJ,Program->gB,PyData->g_,ReadsAll->CP,Result->wG,Scope->fS,Shared->aT,Stmt->f_,Str->au,Value->aE,WalksS->zk,Within->uV,World->aS,ZipApart->nz,argBest->CQ,argsOk->IF,arm_exec_Raise->ace,assign->wH,assignEach->qV,attributeBase->o8,backTo->fA,backToKw->CS,behindInMarks->zl,binaryOp->nA,bindArgs->CT,bootBuiltins->hA,builtinLookup_eq_fast->acf,builtinsNs->zm,cLine->gC,call->IG,callAny->CU,callSpecial?->IH,callWith->II,call_list_seq->IJ,call_meets->nB,call_meetsIn->IK,call_zip_2->CV,callerA->wI,cellsFrom->eH,codeAny->gD,codeAny_builtin->qW,codeAny_call_builtin->zo,codeAny_call_builtin_at->IL,codeAny_call_builtin_code->IM,codeAny_compStart_list->IP,codeAny_exc_new_subT->IQ,codeAny_handlers_test->CW,codeAny_mono->o9,codeAny_of_tree->zq,compEnvC->eB,compPost->wJ,compareOp->hG,comprehension->IS,entryFor->wK,entryFor_alias->CY,entryFor_of_tree->IT,entry_typeCall->IU,eval->bT,evalArgs_none->IV,eval_ListComp->acg,excClassObj->qX,findBy->tK,firstArgMember->ach,fitsIndex_both->IW,fits_of_scanBound->CZ,foldedSetIterable->uW,getAttr->wL,getD_mem->IX,getItem->tL,getMethod->C4,getattributeRaised->IY,holding->qY,intBits_le_64->uX,intItems->C5,intItems_at->IZ,interactive->I_,isInstance->uY,isSubtype_stop->zr,isSubtype_type->SG,isTrue->wM,keywordEach->C6,letOwnedTupleGo->C7,loadIfAlive->Ja,mainGlobals->o_,mem_of_lookup->jb,method_meetsIn->Jb,model->aH,newExc->SI,newFunctionEnv->Jc,newList->C8,newTuple->SJ,noteFrame->qZ,notedBy->tM,numAt_eq->zu,nums_intItems->C9,onTheHeap->Jd,operate->C_,passOn->SK,pastItsLine_dict->Dc,plainId_quiet->uZ,plainObj_wpAny_Assign_Attribute->Dd,pushCells->q7,pushCells_keeps->wN,pyIter->pb,pyNext->km,raiseNew->SM,rawInt->fB,recursionLimit->u0,scanBound->u4,seqIndex?->wO,seqIndex_neg->De,seqIndex_of->Df,setAddHashed->SN,setAttr->u5,setField->Dg,setFlight->zv,setItem->zw,setsByText->aci,sizeLine->bp,sizeLine_eq->bQ,sliceBounds->tN,spliced->Dh,standAt->Di,starEach->cq,storeName->Dj,subscripted->zx,swapsWith->pd,sysModules->jc,tupleKind->wQ,tupleKind_room_in1->Dk,typeIs_int->Dl,typeLookup->u6,typeLookup_type->acj,valueAt->u7,wpAny->aG,wpAny_Call_Name_kw->q_,wpAny_Call_method->Dm,wpAny_Dict_empty->Je,wpAny_Name->Dn,wpAny_Try_except->Dq,wpAny_alloc->Dr,wpAny_askSetting->wR,wpAny_assign_Name->Jf,wpAny_attempt->mu,wpAny_bind->aj,wpAny_call->rf,wpAny_callSpecial?_slot->k7,wpAny_call_entry->iK,wpAny_check_new_subT->Jg,wpAny_check_type_call_sub->Jh,wpAny_comprehension_free->Ji,wpAny_dictEntries->Ds,wpAny_dictEpoch->Dt,wpAny_excMatches_sub_self->Jj,wpAny_execs_cons->Jk,wpAny_execs_nil->u9,wpAny_field->eC,wpAny_fieldsOf->u_,wpAny_getItem_of->Jl,wpAny_handleBy_cons->Du,wpAny_handled->Dv,wpAny_holding->gE,wpAny_isInstance->wU,wpAny_isOneOf_itemiter->Dx,wpAny_isSubtype_exc->wV,wpAny_letGo->zy,wpAny_letOwnedTupleGo_items->Jm,wpAny_letOwnedTupleGo_zip->Jn,wpAny_loadPart->Dy,wpAny_loadPart_at->k8,wpAny_lookBehind->Dz,wpAny_madeBy_exc->Jo,wpAny_mono->eD,wpAny_newObj_type->jd,wpAny_newTuple->DA,wpAny_nextOf_list_end->Jp,wpAny_nextOf_list_item->DB,wpAny_notOrdered_dict->Jq,wpAny_nsSet1->DC,wpAny_of_eq->wW,wpAny_onRaise->zz,wpAny_passesOwn->tO,wpAny_pure->aL,wpAny_pyIter_enum->Jr,wpAny_pyIter_list->DD,wpAny_pyIter_slot->DE,wpAny_pyIter_tuple->DF,wpAny_pyIter_zip->va,wpAny_pyNext_zip_end->Js,wpAny_pyNext_zip_item->Jt,wpAny_rule->pf,wpAny_runValue->Ju,wpAny_seqItems->kn,wpAny_setField->k9,wpAny_setField_rec->k_,wpAny_setFlight_none->Jv,wpAny_setState_of->rg,wpAny_specialOf->Jw,wpAny_standAt->tP,wpAny_storeSet_of->Jx,wpAny_throw->zA,wpAny_truthy_bool->vb,wpAny_typeNameOfWhole_itemiter->zB,wpAny_typeNameOf_itemiter->ack,wpAny_typeOf->zC,wpAny_updateSeq->Jy,wpAny_updateSeq_pair->DG
open PySem.Around renaming in1->acm,under->SO,under_plainId->DH
open PySem.AutoSeq1 renaming wpAny_loadPart'->Jz
open PySem.Builtin renaming pylongFrames->DI
open PySem.Builtin.Dict renaming pairItems->JA,showsAll->SQ,updateFrom->SR
open PySem.Builtin.Dict_items renaming ownedTupleFields->JB,ownedTupleIsFree->acn,ownsTuple->SU,pairFromOwner->aco
open PySem.Builtin.List renaming listExtendWith->JC,listSameRef->JD,listTooLong->wX
open PySem.Builtin.SmallTypes renaming nextOf->JE,ownedTupleHandOut->JF,ownedTupleIsFree->SV
open PySem.Calls renaming Name_function_global->JG,callWith_builtin->JH,evalArgs_plain->JI,spliced_cons->zD,spliced_nil->DJ
open PySem.Challenge renaming rw_countedchances_s01_answers->JJ
open PySem.Code renaming frames->acp,isFrame->SX,quiet_builtin->wY
open PySem.Data renaming dict->JK,seq->JL
open PySem.EntryCells renaming newEntry->SY
open PySem.F renaming args_dict_get_3->JM,args_dict_itemiterator_next_1->JN,args_dict_items_1->JO,args_list_extend_2->JP,args_list_index_2->JQ,args_tuple_iterator_next_1->JR,args_zip_next_1->zE,attr_Exception->S_,called_set->rh,entry_dict_get->JS,entry_dict_itemiterator_next->JT,entry_dict_items->JU,entry_list_extend->JV,entry_list_index->JW,entry_tuple_iterator_next->JX,entry_zip_next->zF,excBase_Exception->JY,plainAttrs_dict->JZ,plainAttrs_list->eO,plain_list_iadd->J0,plain_set_new->Ta,slot_dict_get->DK,slot_dict_getitem->J7,slot_dict_itemiterator_next->wZ,slot_dict_items->zG,slot_dict_items_iter->J8,slot_int_rmul->J9,slot_list_append->je,slot_list_count->J_,slot_list_extend->rj,slot_list_index->zH,slot_set_iter->Ka,slot_tuple_iterator_next->zI,slot_zip_getattribute->DL,slot_zip_next->rm,type_dict_items->Kb,type_list_append->jf,type_list_extend->vc,type_list_index->Kc
open PySem.Heap renaming ExtBut->Kd,IsList->Ke,Ns->Kf,SameBut->jJ,get?_push_of_some->bq,get?_push_size->cJ,get?_update_other->jK,get?_update_self->ko,lt_size->bA,size_push->dS,size_update->zJ,update_setField_same->Kg
open PySem.Heap.DictOf renaming new->Kh
open PySem.Heap.Ns1 renaming of_empty->Ki
open PySem.Heap.SameBut renaming refl->Kj,update->rn
open PySem.NameKind renaming cell->Kk,free->w6
open PySem.Obj renaming cls_mapFields->zK,data_mapFields->jg,isFreed_of_fields->tQ,mapFields->tR,mapSeq->ro,putSet->DM
open PySem.Paired renaming length->bS,snoc->eX
open PySem.PassesOwn renaming leaving->kq,never->dM
open PySem.PyData renaming canLayAll0->Kl,depthAll->DN,eqv->hJ,eqvAll->Km,int->DO
open PySem.PylongRoom renaming of->Kn
open PySem.SeerAt renaming of->Ko
open PySem.SeqAt renaming EqAt->hU,canLay_of_shaped->zL,in_listAt->Kp,list_indexAt->Kq,notIn_listAt->Kr,shaped->ku
open PySem.SeqAt.EqAt renaming int_str->Ks,str_int->Kt
open PySem.SetTable renaming below->gc,grown->vd,has->Ku,laid->Kv,probe->Tc,slot->Kw
open PySem.SetTable.below renaming go->zM
open PySem.SetTable.probe renaming go->DP
open PySem.Shared renaming TypeIs->zN,heap->Td
open PySem.Str renaming length_append->Kx,ofString->dy
open PySem.Value renaming bool->Te,builtin->zO,bytes->Tg,float->Th,int->Ky,isInt->mv,isInt_shape->DQ,isStrOf->Kz,none->jL,ref->dH,str->KA,type->rq
open PySem.Value.type renaming inj->KC
open PySem.W renaming Codec->KD,Frag->aP,InstAt->KG,OpenSpec->Ti,ReadsAllW->DR,ReadsW->ph,WData->hX,WRecords->Tj,WalkOS->KH,WellAll->rr,any_some->DS,callWith_K->zP,callWith_K0->DT,cellsFrom_some->KI,clsIn->DU,codeIn->zQ,emptyDict->ve,findIn->fU,findObj_own->KJ,fnOf->pj,handedIn->KL,hasDictIn->tS,instObj->vf,isFn->zR,kcp_self->KN,keepIn->nE,ktu_apart->zS,length_le_weightAllW->KO,lookIn->zT,looks_clsIn->DV,looks_findIn->w8,looks_mroIn->KP,makesIn->KQ,methodObj->Tn,mroIn->KR,plainGet->zU,plainGet_of->DW,plainOver->KS,takerIn->vg
open PySem.W.Codec renaming app->zV,denoteAll->acq,encAll->w9,withinAll->KU
open PySem.W.Looks renaming here->DX
open PySem.W.WData renaming int->KW,weightAll->zW
open PySem.Within renaming cons->DY
open PySem.pickOrder renaming go->DZ
open PyVaprbp renaming answers->w_,answers_asked->D0,calls->KY,shape->lg,whole->KZ
open String renaming toList_append->K0,toList_ofList->zX
open Sum renaming inl->fV,inr->rz
open Sum.inl renaming inj->zY
open True renaming intro->vh
open UInt8 renaming ofNat->pq,ofNat_toNat->K1,toNat_inj->D1,toNat_lt->K2,toNat_ofNat'->K3
open VaprbBase renaming BEYOND->lh,Bytes->cA,Fault->D3,Frac->cK,Kind->eE,NAME->D4,NUMBER->D5,PName->nF,PTok->h_,RESERVED->zZ,SIGNS->xa,TEXT->K4,Tok->z0,Toks->cB,frac->aW,fracRow->kv,isBlank->kx,isDigit->dh,isLetter->ky,joined->vi,nameNext->z3,next->To,numberOf->tT,showInt->vj,showKind->rA,takeKind->lj,takeName->nG,takeNum->pw,takeSign->lp,token->D6,tokens->D7,valuesOf->ia,word->gF
open VaprbBase.Frac renaming add->D_,le->Ea,mul->Eb,ofInt->z4,one->vk,prod->tU,sum->ib,zero->K5
open VaprbBase.Tok renaming name->vl,sign->vm
open VaprbBase.Val renaming flag->acr,num->K6
open Vaprbp renaming Answer->vn,COLUMNS->z6,Call->z7,Chances->cx,Held->jh,Model->dz,PARENTS->Ec,Raw->ic,Row->K7,State->nH,allVals->mw,bestOf->z8,chanceOf->xb,chancesAnswer->K8,columnsOf->ji,countsAnswer->z9,countsOf->K9,dropAnswer->K_,entries->px,evenChances->tV,evenly->rB,expectAnswer->z_,expectedIn->pA,fillAnswer->Ed,fitAnswer->La,fracAnswer->Lc,gapsSize->ie,hopeless->rC,index->Aa,kinds->aq,likelihood->Ee,nameOf->gG,numberOf_->my,ofColumn->rD,ofRow->xc,parentsAt->Ef,parentsOf->pB,postAnswer->Eg,read->nI,refused->xg,rowAnswer->Eh,rowChance->xh,setAnswer->Ld,sharesAll->Ei,showColumn->tW,sizeOf_->aD,step->eI,stepAnswer->Le,stepped->Ej,takeColumn->mB,takeColumns->iL,takeModel->ig,takeParents->lq,tooLong->Ab,weighed->Ek
open Vaprbp.Model renaming shown->El
open VaprbpNeutral renaming asked1->Ac,bytes?->Lf,callOf->Lg,encode->iM,natural->Lh,step->rE,whole60->vo
def kz:=@beq_eq_false_iff_ne
def fJ:=@beq_iff_eq
def Li:=@beq_self_eq_true
def d9:=@decide_eq_decide
def bO:=@decide_eq_false
def xi:=@decide_eq_false_iff_not
def bX:=@decide_eq_true
def Ae:=@decide_eq_true_eq
def fD:=@decide_eq_true_iff
def pC:=@if_false
def aw:=@if_neg
def aC:=@if_pos
def pD:=@if_true
def Af:=@not_or
def rF:=@of_decide_eq_true
def Ag:=@or_false
section
set_option tactic.hygienic false
set_option hygiene false
local macro_rules|`(tactic|rcases $e:term with $p:rcasesPatMed)=>`(tactic|(refine Classical.byContradiction fun zzq=>?_;obtain $p:rcasesPatMed:=$e<;>refine zzq ?_))
local macro_rules|`(#[$x])=>`(⟨$x⟩)|`(#[$x,$y,*])=>`(⟨$x,$y,*⟩)
set_option hygiene true
section
open PySem PySem.Spec PyProof.Rows
variable {s s':aT}{pins:List (af×bN)}{apos cpos kpos p p2 pos pos' tpos:iJ}{A:iI}{E Q:aE->aT->Prop}{C a d dx f l:af}{b c e elt i0 i1 iter o t0 t1 tg value:bW}{P prog:gB}{acc it r u:aE}{K:aP}{h h' h1 h2:aU}{m name qual x:au}{elts es ifs ifs0 ifs1 rest:List bW}{ep i j k kk n t':Nat}{N ks ps:List au}{fd:kl}{scope:fS}{T id:String}{ds its us:List aE}{mA mg:au->Option aE}{st:f_}{env:eN}{M:Model}{R:wG->aT->Prop}{ch ex ex' fp fs':List af}{op:CmpOp}{kws:List wC}{nm:Option au}{hi lo:Option bW}{ns:List Int}{own:List (au×Nat)}{body:List f_}{pl:Sem Bool}{kw:List (au×aE)}{B:Prop}
namespace L2
abbrev Key:=Sum Int au
noncomputable def mC:Key->aE->Bool
 |.inl k,v=>mv k v
 |.inr x,v=>Kz x v
noncomputable def Tp(w:aS):Key->Int
 |.inl k=>hashInt k
 |.inr x=>hashStr w x
theorem nJ:∀{k}{v},mC k v=ai->(∃i t,k=fV i/\v=Ky i t)\/(∃x t,k=rz x/\v=KA x t)
 |.inl i,v,h=>by
  obtain⟨t,e⟩:=DQ h;exact .inl #[i,t,Z,e]
 |.inr x,v,h=>by
  obtain⟨t,e⟩:=aE.isStrOf_shape h;exact .inr #[x,t,Z,e]
theorem Tq i t:mC (.inl i) (.int i t)=ai:=by simp[mC,mv]
theorem Tr x t:mC (.inr x) (.str x t)=ai:=by simp[mC,Kz]
theorem Ts a b:decide ((fV a:Key)=fV b)=(a==b):=by
 by_cases e:a=b
 .subst e;simp
 .have h:¬(fV a:Key)=fV b:=λq=>e (zY q);rw[bO h];exact(kz.mpr e).symm
theorem Tt a b:decide ((rz a:Key)=rz b)=decide (a=b):=by
 by_cases e:a=b
 .simp
 .have h:¬(rz a:Key)=rz b:=λq=>e (rz.inj q);rw[bO h,bO e]
theorem Tu(a:Int)(b:au):decide ((fV a)=rz b)=az:=bO (λq=>nomatch q)
theorem Tv(a:au)(b:Int):decide ((rz a)=fV b)=az:=bO (λq=>nomatch q)
noncomputable def gH(prog:gB)(w:aS):PySem.KeyKind prog w Key where
 is:=mC
 hash:=Tp w
 inj:=λv a b I F=>by
  obtain⟨i,t,rfl,rfl⟩|⟨x,t,rfl,rfl⟩:=nJ I
  .obtain⟨j,u,rfl,e⟩|⟨y,u,rfl,e⟩:=nJ F
   .injection e with q _;rw[q]
   .exact nomatch e
  .obtain⟨j,u,rfl,e⟩|⟨y,u,rfl,e⟩:=nJ F
   .exact nomatch e
   .injection e with q _;rw[q]
 byValue:=λk v h=>by
  obtain⟨i,t,rfl,rfl⟩|⟨x,t,rfl,rfl⟩:=nJ h<;>rfl
 pyHash:=λz h=>by
  obtain⟨i,t,rfl,rfl⟩|⟨x,t,rfl,rfl⟩:=nJ z
  .exact wpAny_pyHash_int h
  .exact wpAny_pyHash_str h
 eqBool:=λG z h=>by
  obtain⟨i,t,rfl,rfl⟩|⟨x,t,rfl,rfl⟩:=nJ G
  .obtain⟨j,u,rfl,rfl⟩|⟨y,u,rfl,rfl⟩:=nJ z
   .rw[Ts] at h;exact wpAny_eqBool_int h
   .rw[Tu] at h;exact Ks i t y u _ _ _ _ h
  .obtain⟨j,u,rfl,rfl⟩|⟨y,u,rfl,rfl⟩:=nJ z
   .rw[Tv] at h;exact Kt x t j u _ _ _ _ h
   .rw[Tt] at h;exact wpAny_eqBool_str h
 «strs»:=λk x t v h=>by
  obtain⟨i,u,rfl,e⟩|⟨y,u,rfl,e⟩:=nJ h
  .exact nomatch e
  .injection e with q _
   subst q;cases v<;>rfl
theorem Tw prog w i t:(gH prog w).is (.inl i) (.int i t)=ai:=Tq i t
theorem Tx prog w x t:(gH prog w).is (.inr x) (.str x t)=ai:=Tr x t
inductive V where
 |bB|bl (b:Bool)|int (i:Int)|str (x:au)|gI (b:Array UInt8)|flt (b:UInt64)|ref (a:af)|ty (n:String)
 deriving DecidableEq
end L2
variable {v y:L2.V}{dvs vs xs ys zs:List L2.V}{kvs:List (L2.Key×L2.V)}{gV:List L2.V->List L2.V->List L2.V}
namespace L2
def RelV:V->aE->Prop
 |.bB,u=>u=jL
 |.bl b,u=>u=Te b
 |.int i,u=>∃t,u=Ky i t
 |.str x,u=>∃t,u=KA x t
 |.gI b,u=>∃t,u=Tg b t
 |.flt b,u=>∃t,u=Th b t
 |.ref a,u=>u=dH a
 |.ty n,u=>u=rq n
abbrev Vals:List V->List aE->Prop:=Paired RelV
theorem Vals.length(r:Vals xs us):xs.length=us.length:=bS r
theorem Vals.get:∀{xs}{us}{i:Nat}{x},Vals xs us->xs[i]? =aa x->∃u,us[i]? =aa u/\RelV x u
 |_,_,_,_,.nil,e=>by simp at e
 |_,_,0,_,.cons r _,e=>by simp at e;subst e;exact#[_,Z,r]
 |_,_,i+1,x,.cons _ t,e=>by
  obtain⟨u,h1,h2⟩:=Vals.get t (by simpa using e)
  exact#[u,by simpa using h1,h2]
theorem Vals.set{x}{u}(r:RelV x u):∀{xs}{us} i,Vals xs us->Vals (xs.set i x) (us.set i u)
 |_,_,_,.nil=>.nil
 |_,_,0,.cons _ t=>.cons r t
 |_,_,i+1,.cons q t=>.cons q (Vals.set r i t)
theorem Vals.append{xs ys}{us ws}(h:Vals xs us)(s:Vals ys ws):Vals (xs ++ys) (us ++ws):=by induction h with|nil=>exact s|cons r t f=>exact .cons r f
theorem Vals.take:∀{xs}{us} n,Vals xs us->Vals (xs.take n) (us.take n)
 |_,_,0,_=>.nil
 |_,_,_+1,.nil=>.nil
 |_,_,n+1,.cons r t=>.cons r (Vals.take n t)
theorem Vals.drop:∀{xs}{us} n,Vals xs us->Vals (xs.drop n) (us.drop n)
 |_,_,0,r=>r
 |_,_,_+1,.nil=>.nil
 |_,_,n+1,.cons _ t=>Vals.drop n t
def fW:Option V->Option aE->Prop
 |some v,aa u=>RelV v u
 |none,ae=>True
 |_,_=>False
def KV{κ:Type}:List (κ×V)->List (κ×aE)->Prop:=Paired λ(p:κ×V)(q:κ×aE)=>p.1=q.1/\RelV p.2 q.2
noncomputable def kV:Key->V
 |.inl i=>.int i
 |.inr x=>.str x
inductive HO where
 |lst (xs:List V)
 |tup (xs:List V)
 |dK (kvs:List (Key×V))|dT (kvs:List (List Key×V))
 |set (S:Int->Bool) (n:Nat)
 |ins (C dx:af) (fs:List (au×V))
 |own (x:af)
 |xd (fs:List (au×V))
 |met (f x:af)
 |rng (lo hi:Int)
 |cE (o:bN) (u:HO)
 |eY (ps:Array aE)
 |ext (φ:aU->Prop)
end L2
variable {o':L2.HO}
namespace L2
abbrev Hp:=af->Option HO
end L2
variable {H H' H1 H2:L2.Hp}
namespace L2
noncomputable def upd(H:Hp)(a:af)(o:HO):Hp:=λb=>if b=a then aa o else H b
theorem aA{o}:upd H a o a=aa o:=by delta upd;rw[aC Z]
theorem aB{b}{o}(h:b≠a):upd H a o b=H b:=by delta upd;rw[aw h]
theorem dI{o u}:upd (upd H a o) a u=upd H a u:=by
 funext b;delta upd;split<;>rfl
theorem Tz{b}{o u}(h:H a=aa o)(h':H b=aa u)(d:o≠u):a≠b:=by
 intro e;subst e;rw[h] at h';exact d (bf h')
theorem bc{b}{o}(h:H a=aa o)(h':H b=ae):a≠b:=by
 intro e;subst e;rw[h] at h';cases h'
section
variable (P:gB)(w:aS)
def dC(H:Hp)(h:aU)(a:af):HO->Prop
 |.lst xs=>xs.length<=bp/\∃(its:List aE)(n:Nat),Vals xs its/\h.get? a=aa {cls:=.type "list",data:=.seq its.toArray n}
 |.tup xs=>xs.length<=bp/\∃its:List aE,Vals xs its/\IsTup h a its.toArray
 |.dK kvs=>kvs.length<=bp/\(a==jc)=az/\∃vs,KV kvs vs/\h.DictOf (gH P w) a vs
 |.dT kvs=>kvs.length<=bp/\(a==jc)=az/\∃xs:List (List Key×af×aE),
   Paired (λ(p:List Key×V)(q:List Key×af×aE)=>p.1=q.1/\H q.2.1=aa (.tup (p.1.map kV))/\RelV p.2 q.2.2) kvs xs/\
   ∃o es ep,h.get? a=aa o/\o.ExactDict/\o.data=.dict es ep/\es.toList=xs.map (entryOfKey (wQ (gH P w)))/\(xs.map (·.1)).Nodup
 |.set S n=>h.SetOf (intKind P w) a S n
 |.ins C dx fs=>H dx=aa (.own a)/\fs.length<=1000/\dx≠a/\h.get? a=aa (vf C dx)/\
   ∃mA,h.Ns1 dx mA/\(∀f,fW (fs.lookup f) (mA f))/\uV mA (fs.map (·.1))
 |.own _=>∃o,h.get? a=aa o
 |.xd fs=>∃mA,h.Ns1 a mA/\∀f,fW (fs.lookup f) (mA f)
 |.rng lo hi=>∃t u v,h.get? a=aa {cls:=.type "range",data:=.fields (tAr [.int lo t,.int hi u,.int 1 v])}
 |.cE o u=>h.get? a=aa o/\dC H h a u
 |.eY ps=>h.get? a=aa {cls:=.none,data:=.fields ps}
 |.met f x=>h.get? a=aa (Tn (.ref f) (.ref x))
 |.ext φ=>φ h/\(∃o,h.get? a=aa o)/\∀h1 h2:aU,φ h1->(∀o,h1.get? a=aa o->h2.get? a=aa o)->φ h2
def cW(H:Hp)(h:aU):Prop:=∀a o,H a=aa o->dC P w H h a o
end
section
variable {w:aS}{o:HO}
theorem dC.lt(x:dC P w H h a o):a<h.objs.size:=by
 cases o with
 |lst xs=>obtain⟨_,_,_,_,e⟩:=x;exact bA e
 |tup xs=>obtain⟨_,_,_,p⟩:=x;exact p.lt
 |dK kvs=>obtain⟨_,_,_,_,o,_,_,e,_⟩:=x;exact bA e
 |dT kvs=>obtain⟨_,_,_,_,o,_,_,e,_⟩:=x;exact bA e
 |set S n=>obtain⟨o,_,_,_,e,_⟩:=x;exact bA e
 |ins C dx fs=>obtain⟨_,_,_,e,_⟩:=x;exact bA e
 |own y=>obtain⟨_,e⟩:=x;exact bA e
 |xd fs=>obtain⟨_,⟨_,_,_,e,_⟩,_⟩:=x;exact bA e
 |rng lo hi=>obtain⟨_,_,_,e⟩:=x;exact bA e
 |cE q u=>obtain⟨e⟩:=x;exact bA e
 |eY ps=>exact bA (x)
 |met f y=>exact bA (x)
 |ext φ=>obtain⟨_,⟨_,e⟩,_⟩:=x;exact bA e
theorem Paired.eJ{I z}{F G}{q:List I}{l₂:List z}(e:Paired F q l₂)(f:∀a b,F a b->G a b):Paired G q l₂:=by induction e with|nil=>exact .nil|cons r t g=>exact .cons (f _ _ r) g
theorem dC.ij(x:dC P w H h a o)(k:∀b u,(b=a\/H b=aa (.own a))->h.get? b=aa u->h'.get? b=aa u)(J:∀b,H b=aa (.own a)->H' b=aa (.own a))(I:∀b xs,H b=aa (.tup xs)->H' b=aa (.tup xs)):dC P w H' h' a o:=by
 induction o with
 |lst xs=>obtain⟨z,its,n,r,e⟩:=x;exact#[z,_,n,r,k _ _ (.inl Z) e]
 |tup xs=>obtain⟨z,its,r,F,e,c⟩:=x;exact#[z,_,r,F,k _ _ (.inl Z) e,c]
 |dK kvs=>obtain⟨z,y,vs,r,F,es,ep,e,c⟩:=x;exact#[z,y,vs,r,F,es,ep,k _ _ (.inl Z) e,c]
 |dT kvs=>
  obtain⟨z,y,xs,r,F,es,ep,e,c⟩:=x;exact#[z,y,xs,Paired.eJ r λp q z=>#[z.1,I _ _ z.2.1,z.2.2],F,es,ep,k _ _ (.inl Z) e,c]
 |set S n=>obtain⟨F,es,ep,t,e,c⟩:=x;exact#[F,es,ep,t,k _ _ (.inl Z) e,c]
 |ins C dx fs=>
  obtain⟨d,z,ne,e,mA,⟨od,es,ep,L,c⟩,r⟩:=x;exact#[J _ d,z,ne,k _ _ (.inl Z) e,mA,#[od,es,ep,k _ _ (.inr d) L,c],r]
 |own y=>obtain⟨F,e⟩:=x;exact#[F,k _ _ (.inl Z) e]
 |xd fs=>obtain⟨mA,⟨od,es,ep,e,c⟩,r⟩:=x;exact#[mA,#[od,es,ep,k _ _ (.inl Z) e,c],r]
 |rng lo hi=>obtain⟨t,u,v,e⟩:=x;exact#[t,u,v,k _ _ (.inl Z) e]
 |cE F u G=>obtain⟨e,q⟩:=x;exact#[k _ _ (.inl Z) e,G q]
 |eY ps=>
  have e:=x;exact k a _ (.inl Z) e
 |met f y=>
  have e:=x;exact k a _ (.inl Z) e
 |ext φ=>obtain⟨p,⟨o,e⟩,st⟩:=x;exact#[st _ _ p λo q=>k _ _ (.inl Z) q,#[o,k _ _ (.inl Z) e],st]
theorem cW.lt(x:cW P w H h)(e:H a=aa o):a<h.objs.size:=(x a o e).lt
theorem cW.fresh(x:cW P w H h)(e:h.objs.size<=a):H a=ae:=by
 cases q:H a with
 |none=>rfl
 |some u=>exact absurd (eW (x.lt q) e) (i_ _)
theorem cW.kept(x:cW P w H h)(k:∀b u,h.get? b=aa u->h'.get? b=aa u):cW P w H h':=λa o e=>
 (x a o e).ij (λb u y q=>k b u q) (λy q=>q) λy y q=>q
theorem cW.laid(x:cW P w H h)(k:∀b u,h.get? b=aa u->h'.get? b=aa u)(G:h.objs.size<=a)(new:dC P w (upd H a o) h' a o):cW P w (upd H a o) h':=λb u e=>by
 have z:=x.fresh G;by_cases F:b=a
 .subst F;rw[aA] at e;cases e;exact new
 .rw[aB F] at e;exact(x b u e).ij (λc v y q=>k c v q) (λc q=>by rwa[aB (bc q z)]) λc xs q=>by rwa[aB (bc q z)]
end
def Rd(H:Hp)(a:af)(u:HO):Prop:=H a=aa u\/∃o,H a=aa (.cE o u)
theorem Rd.ok{w}{u}(r:Rd H a u)(x:cW P w H h):dC P w H h a u:=by
 obtain r|⟨o,r⟩:=r
 .exact x a u r
 .obtain⟨_,q⟩:=x a _ r;exact q
def rG:Option HO->Prop
 |some (.lst _)=>True
 |some (.dK _)=>True
 |some (.dT _)=>True
 |some (.set _ _)=>True
 |some (.ins _ _ _)=>True
 |some (.ext _)=>True
 |_=>False
section
variable {w:aS}{x e:af}
theorem cW.write(ok:cW P w H h)(J:rG (H x))(V:e=x\/H e=aa (.own x))(k:∀b u,b≠e->h.get? b=aa u->h'.get? b=aa u)(S:∃u,h'.get? e=aa u)(new:dC P w (upd H x o') h' x o'):cW P w (upd H x o') h':=λb u q=>by
 have G:∀c y,H c=aa (.own y)->c≠x:=λc y r z=>by subst z;rwa[r] at J
 have I:∀c xs,H c=aa (.tup xs)->c≠x:=λc xs r z=>by subst z;rwa[r] at J
 by_cases O:b=x
 .subst O;rw[aA] at q;cases q;exact new
 .rw[aB O] at q;by_cases F:b=e
  .have U:H b=aa (.own x):=by
    obtain z|z:=V
    .exact absurd (F.trans z) O
    .rwa[F]
   rw[q] at U;cases U;obtain⟨v⟩:=S;exact#[v,by rwa[F]]
  .refine(ok b u q).ij (λc v L r=>k c v ?_ r) (λc r=>by rwa[aB (G c b r)]) λc xs r=>by rwa[aB (I c xs r)]
   obtain rfl|L:=L
   .exact F
   .rintro rfl;obtain z|z:=V
    .exact G c b L z
    .rw[L] at z;cases z;exact O Z
end
structure Un(fs ex:List af)(H H':Hp)(h h':aU):Prop where
 keep:∀b o,h.get? b=aa o->H b=ae->b∉fs->b∉ex->h'.get? b=aa o
 slot:∀b o,h.get? b=aa o->H b=ae->b∈fs->b∉ex->∃sl,h'.get? b=aa {o with slots:=sl}
 free:∀b o,h.get? b=aa o->H b=ae->b∉ex->H' b=ae
 there:∀b o,h.get? b=aa o->b∉ex->∃o',h'.get? b=aa o'
 jM:∀b xs,H b=aa (.tup xs)->H' b=aa (.tup xs)
 iN:∀b o u,H b=aa (.cE o u)->H' b=aa (.cE o u)
 jN:∀b ps,H b=aa (.eY ps)->∃more,H' b=aa (.eY (ps ++more))
section
variable {fs:List af}{x e:af}{o:HO}
theorem Un.any(u:Un fs ex H H1 h h1){b}{z}(q:h.get? b=aa z)(n:H b=ae)(hx:b∉ex):∃G,h1.get? b=aa {z with slots:=G}:=by
 by_cases F:b∈fs
 .exact u.slot b z q n F hx
 .exact#[_,u.keep b z q n F hx]
theorem Un.kept(k:∀b u,h.get? b=aa u->h'.get? b=aa u):Un fs ex H H h h':=
 #[λb z q x x x=>k b z q,λb z q x x x=>#[_,k b z q],λx x x n x=>n,λb z q x=>#[z,k b z q],λx x q=>q,λx x x q=>q,λx ps q=>#[#[],by rw[q];simp]]
theorem Un.refl:Un fs ex H H h h:=Un.kept λx x q=>q
theorem Un.laid(k:∀b u,h.get? b=aa u->h'.get? b=aa u)(F:h.objs.size<=a)(z:H a=ae):Un fs ex H (upd H a o) h h' where
 keep:=λb u q x x x=>k b u q
 slot:=λb u q x x x=>#[_,k b u q]
 free:=λb u q n x=>by rwa[aB (c6 (eW (bA q) F))]
 there:=λb u q x=>#[u,k b u q]
 jM:=λb xs q=>by rwa[aB (bc q z)]
 iN:=λb u xs q=>by rwa[aB (bc q z)]
 jN:=λb ps q=>#[#[],by rw[aB (bc q z),q];simp]
theorem Un.write(G:rG (H x))(O:e=x\/H e=aa (.own x))(k:∀b u,b≠e->h.get? b=aa u->h'.get? b=aa u)(J:∃u,h'.get? e=aa u):Un fs ex H (upd H x o) h h':=by
 have hx:∀b,H b=ae->b≠x:=λb n z=>by subst z;rwa[n] at G
 have L:∀b,H b=ae->b≠e:=λb n z=>by
  subst z;obtain r|r:=O
  .exact hx b n r
  .rw[n] at r;cases r
 have I:∀b u,H b=aa u->¬rG (aa u)->b≠x:=λb u q nm z=>by subst z;rw[q] at G;exact nm G
 refine#[λb u q n y y=>k b u (L b n) q,λb u q n y y=>#[_,k b u (L b n) q],λb u q n y=>by rwa[aB (hx b n)],λb u q y=>?_,
  λb xs q=>by rwa[aB (I b _ q λz=>z)],λb u xs q=>by rwa[aB (I b _ q λz=>z)],λb ps q=>#[#[],by rw[aB (I b _ q λz=>z),q];simp]]
 by_cases F:b=e
 .subst F;exact J
 .exact#[u,k b u F q]
end
noncomputable def trk(h:aU)(H:Hp):List af:=(fg h.objs.size).filter λa=>(H a).isSome
noncomputable def tX(h:aU)(H:Hp):aU:=PySem.W.hideAll h (trk h H)
theorem TB h H:(tX h H).objs.size=h.objs.size:=PySem.W.hideAll_size ..
theorem TC{b}{o}(e:h.get? b=aa o)(n:H b=ae):(tX h H).get? b=aa o:=
 PySem.W.hideAll_get _ e λz=>by
  have q:=(HK.mp z).2;rw[n] at q;simp at q
theorem TF{b}{o}(e:(tX h H).get? b=aa o):h.get? b=aa o/\H b=ae:=by
 have F:=PySem.W.of_hideAll _ e;exists F;cases q:H b with
 |none=>rfl
 |some x=>
  have G:b∈trk h H:=HK.mpr #[gx.mpr (bA F),by simp[q]]
  have z:(tX h H).get? b=ae:=PySem.W.hideAll_none _ G;rw[z] at e;cases e
structure Mod(K:aP)(mg:au->Option aE)(base:aU):Prop where
 kin:K.In base
 glob:base.Ns o_ mg
 blt:∃mb,base.Ns zm mb/\∀x:au,x≠"__name__"->mb x=hA x
 nolimit:base.NoLimit
 seer:base.NoSeer
structure Cx where
 prog:gB
 w:aS
 K:aP
 mg:au->Option aE
 base:aU
 A:iI
 N:List au
 fj:aT
 H_0:Hp
 env:eN
 outer:List eN
 stack:List eN
 ex:List af
 fn:au->Bool
 calm:Bool
 pn:List (af×bN)
 xe:aE->aT->Prop
end L2
variable {X:L2.Cx}
namespace L2
noncomputable def jO(l:List eN):List af:=l.filterMap (·.frame)
noncomputable abbrev Cx.fs(X:Cx):List af:=jO X.outer
def Vis(q:fS)(x:au):Prop:=q.names.lookup x=aa .local\/q.names.lookup x=aa .cell\/q.names.lookup x=aa .free
def Loc(q:fS)(x:au):Prop:=q.names.lookup x=aa .local\/q.names.lookup x=aa .cell
def Look(env:eN)(h:aU)(m:au->Option aE)(x:au)(u:aE):Prop:=
 (env.kindOf x=aa .local/\m x=aa u)\/((env.kindOf x=aa .cell\/env.kindOf x=aa .free)/\∃c,env.cells.lookup x=aa c/\h.IsCell c (aa u))
structure Cx.Ok(X:Cx):Prop where
 mod:Mod X.K X.mg X.base
 kind:X.env.scope.kind=.function
 glob:X.env.globals=o_
 blt:X.env.builtins=zm
 above:X.fj.heap.objs.size<=X.env.locals
 inj:∀x y c,X.env.cells.lookup x=aa c->X.env.cells.lookup y=aa c->x=y
 has:∀x,(X.env.kindOf x=aa .cell\/X.env.kindOf x=aa .free)->∃c,X.env.cells.lookup x=aa c
 nL:∀x c,X.fn x=ai->X.env.cells.lookup x=aa c->X.fj.heap.objs.size<=c
 hd:X.calm=ai->X.A.handled=ae
 frames:X.A.frames=aa X.stack
 pE:X.stack=X.outer\/(X.stack=X.env::X.outer/\X.env.frame=aa X.env.locals)
 mD:∀b∈X.ex,b≠X.env.locals/\∀x c,X.env.cells.lookup x=aa c->c≠b
 bs:∀b o,X.base.get? b=aa o->X.fj.heap.get? b=aa o/\X.H_0 b=ae
 jj:X.base.objs.size<=X.fj.heap.objs.size
 nM:∀b o,X.base.get? b=aa o->b∉X.ex
 mE:∀b∈X.ex,b∉X.fs
 gd:X.fj.heap.FunFrames X.base X.outer
 jP:∀b∈X.fs,X.H_0 b=ae
structure Inv(X:Cx)(pins:List (af×bN))(σ:List (Option V))(H:Hp)(s:aT):Prop where
 ok:X.Ok
 os:s.os=X.fj.os
 bare:qU s.gens
 base:Un X.fs X.ex X.H_0 H X.fj.heap s.heap
 loc:∃m,s.heap.Ns X.env.locals m/\∀(i:Nat)(x:au)(v:V),X.N[i]? =aa x->σ[i]? =aa (aa v)->Vis X.env.scope x->∃u,RelV v u/\Look X.env s.heap m x u
 cell:∀x c,X.env.cells.lookup x=aa c->∃v,s.heap.IsCell c v
 free:H X.env.locals=ae
 fK:∀x c,X.env.cells.lookup x=aa c->H c=ae
 pin:∀p∈X.pn ++pins,s.heap.get? p.1=aa p.2/\H p.1=ae/\p.1≠X.env.locals/\p.1∉X.fs/\∀v,p.2.data≠.cell v
 ax:cW X.prog X.w H s.heap
 len:σ.length=X.N.length
section
variable {σ:List (Option V)}
theorem Cx.Ok.TH(ok:X.Ok){b}{o}(e:X.base.get? b=aa o):b∉X.fs:=λq=>by
 have:=(ok.gd.mem q).1;rw[e] at this;cases this
theorem Inv.bs(I:Inv X pins σ H s):∀b o,X.base.get? b=aa o->s.heap.get? b=aa o/\H b=ae:=λb o e=>
 #[I.base.keep b o (I.ok.bs b o e).1 (I.ok.bs b o e).2 (I.ok.TH e) (I.ok.nM b o e),I.base.free b o (I.ok.bs b o e).1 (I.ok.bs b o e).2 (I.ok.nM b o e)]
theorem Inv.bk(I:Inv X pins σ H s):∀b o,X.base.get? b=aa o->s.heap.get? b=aa o:=λb o e=>(I.bs b o e).1
theorem Inv.mod(I:Inv X pins σ H s):Mod X.K X.mg X.base:=I.ok.mod
theorem Inv.dN(I:Inv X pins σ H s):X.K.In s.heap:=I.ok.mod.kin.keeps I.bk
theorem Inv.nolimit(I:Inv X pins σ H s):s.heap.NoLimit:=I.ok.mod.nolimit.keeps I.bk
theorem Inv.seer(I:Inv X pins σ H s):s.heap.NoSeer:=I.ok.mod.seer.keeps I.bk
theorem Inv.lt(I:Inv X pins σ H s):X.env.locals<s.heap.objs.size:=let ⟨_,q,_⟩:=I.loc;q.lt
theorem Inv.sz(I:Inv X pins σ H s):X.fj.heap.objs.size<=s.heap.objs.size:=bF I.ok.above (tD I.lt)
theorem Inv.TJ(I:Inv X pins σ H s)(h:s.heap.objs.size<=a):a∉X.fs:=λz=>by
 obtain⟨_,o,q,_⟩:=I.ok.gd.mem z;exact absurd (eW (bA q) (bF I.sz h)) (i_ _)
theorem Inv.rH(I:Inv X pins σ H s):∀x c,X.env.cells.lookup x=aa c->c≠X.env.locals:=λx c e z=>by
 obtain⟨v,o,G,hd⟩:=I.cell x c e;obtain⟨m,⟨o',es,ep,q,F,_⟩,_⟩:=I.loc;rw[z,q] at G;cases G;rw[F] at hd;cases hd
theorem Inv.gd(I:Inv X pins σ H s):s.heap.FunFrames X.base X.outer:=by
 have all:∀l,(∀b∈jO l,b∈X.fs)->X.fj.heap.FunFrames X.base l->s.heap.FunFrames X.base l:=by
  intro l
  induction l with
  |nil=>intro _ _;trivial
  |cons env r O=>
   intro J W;rcases W with⟨Y,⟨L,o,q,V,U,hd⟩,S⟩;have G:=J L (by delta jO;rw[Ck,q];exact bH)
   obtain⟨a,e⟩:=I.base.slot L o U (I.ok.jP L G) G λz=>I.ok.mE L z G;exact#[Y,#[L,_,q,V,e,hd],O (λb F=>J b (by delta jO;rw[Ck,q];exact bI _ F)) S]
 exact all _ (λx F=>F) I.ok.gd
theorem Inv.stack(I:Inv X pins σ H s):s.heap.FunFrames X.base X.stack:=by
 obtain e|⟨e,z⟩:=I.ok.pE
 .rw[e];exact I.gd
 .rw[e];obtain⟨m,q,_⟩:=I.loc;refine .cons (by rw[I.ok.kind];decide) z q ?_ I.gd
  exact aU.get?_none_of_le (bF I.ok.jj I.ok.above)
theorem Inv.Ah(I:Inv X pins σ H s):∀b∈jO X.stack,b∈X.env.locals::X.fs:=λb q=>by
 obtain e|⟨e,z⟩:=I.ok.pE
 .rw[e] at q;exact bI _ q
 .rw[e] at q;delta jO at q;rwa[Ck,z] at q
theorem Inv.vp(I:Inv X pins σ H s):∀b∈jO X.stack,H b=ae:=λb q=>by
 obtain e|q:=bM.mp (I.Ah b q)
 .rw[e];exact I.free
 .obtain⟨_,o,F,_⟩:=I.ok.gd.mem q;exact I.base.free b o F (I.ok.jP b q) λz=>I.ok.mE b z q
theorem Inv.step{g'}{d'}(I:Inv X pins σ H s)(G:∀b∈ch,(b∈X.ex\/X.fj.heap.objs.size<=b)/\b≠X.env.locals/\(∀x c,X.env.cells.lookup x=aa c->c≠b)/\∀p∈X.pn ++pins,p.1≠b)(keep:∀b o,b≠X.env.locals->b∉X.fs->b∉ch->s.heap.get? b=aa o->H b=ae->h'.get? b=aa o)(slot:∀b o,b≠X.env.locals->b∈X.fs->b∉ch->s.heap.get? b=aa o->H b=ae->∃Y,h'.get? b=aa {o with slots:=Y})(free:∀b o,b∉ch->s.heap.get? b=aa o->H b=ae->H' b=ae)(there:∀b o,b∉ch->s.heap.get? b=aa o->∃o',h'.get? b=aa o')(jM:∀b xs,H b=aa (.tup xs)->H' b=aa (.tup xs))(iN:∀b o u,H b=aa (.cE o u)->H' b=aa (.cE o u))(jN:∀b ps,H b=aa (.eY ps)->∃more,H' b=aa (.eY (ps ++more)))(ns:∀m,s.heap.Ns X.env.locals m->h'.Ns X.env.locals m)(ax:cW X.prog X.w H' h')(hg:qU g'):
  Inv X pins σ H' {s with heap:=h',gens:=g',drawn:=d',toks:=t'}:=by
 have U:∀b o,X.fj.heap.get? b=aa o->b≠X.env.locals:=λb o e=>c6 (eW (bA e) I.ok.above);have J:∀b o,X.fj.heap.get? b=aa o->b∉X.ex->b∉ch:=λb o e hx O=>by
  obtain z|z:=(G b O).1
  .exact hx z
  .exact absurd (eW (bA e) z) (i_ _)
 have cellK:∀x c,X.env.cells.lookup x=aa c->∀v,s.heap.IsCell c v->h'.IsCell c v:=λx c e v ⟨o,S,hd⟩=>by
  have F:=λz=>(G c z).2.2.1 x c e Z;by_cases hc:c∈X.fs
  .obtain⟨Y,q⟩:=slot c o (I.rH x c e) hc F S (I.fK x c e);exact#[_,q,hd]
  .exact#[o,keep c o (I.rH x c e) hc F S (I.fK x c e),hd]
 refine#[I.ok,I.os,hg,#[λb o e n O hx=>?_,λb o e n O hx=>?_,λb o e n hx=>?_,λb o e hx=>?_,λb xs e=>jM b xs (I.base.jM b xs e),λb o xs e=>iN b o xs (I.base.iN b o xs e),λb ps e=>?_],?_,λx c e=>?_,?_,λx c e=>?_,λp hp=>?_,ax,I.len]
 .exact keep b o (U b o e) O (J b o e hx) (I.base.keep b o e n O hx) (I.base.free b o e n hx)
 .obtain⟨Y,L⟩:=I.base.slot b o e n O hx;obtain⟨W,V⟩:=slot b _ (U b o e) O (J b o e hx) L (I.base.free b o e n hx);exact#[W,V]
 .obtain⟨o',L⟩:=I.base.there b o e hx;exact free b o' (J b o e hx) L (I.base.free b o e n hx)
 .obtain⟨o',L⟩:=I.base.there b o e hx;exact there b o' (J b o e hx) L
 .obtain⟨m1,L⟩:=I.base.jN b ps e;obtain⟨m2,V⟩:=jN b _ L;exact#[_,by rw[V,Array.append_assoc]]
 .obtain⟨m,hn,hl⟩:=I.loc;refine#[m,ns m hn,λi x v L V e3=>?_];obtain⟨u,r,l⟩:=hl i x v L V e3;exists u,r;obtain l|⟨k,c,e,z⟩:=l
  .exact .inl l
  .exact .inr #[k,c,e,cellK x c e _ z]
 .obtain⟨v,z⟩:=I.cell x c e;exact#[v,cellK x c e v z]
 .obtain⟨m,⟨o,_,_,S,_⟩,_⟩:=I.loc;exact free _ o (λz=>(G _ z).2.1 Z) S I.free
 .obtain⟨v,o,S,hd⟩:=I.cell x c e;exact free c o (λz=>(G c z).2.2.1 x c e Z) S (I.fK x c e)
 .obtain⟨e,n,ne,a,d⟩:=I.pin p hp;have F:=λz=>(G _ z).2.2.2 p hp Z;exact#[keep _ _ ne a F e n,free _ _ F e n,ne,a,d]
theorem Inv.un(I:Inv X pins σ H s)(u:Un X.fs [] H H' s.heap h')(ax:cW X.prog X.w H' h'):Inv X pins σ H' {s with heap:=h',toks:=t'}:=by
 rcases id I.loc with⟨m,⟨o,es,ep,L,r⟩,_⟩;obtain⟨U,S⟩:=u.any L I.free (by simp)
 exact I.step (ch:=[]) (λx z=>nomatch z) (λb o x F x e n=>u.keep b o e n F (by simp)) (λb o x F x e n=>u.slot b o e n F (by simp)) (λb o x e n=>u.free b o e n (by simp)) (λb o x e=>u.there b o e (by simp)) u.jM u.iN u.jN (λV O=>by
  obtain⟨o',G,J,q,r'⟩:=O;rw[L] at q;cases q;exact#[_,G,J,S,r']) ax I.bare
theorem Inv.call{g'}{d'}(I:Inv X pins σ H s)(u:Un (jO X.stack) ch H H' s.heap h')(ax:cW X.prog X.w H' h')(V:qU g')(G:∀b∈ch,(b∈X.ex\/X.fj.heap.objs.size<=b)/\b≠X.env.locals/\(∀x c,X.env.cells.lookup x=aa c->c≠b)/\∀p∈X.pn ++pins,p.1≠b):
  Inv X pins σ H' {s with heap:=h',gens:=g',drawn:=d',toks:=t'}:=by
 rcases id I.loc with⟨m,⟨o,es,ep,S,r⟩,_⟩;obtain⟨Y,J⟩:=u.any S I.free λz=>(G _ z).2.1 Z;exact I.step G (λb o J W q e n=>u.keep b o e n (λz=>(bM.mp (I.Ah b z)).elim J W) q) (λb o y y q e n=>u.any e n q) (λb o q e n=>u.free b o e n q) (λb o q e=>u.there b o e q) u.jM u.iN u.jN (λa U=>by
  obtain⟨o',L,O,F,r'⟩:=U;rw[S] at F;cases F;exact#[_,L,O,J,r']) ax V
theorem Inv.turned{it}(I:Inv X pins σ H s)(k:∀b o,b≠it->s.heap.get? b=aa o->h'.get? b=aa o)(O:H it=ae)(J:it≠X.env.locals)(h1:it∈X.ex\/X.fj.heap.objs.size<=it)(h2:∀x c,X.env.cells.lookup x=aa c->c≠it)(V:∀p∈X.pn ++pins,p.1≠it):Inv X pins σ H {s with heap:=h',toks:=t'}:=by
 have G:∀b u,H b=aa u->b≠it:=λb u e z=>by rw[z,O] at e;cases e
 refine I.step (ch:=[it]) (λb U=>?_) (λb o y y F e y=>k b o (λz=>F (by simp[z])) e) (λb o y y F e y=>#[_,k b o (λz=>F (by simp[z])) e]) (λy y y y n=>n)
  (λb o F e=>#[o,k b o (λz=>F (by simp[z])) e]) (λy y e=>e) (λy y y e=>e) (λb ps e=>#[#[],by rw[e];simp]) (λm S=>?_) (λb u e=>?_) I.bare
 .have e:=by simpa using U
  subst e;exact#[h1,J,h2,V]
 .obtain⟨o,es,ep,L,r⟩:=S;exact#[o,es,ep,k _ o (bG J) L,r]
 .refine(I.ax b u e).ij (λc v F q=>k c v ?_ q) (λy q=>q) λy y q=>q;obtain z|z:=F
  .rw[z];exact G b u e
  .exact G c _ z
theorem Inv.tok(I:Inv X pins σ H s) t:Inv X pins σ H {s with toks:=t}:=I.un Un.refl I.ax
theorem Inv.kept(I:Inv X pins σ H s)(k:∀b u,s.heap.get? b=aa u->h'.get? b=aa u):Inv X pins σ H {s with heap:=h',toks:=t'}:=I.un (Un.kept k) (I.ax.kept k)
theorem Inv.laid{o}(I:Inv X pins σ H s)(k:∀b u,s.heap.get? b=aa u->h'.get? b=aa u)(q:s.heap.objs.size<=a)(new:dC X.prog X.w (upd H a o) h' a o):
  Inv X pins σ (upd H a o) {s with heap:=h',toks:=t'}:=I.un (Un.laid k q (I.ax.fresh q)) (I.ax.laid k q new)
theorem Inv.write{x e}{o}(I:Inv X pins σ H s)(z:rG (H x))(F:e=x\/H e=aa (.own x))(k:∀b u,b≠e->s.heap.get? b=aa u->h'.get? b=aa u)(q:∃u,h'.get? e=aa u)(new:dC X.prog X.w (upd H x o) h' x o):Inv X pins σ (upd H x o) {s with heap:=h',toks:=t'}:=I.un (Un.write z F k q) (I.ax.write z F k q new)
theorem Inv.weak{q}(I:Inv X pins σ H s)(G:q.length=σ.length)(w:∀(i:Nat) v,q[i]? =aa (aa v)->σ[i]? =aa (aa v)):Inv X pins q H s:=
 #[I.ok,I.os,I.bare,I.base,let ⟨m,F,z⟩:=I.loc;#[m,F,λi x v O L J=>z i x v O (w i v L) J],I.cell,I.free,I.fK,I.pin,I.ax,G.trans I.len]
theorem Inv.Lj{q}(I:Inv X pins σ H s)(h:∀p∈q,s.heap.get? p.1=aa p.2/\H p.1=ae/\p.1≠X.env.locals/\p.1∉X.fs/\∀v,p.2.data≠.cell v):Inv X q σ H s:=
 #[I.ok,I.os,I.bare,I.base,I.loc,I.cell,I.free,I.fK,λp F=>(df.mp F).elim (λz=>I.pin p (kg _ z)) (h p),I.ax,I.len]
theorem Em(q:N.Nodup)(a:N[i]? =aa x)(b:N[j]? =aa x):i=j:=by
 obtain⟨h1,F⟩:=bx.mp a;obtain⟨h2,z⟩:=bx.mp b;exact(List.getElem_inj q).mp (F.trans z.symm)
theorem Lk{Q:Unit->aT->Prop}(I:Inv X pins σ H s)(hN:X.N.Nodup)(hi:X.N[i]? =aa x)(hx:Loc X.env.scope x)(r:RelV v u)(h:∀s',Inv X pins (σ.set i (aa v)) H s'->(∃a,jJ a s.heap s'.heap/\(a=X.env.locals\/X.env.cells.lookup x=aa a))->Q () s')(hf:X.fn x=ai\/X.env.scope.names.lookup x=aa .local:=by first|exact .inl Z|exact .inr Z|assumption):aG M A (Dj X.env x u) Q E s:=by
 obtain⟨m,hn,hl⟩:=id I.loc;have hcls:(X.env.scope.kind==.class ||(X.env.scope.kind==.module&&X.env.locals !=X.env.globals))=az:=by rw[I.ok.kind];rfl
 have U:i<σ.length:=by rw[I.len];exact(bx.mp hi).1
 have rH:=I.rH;have tracked:∀{a}{h'},(∃o,s.heap.get? a=aa o/\H a=ae)->jJ a _ h'->cW _ _ H h':=λha F b ob e=>by
  obtain⟨_,_,L⟩:=ha;refine(I.ax b ob e).ij (λc w' J q=>(F.2 c ?_).trans q) (λt q=>q) λt t q=>q;rintro rfl;obtain rfl|J:=J
  .rw[L] at e;cases e
  .rw[L] at J;cases J
 obtain S|S:=hx
 .refine wpAny_storeName_local S hn (λh' hn' F=>?_) hcls;rcases id hn with⟨oL,_,_,hoL,_⟩;refine h _ #[I.ok,I.os,I.bare,#[λb o e n Y hx=>?_,λb o e n Y hx=>?_,I.base.free,λb o e hx=>?_,I.base.jM,I.base.iN,I.base.jN],#[_,hn',λj y v' G O e3=>?_],λy c e=>?_,I.free,I.fK,λp hp=>?_,tracked #[oL,hoL,I.free] F,by simpa using I.len] #[_,F,.inl Z]
  .exact(F.2 b (c6 (eW (bA e) I.ok.above))).trans (I.base.keep b o e n Y hx)
  .obtain⟨sl,G⟩:=I.base.slot b o e n Y hx;exact#[sl,(F.2 b (c6 (eW (bA e) I.ok.above))).trans G]
  .obtain⟨o',G⟩:=I.base.there b o e hx;exact#[o',(F.2 b (c6 (eW (bA e) I.ok.above))).trans G]
  .by_cases V:j=i
   .subst V;rw[hi] at G;cases G;rw[yW U] at O;cases O;exact#[u,r,.inl #[S,by simp]]
   .rw[yV (bG V)] at O;rcases hl j y v' G O e3 with⟨u',r',q⟩;exists u',r';rcases q with⟨k,e⟩|⟨k,c,e,z⟩
    .refine .inl #[k,?_];have:y≠x:=λe=>V (Em hN G (e▸hi));simp[this,e]
    .exact .inr #[k,c,e,z.sameBut F (rH y c e)]
  .obtain⟨w',z⟩:=I.cell y c e;exact#[w',z.sameBut F (rH y c e)]
  .rcases I.pin p hp with⟨e,n,ne,nf,d⟩;exact#[(F.2 _ ne).trans e,n,ne,nf,d]
 .have W:X.fn x=ai:=by
   obtain z|z:=hf
   .exact z
   .rw[z] at S;cases S
  obtain⟨c,J⟩:=I.ok.has x (.inl S);obtain⟨w',z⟩:=I.cell x c J;refine wpAny_storeName_cell I.ok.kind S J z (λh' hc' F=>?_);obtain⟨oc,hoc,f⟩:=id z;refine h _ #[I.ok,I.os,I.bare,#[λb o e n Y hx=>?_,λb o e n Y hx=>?_,I.base.free,λb o e hx=>?_,I.base.jM,I.base.iN,I.base.jN],#[m,hn.sameBut F (bG (rH x c J)),λj y v' G O e3=>?_],λy c' e=>?_,I.free,I.fK,λp hp=>?_,tracked #[oc,hoc,I.fK x c J] F,by simpa using I.len] #[c,F,.inr J]
  .exact(F.2 b (c6 (eW (bA e) (I.ok.nL x c W J)))).trans (I.base.keep b o e n Y hx)
  .obtain⟨sl,G⟩:=I.base.slot b o e n Y hx;exact#[sl,(F.2 b (c6 (eW (bA e) (I.ok.nL x c W J)))).trans G]
  .obtain⟨o',G⟩:=I.base.there b o e hx;exact#[o',(F.2 b (c6 (eW (bA e) (I.ok.nL x c W J)))).trans G]
  .by_cases V:j=i
   .subst V;rw[hi] at G;cases G;rw[yW U] at O;cases O;exact#[u,r,.inr #[.inl S,c,J,hc']]
   .rw[yV (bG V)] at O;obtain⟨u',r',q⟩:=hl j y v' G O e3;exists u',r';obtain q|⟨k,c',e,z'⟩:=q
    .exact .inl q
    .refine .inr #[k,c',e,z'.sameBut F ?_];rintro rfl;exact V (Em hN G (I.ok.inj _ _ _ e J▸hi))
  .by_cases hcc:c'=c
   .subst hcc;exact#[_,hc']
   .obtain⟨w2,z2⟩:=I.cell y c' e;exact#[w2,z2.sameBut F hcc]
  .rcases I.pin p hp with⟨e,n,ne,nf,d⟩;refine#[(F.2 _ ?_).trans e,n,ne,nf,d];intro q;rw[q,hoc] at e;have q':=bf e;exact d w' (by rwa[<-q'])
theorem En{Q:Unit->aT->Prop}(I:Inv X pins σ H s)(z:X.N.Nodup)(hi:X.N[i]? =aa x)(hx:Loc X.env.scope x)(r:RelV v u)(h:∀s',Inv X pins (σ.set i (aa v)) H s'->Q () s')(q:X.fn x=ai\/X.env.scope.names.lookup x=aa .local:=by first|exact .inl Z|exact .inr Z|assumption):aG M A (Dj X.env x u) Q E s:=
 Lk I z hi hx r (λs' F y=>h s' F) q
theorem Inv.tY(I:Inv X pins σ H s)(z:s'.os=s.os)(u:Un (jO X.stack) ch H H' s.heap s'.heap)(ax:cW X.prog X.w H' s'.heap)(F:qU s'.gens)(q:∀b∈ch,(b∈X.ex\/X.fj.heap.objs.size<=b)/\b≠X.env.locals/\(∀x c,X.env.cells.lookup x=aa c->c≠b)/\∀p∈X.pn ++pins,p.1≠b):Inv X pins σ H' s':=by
 obtain⟨h',g'⟩:=s';have e:=z;subst e;exact I.call u ax F q
end
abbrev XK:=aE->Option af->Hp->Prop
abbrev St:=List (Option V)
end L2
variable {σ:L2.St}
namespace L2
abbrev VK:=V->Hp->Prop
abbrev TE:=St->Hp->VK->Prop
end L2
variable {ta tb tc td te to tv tx:L2.TE}
namespace L2
abbrev TT:=St->Hp->(Bool->Hp->Prop)->Prop
end L2
variable {tA tB' tt:L2.TT}
namespace L2
abbrev TA:=St->Hp->(List V->Hp->Prop)->Prop
end L2
variable {t tk:L2.TA}
namespace L2
structure Ends where
 nx:St->Hp->Prop
 rt:VK
 bk:St->Hp->Prop:=λ_ _=>False
 ct:St->Hp->Prop:=λ_ _=>False
end L2
variable {D:L2.Ends}
namespace L2
abbrev TS:=Ends->St->Hp->Prop
inductive EP(X:Cx)(pins:List (af×bN))(σ:St)(Q:VK)(u:aE)(s':aT):Prop|m:∀v H',Inv X pins σ H' s'->RelV v u->Q v H'->EP X pins σ Q u s'
inductive TP(X:Cx)(pins:List (af×bN))(σ:St)(Q:Bool->Hp->Prop)(b:Bool)(s':aT):Prop|m:∀H',Inv X pins σ H' s'->Q b H'->TP X pins σ Q b s'
inductive AP(X:Cx)(pins:List (af×bN))(σ:St)(Q:List V->Hp->Prop)(us:List aE)(s':aT):Prop|m:∀vs H',Inv X pins σ H' s'->Vals vs us->Q vs H'->AP X pins σ Q us s'
def SP(X:Cx)(pins:List (af×bN))(D:Ends)(f:Flow)(s':aT):Prop:=
 match f with
 |.next=>∃q H',Inv X pins q H' s'/\D.nx q H'
 |.brk=>∃q H',Inv X pins q H' s'/\D.bk q H'
 |.cont=>∃q H',Inv X pins q H' s'/\D.ct q H'
 |.ret u=>∃v q H',Inv X pins q H' s'/\RelV v u/\D.rt v H'
def PE(X:Cx)(e:bW)(t:TE):Prop:=
 ∀(pins:List (af×bN))(s:aT)(σ:St)(H:Hp)(Q:VK),Inv X pins σ H s->t σ H Q->aG (aH X.prog X.w) X.A (bT e X.env) (EP X pins σ Q) X.xe s
def PT(X:Cx)(e:bW)(t:TT):Prop:=
 ∀(pins:List (af×bN))(s:aT)(σ:St)(H:Hp)(Q:Bool->Hp->Prop),Inv X pins σ H s->t σ H Q->aG (aH X.prog X.w) X.A (wM e X.env (bT e X.env)) (TP X pins σ Q) X.xe s
def PW(X:Cx)(e:bW)(t:TT):Prop:=
 ∀(whole:Sem aE)(pins:List (af×bN))(s:aT)(σ:St)(H:Hp)(Q:Bool->Hp->Prop),Inv X pins σ H s->t σ H Q->aG (aH X.prog X.w) X.A (wM e X.env whole) (TP X pins σ Q) X.xe s
theorem PW.pt{t}(h:PW X e t):PT X e t:=h _
def PA(X:Cx)(es:List bW)(t:TA):Prop:=
 ∀(pos:iJ)(pins:List (af×bN))(s:aT)(σ:St)(H:Hp)(Q:List V->Hp->Prop),Inv X pins σ H s->t σ H Q->aG (aH X.prog X.w) X.A (Dh (fA pos (cq es X.env))) (AP X pins σ Q) X.xe s
def PS(X:Cx)(st:f_)(t:TS):Prop:=
 ∀(pins:List (af×bN))(s:aT)(σ:St)(H:Hp)(D:Ends),Inv X pins σ H s->t D σ H->aG (aH X.prog X.w) X.A (exec st X.env) (SP X pins D) X.xe s
def fE(X:Cx)(st:List f_)(t:TS):Prop:=
 ∀(pins:List (af×bN))(s:aT)(σ:St)(H:Hp)(D:Ends),Inv X pins σ H s->t D σ H->aG (aH X.prog X.w) X.A (execs st X.env) (SP X pins D) X.xe s
theorem ba{q}{t}{Q z:q->aT->Prop}(h:aG M A t Q E s)(F:∀a s,Q a s->z a s):aG M A t z E s:=eD h F λy y x=>x
section
inductive fF(i:Nat)(σ:St)(H:Hp)(Q:VK):Prop|m:∀v,σ[i]? =aa (aa v)->Q v H->fF i σ H Q
def tC(v:V):TE:=λx H Q=>Q v H
theorem TK(U:X.N[i]? =aa x)(J:Vis X.env.scope x)(hd:(x==("__debug__":au))=az:=by decide)(F:(x==("__classdict__":au))=az:=by decide):PE X (.Name x pos) (fF i):=by
 intro pins s y H Q I h;obtain⟨v,e,h⟩:=h;obtain⟨m,L,S⟩:=I.loc;obtain⟨u,r,l⟩:=S i x v U e J;have fin:EP X _ y Q u s:=#[v,H,I,r,h];rcases l with⟨z,O⟩|⟨z,c,G,q⟩
 .exact Dn (wpAny_loadName_local I.ok.kind z L O fin) hd
 .obtain z|z:=z
  .exact Dn (wpAny_loadName_cell I.ok.kind z G q fin) hd
  .exact Dn (wpAny_loadName_free I.ok.kind z G q fin F) hd
theorem aX{i j pos}:PE X (.Constant (.int i) j pos) (tC (.int i)):=λx x x H x I h=>wpAny_Constant_int #[.int i,H,I.tok _,#[_,Z],h]
theorem rJ{b j pos}:PE X (.Constant (.bool b) j pos) (tC (.bl b)):=λx x x H x I h=>Constant_bool #[.bl b,H,I,Z,h]
theorem Ll:PE X (.Constant .none j pos) (tC .bB):=λx x x H x I h=>Constant_none #[.bB,H,I,Z,h]
theorem iO:PE X (.Constant (.str x) j pos) (tC (.str x)):=λy y y H y I h=>Calls.Constant_str #[.str x,H,I.tok _,#[_,Z],h]
def Gl(X:Cx)(x:au):Prop:=X.env.kindOf x=aa .globalImplicit
theorem pF(I:Inv X pins σ H s)(z:Gl X x)(q:X.mg x=aa u)(h:Q u s)(hd:(x==("__debug__":au))=az:=by decide):aG (aH X.prog X.w) X.A (bT (.Name x pos) X.env) Q E s:=
 JG I.ok.kind z (Calls.loadGlobal_global (by rw[I.ok.glob];exact I.mod.glob.keeps I.bk) q h) hd
theorem rK(I:Inv X pins σ H s)(G:Gl X x)(F:X.mg x=ae)(q:hA x=aa u)(h:Q u s)(z:x≠"__name__":=by decide)(hd:(x==("__debug__":au))=az:=by decide):aG (aH X.prog X.w) X.A (bT (.Name x pos) X.env) Q E s:=by
 obtain⟨J,h1,h2⟩:=I.mod.blt;exact JG I.ok.kind G (Calls.loadGlobal_builtin (by rw[I.ok.glob];exact I.mod.glob.keeps I.bk) F (by rw[I.ok.blt];exact h1.keeps I.bk) ((h2 x z).trans q) h) hd
theorem vq(z:Gl X x)(q:X.mg x=aa u)(r:RelV v u)(hd:(x==("__debug__":au))=az:=by decide):PE X (.Name x pos) (tC v):=
 λy y y H y I h=>pF I z q #[v,H,I,r,h] hd
variable {a:bW}
def Lm(t u:TT):TT:=λσ H Q=>t σ H λc H1=>if c=ai then u σ H1 Q else Q az H1
def tOr(t u:TT):TT:=λσ H Q=>t σ H λc H1=>if c=ai then Q ai H1 else u σ H1 Q
def TL(t:TT):TT:=λσ H Q=>t σ H λc H1=>Q (!c) H1
theorem rL(q:PT X a tA):PW X (.BoolOp .And [a] pos) tA:=by
 intro z pins s x H Q I h;refine isTrue_and (ba (q _ s x H Q I h) λc F e=>?_);cases c with
 |true=>exact isTrue_and_nil e
 |false=>exact e
theorem rM(q:PT X a tA):PW X (.BoolOp .Or [a] pos) tA:=by
 intro z pins s x H Q I h;refine isTrue_or (ba (q _ s x H Q I h) λc F e=>?_);cases c with
 |false=>exact isTrue_or_nil e
 |true=>exact e
theorem pG(L:PT X a tA)(J:PW X (.BoolOp .And (b::rest) pos) tB'):PW X (.BoolOp .And (a::b::rest) pos) (Lm tA tB'):=by
 intro F pins s x H Q I h;refine isTrue_and (ba (L _ s x H _ I h) λc G ⟨H1,z,q⟩=>?_);cases c with
 |true=>exact J F _ G x H1 Q z q
 |false=>exact#[H1,z,q]
theorem pH(L:PT X a tA)(J:PW X (.BoolOp .Or (b::rest) pos) tB'):PW X (.BoolOp .Or (a::b::rest) pos) (tOr tA tB'):=by
 intro F pins s x H Q I h;refine isTrue_or (ba (L _ s x H _ I h) λc G ⟨H1,z,q⟩=>?_);cases c with
 |true=>exact#[H1,z,q]
 |false=>exact J F _ G x H1 Q z q
theorem lr(z:PT X a tA):PT X (.UnaryOp .Not a pos) (TL tA):=by
 intro pins s y H Q I h;exact isTrue_not (ba (z _ s y H _ I h) λx x ⟨H',F,q⟩=>#[H',F,q])
inductive Ln(tb:TE)(σ:St)(Q:VK)(x:V)(H1:Hp):Prop|m:∀c,x=.bl c->(if c=ai then Q (.bl ai) H1 else tb σ H1 Q)->Ln tb σ Q x H1
def TM(ta tb:TE):TE:=λσ H Q=>ta σ H (Ln tb σ Q)
theorem TN{op}{t}(h:PE X a t):PE X (.BoolOp op [a] pos) t:=λpins s x H Q I hw=>BoolOp_one (h _ s x H Q I hw)
theorem TQ(L:PE X a ta)(J:PE X (.BoolOp .Or (b::rest) pos) tb):PE X (.BoolOp .Or (a::b::rest) pos) (TM ta tb):=by
 intro pins s y H Q I h;refine BoolOp_or (ba (L _ s y H _ I h) λv F ⟨x,H1,z,G,q⟩=>?_);obtain⟨c,rfl,q⟩:=q;cases G;apply vb;cases c with
 |false=>exact J _ F y H1 Q z q
 |true=>exact#[.bl _,H1,z,Z,q]
def tIf(t:TT)(ta tb:TE):TE:=λσ H Q=>t σ H λc H1=>if c=ai then ta σ H1 Q else tb σ H1 Q
theorem Lo(G:PT X c tA)(L:PE X a ta)(J:PE X b tb):PE X (.IfExp c a b pos) (tIf tA ta tb):=by
 intro pins s x H Q I h;refine wpAny_IfExp (ba (G _ s x H _ I h) λd q ⟨H1,F,z⟩=>?_);cases d with
 |true=>exact L _ q x H1 Q F z
 |false=>exact J _ q x H1 Q F z
end
def ao(K:aP)(H:Hp)(a:af)(xs:List V):Prop:=
 Rd H a (.lst xs)\/
  ∃(o:bN)(its:Array aE)(n:Nat),K.lookup a=aa o/\o.cls=.type "list"/\o.dict=ae/\o.data=.seq its n/\its.size<=bp/\Vals xs its.toList
def cM(K:aP)(H:Hp)(a:af)(xs:List V):Prop:=
 Rd H a (.tup xs)\/
  ∃(o:bN)(its:Array aE)(n:Nat),K.lookup a=aa o/\o.cls=.type "tuple"/\o.data=.seq its n/\its.size<=bp/\Vals xs its.toList
noncomputable def TR:aE->Option V
 |.none=>aa .bB
 |.bool b=>aa (.bl b)
 |.int i _=>aa (.int i)
 |.str x _=>aa (.str x)
 |.bytes b _=>aa (.gI b)
 |.float b _=>aa (.flt b)
 |.ref a=>aa (.ref a)
 |.type n=>aa (.ty n)
 |_=>ae
theorem RelV.abs{x}(r:RelV x u):TR u=aa x:=by
 cases x with
 |bB=>cases r;rfl
 |bl _=>cases r;rfl
 |int _=>obtain⟨t,rfl⟩:=r;rfl
 |str _=>obtain⟨t,rfl⟩:=r;rfl
 |gI _=>obtain⟨t,rfl⟩:=r;rfl
 |flt _=>obtain⟨t,rfl⟩:=r;rfl
 |ref _=>cases r;rfl
 |ty _=>cases r;rfl
theorem RelV.inj{x}(r:RelV x u)(q:RelV y u):x=y:=bf (r.abs.symm.trans q.abs)
theorem Vals.inj{xs ys}{us}(h:Vals xs us)(g:Vals ys us):xs=ys:=by induction h generalizing ys with|nil=>cases g;rfl|cons r t f=>cases g with|cons s t=>rw[r.inj s,f t]
theorem ao.of(h:H a=aa (.lst xs)):ao K H a xs:=.inl (.inl h)
theorem cM.of(h:H a=aa (.tup xs)):cM K H a xs:=.inl (.inl h)
theorem Inv.list(I:Inv X pins σ H s)(h:ao X.K H a xs):∃its:List _,Vals xs its/\PlainL s.heap a its.toArray/\xs.length<=bp:=by
 rcases h with h|⟨o,its,n,F,G,hd,q,hz,r⟩
 .rcases h.ok I.ax with⟨z,its,n,r,e⟩;exact#[_,r,#[_,n,e,Z,Z,Z],z]
 .exists _,r,#[o,n,I.dN a o F,G,hd,by simpa using q]
  have e:=r.length;simp[fP] at e;simp_all
theorem Inv.tuple(I:Inv X pins σ H s)(h:cM X.K H a xs):∃its:List _,Vals xs its/\IsTup s.heap a its.toArray/\xs.length<=bp:=by
 rcases h with h|⟨o,its,n,F,G,q,hz,r⟩
 .rcases h.ok I.ax with⟨z,its,r,p⟩;exact#[_,r,p,z]
 .exists _,r,#[o,I.dN a o F,G,n,by simpa using q]
  have e:=r.length;simp[fP] at e;simp_all
theorem Inv.xj(I:Inv X pins σ H s)(h:ao X.K H a xs)(h':ao X.K H a ys):xs=ys:=by
 obtain⟨its,r,⟨o,n,e,_,_,d⟩,_⟩:=I.list h;obtain⟨its',r',⟨o',F,q,_,_,d'⟩,_⟩:=I.list h';rw[e] at q;cases q;rw[d] at d';injection d' with z _
 have:=by simpa using congrArg B8 z
 subst this;exact r.inj r'
theorem Inv.Lp(I:Inv X pins σ H s)(h:cM X.K H a xs)(h':cM X.K H a ys):xs=ys:=by
 obtain⟨its,r,⟨o,e,_,n,d⟩,_⟩:=I.tuple h;obtain⟨its',r',⟨o',q,_,F,d'⟩,_⟩:=I.tuple h';rw[e] at q;cases q;rw[d] at d';injection d' with z _
 have:=by simpa using congrArg B8 z
 subst this;exact r.inj r'
noncomputable abbrev Cx.nN(X:Cx)(E:aE->aT->Prop):Cx:={X with xe:=E}
noncomputable abbrev Cx.nox(X:Cx):Cx:=X.nN λx x=>False
theorem Cx.Ok.nN(ok:X.Ok) E:(X.nN E).Ok:=
 #[ok.mod,ok.kind,ok.glob,ok.blt,ok.above,ok.inj,ok.has,ok.nL,ok.hd,ok.frames,ok.pE,ok.mD,ok.bs,ok.jj,ok.nM,ok.mE,ok.gd,ok.jP]
theorem Cx.Ok.rN(ok:(X.nN E).Ok):X.Ok:=
 #[ok.mod,ok.kind,ok.glob,ok.blt,ok.above,ok.inj,ok.has,ok.nL,ok.hd,ok.frames,ok.pE,ok.mD,ok.bs,ok.jj,ok.nM,ok.mE,ok.gd,ok.jP]
theorem Inv.nN(I:Inv X pins σ H s) E:Inv (X.nN E) pins σ H s:=#[I.ok.nN E,I.os,I.bare,I.base,I.loc,I.cell,I.free,I.fK,I.pin,I.ax,I.len]
theorem Inv.rN(I:Inv (X.nN E) pins σ H s):Inv X pins σ H s:=#[I.ok.rN,I.os,I.bare,I.base,I.loc,I.cell,I.free,I.fK,I.pin,I.ax,I.len]
theorem SP.rN{f}(h:SP (X.nN E) pins D f s'):SP X pins D f s':=by
 cases f with
 |next=>obtain⟨z,H',I,q⟩:=h;exact#[z,H',I.rN,q]
 |brk=>obtain⟨z,H',I,q⟩:=h;exact#[z,H',I.rN,q]
 |cont=>obtain⟨z,H',I,q⟩:=h;exact#[z,H',I.rN,q]
 |ret u=>obtain⟨v,z,H',I,r,q⟩:=h;exact#[v,z,H',I.rN,r,q]
theorem fE.nox{st}{t}(h:fE X.nox st t):fE X st t:=λpins s y H D I hw=>
 eD (h _ s y H D (I.nN _) hw) (λx x q=>q.rN) λx x z=>False.elim z
section
variable {rest:List f_}{t u:TS}
def di:TS:=λD σ H=>D.nx σ H
def cN(t u:TS):TS:=λD σ H=>t {D with nx:=u D} σ H
theorem cC:fE X [] di:=λx x y H x I h=>u9 #[y,H,I,h]
theorem ay(h1:PS X st t)(h2:fE X rest u):fE X (st::rest) (cN t u):=by
 intro pins s x H D I h;refine Jk (ba (h1 _ s x H _ I h) λf F q=>?_)
 cases f with
 |next=>
  rcases q with⟨z,H',G,q⟩;exact h2 _ F z H' D G q
 |ret v=>exact q
 |brk=>exact q
 |cont=>exact q
theorem aF(h1:PS X st t):fE X [st] t:=by
 intro pins s x H D I h;refine Jk (ba (h1 _ s x H D I h) λf z q=>?_);cases f with
 |next=>exact u9 q
 |ret v=>exact q
 |brk=>exact q
 |cont=>exact q
theorem Inv.quiet(I:Inv X pins σ H s):I_ X.env=az:=by simp[I_,I.ok.kind]
def Lq(te:TE):TS:=λD σ H=>te σ H λx H1=>D.nx σ H1
theorem dU(F:PE X e te)(z:pd e ae pos.line X.env=pure az:=by rfl):PS X (.Expr e pos) (Lq te):=by
 intro pins s y H D I h;exact wpAny_Expr_any (ba (F _ s y H _ I h) λv J ⟨x,H1,G,L,q⟩=>#[y,H1,G,q]) I.quiet z
def mF(te:TE):TS:=λD σ H=>te σ H D.rt
theorem aZ(F:PE X e te):PS X (.Return (aa e) pos) (mF te):=by
 intro pins s y H D I h;exact wpAny_Return_some (ba (F _ s y H _ I h) λv J ⟨x,H1,G,q,z⟩=>#[x,y,H1,G,q,z])
def Eo(c:TT)(t u:TS):TS:=λD σ H=>c σ H λb H1=>if b=ai then t D σ H1 else u D σ H1
theorem cy{a b}{tc}(G:PT X c tc)(L:fE X a t)(J:fE X b u):PS X (.If c a b pos) (Eo tc t u):=by
 intro pins s x H D I h;refine wpAny_If (ba (G _ s x H _ I h) λd q ⟨H1,F,z⟩=>?_);cases d with
 |true=>exact L _ q x H1 D F z
 |false=>exact J _ q x H1 D F z
end
abbrev TG:=V->St->Hp->(St->Hp->Prop)->Prop
end L2
variable {g:L2.TG}
namespace L2
abbrev TGs:=List V->St->Hp->(St->Hp->Prop)->Prop
def PG(X:Cx)(target:bW)(t:TG):Prop:=
 ∀(pins:List (af×bN))(s:aT)(σ:St)(H:Hp)(v:V)(u:aE)(Q:St->Hp->Prop),Inv X pins σ H s->RelV v u->t v σ H Q->
  aG (aH X.prog X.w) X.A (wH target X.env u) (λx s'=>∃q H',Inv X pins q H' s'/\Q q H') X.xe s
def PGs(X:Cx)(z:List bW)(t:TGs):Prop:=
 ∀(pins:List (af×bN))(s:aT)(σ:St)(H:Hp)(vs:List V)(us:List aE)(Q:St->Hp->Prop),Inv X pins σ H s->Vals vs us->t vs σ H Q->
  aG (aH X.prog X.w) X.A (assignInOrder ((qV z X.env).map (·.2)) us) (λx s'=>∃q H',Inv X pins q H' s'/\Q q H') X.xe s
abbrev xl:=V->V->V->Hp->(Hp->Prop)->Prop
def Ep(X:Cx)(t:xl):Prop:=
 ∀(pins:List (af×bN))(s:aT)(σ:St)(H:Hp)(o i v:V)(q z u:aE)(Q:Hp->Prop),Inv X pins σ H s->RelV o q->RelV i z->RelV v u->t o i v H Q->
  aG (aH X.prog X.w) X.A (zw q z u) (λx s'=>∃H',Inv X pins σ H' s'/\Q H') X.xe s
abbrev TIp:=V->V->Hp->VK->Prop
def PIp(X:Cx)(op:ID)(t:TIp):Prop:=
 ∀(pins:List (af×bN))(s:aT)(σ:St)(H:Hp)(x y:V)(v u:aE)(Q:VK),Inv X pins σ H s->RelV x v->RelV y u->t x y H Q->
  aG (aH X.prog X.w) X.A (inplaceOp op v u) (EP X pins σ Q) X.xe s
def aR(i:Nat):TG:=λv σ H Q=>Q (σ.set i (aa v)) H
theorem TU(z:X.N.Nodup)(hi:X.N[i]? =aa x)(hx:Loc X.env.scope x)(q:X.fn x=ai\/X.env.scope.names.lookup x=aa .local:=by first|exact .inl Z|exact .inr Z|assumption):PG X (.Name x pos) (aR i):=by
 intro pins s y H v u Q I r h;exact Jf (En I z hi hx r (λs' F=>#[_,H,F,h]) q)
def Lr:TGs:=λvs σ H Q=>vs=[]/\Q σ H
inductive Ai(t:TG)(u:TGs)(vs:List V)(σ:St)(H:Hp)(Q:St->Hp->Prop):Prop|m:∀v r,vs=v::r->(t v σ H λσ' H'=>u r σ' H' Q)->Ai t u vs σ H Q
theorem gJ:PGs X [] Lr:=by
 intro pins s x H vs us Q I r h;obtain⟨e,h⟩:=h;subst e;exact assignInOrder_nil #[x,H,I,h]
theorem dj{t:TG}{u:TGs}(h1:PG X e t)(h2:PGs X es u)(J:(qV (e::es) X.env).map (·.2)=wH e X.env::(qV es X.env).map (·.2):=by rfl):PGs X (e::es) (Ai t u):=by
 intro pins s y H vs us Q I r h;obtain⟨v,S,L,h⟩:=h;subst L;cases r with
 |cons r F=>
  rw[J];refine assignInOrder_cons (ba (h1 _ s y H _ _ _ I r h) λx z ⟨q,H1,O,G⟩=>?_);exact h2 _ z q H1 _ _ Q O F G
inductive Aj(K:aP)(n:Nat)(t:TGs)(v:V)(σ:St)(H:Hp)(Q:St->Hp->Prop):Prop|m:∀a xs,v=.ref a->cM K H a xs->xs.length=n->t xs σ H Q->Aj K n t v σ H Q
theorem iP{t:TGs}(O:X.calm=ai)(h:PGs X es t)(J:(qV es X.env).length=n:=by rfl)(q:(qV es X.env).findIdx? (·.1)=ae:=by rfl):PG X (.Tuple es k pos) (Aj X.K n t):=by
 intro pins s x H v u Q I r hw;obtain⟨a,xs,S,G,L,hw⟩:=hw;subst S;cases r;obtain⟨its,z,F,hz⟩:=I.tuple G;refine assign_Tuple_tuple (I.ok.hd O) F (by simp[J,<-L,z.length]) q λh' hx=>?_
 have U:=I.kept (t':=s.toks) λb o e=>hx b o (c6 (bA e)) e
 exact h _ _ x H xs _ Q U (by simpa using z) hw
def TV(to q:TE)(t:xl):TG:=λv σ H Q=>to σ H λo H1=>q σ H1 λi H2=>t o i v H2 λz=>Q σ z
theorem TY{i:bW}{F:TE}{t:xl}(Y:PE X o to)(hi:PE X i F)(W:Ep X t)(Z:∀v,wH (.Subscript o i pos) X.env v=(do
   let q<-qY [v] (bT o X.env);let z<-qY [v,q] (bT i X.env)
   Di pos
   qY [v,q,z] (zw q z v)
   release [v,q,z] []):=by intro _;rfl):PG X (.Subscript o i pos) (TV to F t):=by
 intro pins s b H v u Q I r h;rw[Z];refine aj (gE (ba (Y _ s b H _ I h) λq J ⟨x,H1,I1,O,V⟩=>?_));refine aj (gE (ba (hi _ J b H1 _ I1 V) λz G ⟨y,H2,I2,L,U⟩=>?_));refine aj (tP (aj (gE (ba (W _ G b H2 x y v q z u _ I2 O L r U) λa s3 ⟨H3,I3,S⟩=>?_))));exact wpAny_release #[b,H3,I3,S]
def jk(te:TE)(g:TG):TS:=λD σ H=>te σ H λx H1=>g x σ H1 D.nx
theorem TZ(O:PE X e te)(L:PG X tg g)(J:swapsWithSole [tg] e pos.line X.env=pure az:=by rfl)(hw:swappedStores [tg] e X.env=pure ae:=by rfl)(h1:(qV [tg] X.env).map (·.2)=[wH tg X.env]:=by rfl):PS X (.Assign [tg] e pos) (jk te g):=by
 intro pins s a H D I h;refine wpAny_Assign_stores (ba (O _ s a H _ I h) λv z ⟨x,H1,S,F,G⟩=>?_) J hw;rw[h1];exact ba (L _ z a H1 x v _ S F G) λy U q=>q
theorem T1(L:X.N.Nodup)(hi:X.N[i]? =aa x)(hx:Loc X.env.scope x)(J:PE X e te)(F:pd e (aa (.Name x pos')) pos.line X.env=pure az:=by rfl)(G:X.fn x=ai\/X.env.scope.names.lookup x=aa .local:=by first|exact .inl Z|exact .inr Z|assumption):
  PS X (.Assign [.Name x pos'] e pos) (jk te (aR i)):=by
 intro pins s a H D I h;refine wpAny_Assign_Name (ba (J _ s a H _ I h) λv V ⟨y,H1,S,q,z⟩=>?_) F;exact En S L hi hx q (λU O=>#[_,H1,O,z]) G
def T2(to I te:TE)(F:V->V->Hp->VK->Prop)(G:TIp)(q:xl):TS:=λD σ H=>to σ H λo H1=>I σ H1 λi H2=>F o i H2 λx S=>te σ S λy O=>G x y O λz L=>q o i z L λJ=>D.nx σ J
def Ls(X:Cx)(t:V->V->Hp->VK->Prop):Prop:=
 ∀(pins:List (af×bN))(s:aT)(σ:St)(H:Hp)(o i:V)(q z:aE)(Q:VK),Inv X pins σ H s->RelV o q->RelV i z->t o i H Q->
  aG (aH X.prog X.w) X.A (tL q z) (EP X pins σ Q) X.xe s
theorem Lu{i:bW}{S:TE}{z:V->V->Hp->VK->Prop}{J:TIp}{q:xl}{op:ID}(ho:PE X o to)(hi:PE X i S)(hg:Ls X z)(he:PE X e te)(hp:PIp X op J)(hs:Ep X q)(ha:∀F G new,augStore i F G new=(do qY [new,F,G] (zw F G new);release [new,F,G] [];pure .next):=by intros;rfl):PS X (.AugAssign (.Subscript o i tpos) op e pos) (T2 to S te z J q):=by
 intro pins s y H D I h;refine wpAny_AugAssign_SubscriptAny (ba (ho _ s y H _ I h) λF s1 ⟨O,H1,I1,W,q1⟩=>?_) ha;refine ba (hi _ s1 y H1 _ I1 q1) λG s2 ⟨L,H2,I2,U,q2⟩=>?_;refine ba (hg _ s2 y H2 O L F G _ I2 W U q2) λold s3 ⟨x3,H3,I3,r3,q3⟩=>?_;refine ba (he _ s3 y H3 _ I3 q3) λv s4 ⟨a,H4,I4,r4,q4⟩=>?_;refine ba (hp _ s4 y H4 x3 a _ v _ I4 r3 r4 q4) λnew s5 ⟨Y,H5,I5,r5,q5⟩=>?_;exact ba (hs _ s5 y H5 O L Y F G _ _ I5 W U r5 q5) λx s6 ⟨H6,I6,q6⟩=>#[y,H6,I6,q6]
inductive ipI(f:Int->Int->Int)(x:V)(y:V)(H:Hp)(Q:VK):Prop|m:∀i j,x=.int i->y=.int j->Q (.int (f i j)) H->ipI f x y H Q
theorem Lv:PIp X .Add (ipI λi j=>i+j):=by
 intro pins s a H x y v u Q I F z h;obtain⟨i,j,J,G,q⟩:=h;subst J;subst G;obtain⟨t,rfl⟩:=F;obtain⟨t',rfl⟩:=z;exact iadd_int #[.int _,H,I.tok _,#[_,Z],q]
def Ak(c:TT)(tb:TS):TS:=λD σ H=>∃W:Nat->St->Hp->Prop,(∃m,W m σ H)/\∀m σ H,W m σ H->
 c σ H λb H1=>if b=ai then ∃N:St->Hp->Prop,(∀q H',N q H'->∃z,z<m/\W z q H')/\tb {D with nx:=N,ct:=N,bk:=D.nx} σ H1 else D.nx σ H1
theorem pI{tc}{tb}(Z:PassesOwn (aH X.prog X.w) X.A X.env X.xe)(hc:PT X c tc)(hb:fE X body tb):PS X (.While c body [] pos) (Ak tc tb):=by
 intro pins s y H D I h;rcases h with⟨W,⟨m0,w0⟩,turn⟩;refine wpAny_While (codeAny_whileLoop (λn s'=>∃F H',Inv X _ F H' s'/\W n F H') ?_ m0 #[y,H,I,w0]);rintro n s1 x;rcases x with⟨z,H1,I1,w1⟩;refine tO Z (ba (hc _ s1 z H1 _ I1 (turn n z H1 w1)) λb s2 ⟨H2,I2,L⟩=>?_);cases b with
 |true=>
  rcases L with⟨N,hN,L⟩;refine tO Z (ba (hb _ s2 z H2 _ I2 L) λf s3 J=>?_);cases f with
  |next=>
   rcases J with⟨q,G,Y,S⟩;rcases hN q G S with⟨U,V,O⟩;exact#[U,V,q,G,Y,O]
  |cont=>
   rcases J with⟨q,G,Y,S⟩;rcases hN q G S with⟨U,V,O⟩;exact#[U,V,q,G,Y,O]
  |brk=>exact J
  |ret v=>exact J
 |false=>
  exact u9 #[z,H2,I2,L]
structure It where
 go:Nat->Hp->Prop
 kA:Nat->Hp->V->Hp->Prop
 stop:Nat->Hp->Prop
def il(X:Cx)(pins:List (af×bN))(H:Hp)(b:af):Prop:=
 H b=ae/\b≠X.env.locals/\b∉X.fs/\(b∈X.ex\/X.fj.heap.objs.size<=b)/\(∀x c,X.env.cells.lookup x=aa c->c≠b)/\∀p∈X.pn ++pins,p.1≠b
theorem Inv.lu{b:af}(I:Inv X pins σ H s)(F:s.heap.objs.size<=b)(J:H' b=ae):il X pins H' b:=by
 refine#[J,fh (eW I.lt F),I.TJ F,.inr (bF I.sz F),λx c e z=>?_,λp G z=>?_]
 .obtain⟨v,q⟩:=I.cell x c e;exact absurd (eW q.lt (by rwa[z])) (i_ _)
 .exact absurd (eW (bA (I.pin p G).1) (by rwa[z])) (i_ _)
structure Turn(P:gB)(w:aS)(K:aP)(tg:bW)(J:It)(fp:List af)(it:af)(tn:Nat->aU->Prop):Prop where
 mem:it∈fp
 obj:∀i h,tn i h->∀b∈fp,∃o,h.get? b=aa o/\∀v,o.data≠.cell v
 keep:∀i h h',tn i h->(∀b∈fp,∀o,h.get? b=aa o->h'.get? b=aa o)->tn i h'
 item:∀(X:Cx),X.prog=P->X.w=w->X.K=K->X.calm=ai->∀(i:Nat)(pins:List (af×bN))(s:aT)(σ:St)(H:Hp)(E:aE->aT->Prop),Inv X pins σ H s->(∀b∈fp,il X pins H b)->tn i s.heap->J.go i H->
  aG (aH P w) X.A (km (.ref it)) (λr s1=>∃u,r=aa u/\
   aG (aH P w) X.A (C7 tg (.ref it) u) (λ_ s2=>∃x H',Inv X pins σ H' s2/\RelV x u/\J.kA i H x H'/\tn (i+1) s2.heap/\∀b∈fp,H' b=ae) E s1) E s
 done:∀(X:Cx),X.prog=P->X.w=w->X.K=K->X.calm=ai->∀(i:Nat)(pins:List (af×bN))(s:aT)(σ:St)(H:Hp)(E:aE->aT->Prop),Inv X pins σ H s->(∀b∈fp,il X pins H b)->tn i s.heap->J.stop i H->
  aG (aH P w) X.A (km (.ref it)) (λr s1=>r=ae/\Inv X pins σ H s1) E s
 self:∀(A:iI)(i:Nat)(s:aT)(Q:aE->aT->Prop)(E:aE->aT->Prop),tn i s.heap->Q (.ref it) s->aG (aH P w) A (pb (.ref it)) Q E s
abbrev TI:=St->Hp->(It->Hp->Prop)->Prop
end L2
variable {wi:L2.TI}
namespace L2
inductive PIE(X:Cx)(pins:List (af×bN))(σ:St)(tg:bW)(R:It->Hp->Prop)(itv:aE)(s2:aT):Prop|m:∀(it:af)(fp:List af)(tn:Nat->aU->Prop)(J:It)(H':Hp),itv=.ref it->Inv X pins σ H' s2->Turn X.prog X.w X.K tg J fp it tn->tn 0 s2.heap->(∀b∈fp,il X pins H' b)->R J H'->PIE X pins σ tg R itv s2
def PI(X:Cx)(tg iter:bW)(wi:TI):Prop:=
 ∀(pins:List (af×bN))(s:aT)(σ:St)(H:Hp)(R:It->Hp->Prop),Inv X pins σ H s->wi σ H R->
  aG (aH X.prog X.w) X.A (bT iter X.env) (λv q=>aG (aH X.prog X.w) X.A (pb v) (PIE X pins σ tg R) X.xe q) X.xe s
theorem Al{it}{o}{n}{vs}{Q}(z:s.heap.get? it=aa o)(G:o.cls=.type n)(hd:o.data=.fields vs)(F:["enumerate","zip","dict_itemiterator","dict_reverseitemiterator","odict_iterator","itertools.zip_longest","itertools.pairwise"].contains n=az)(q:Q () s):aG M A (C7 tg (.ref it) u) Q E s:=by
 cases tg<;>first
  |exact aL q
  |(cases u<;>first
    |exact aL q
    |(refine aj (wpAny_load z ?_)
      rw[G,hd];show aG M A (if (["enumerate","zip","dict_itemiterator","dict_reverseitemiterator","odict_iterator","itertools.zip_longest","itertools.pairwise"].contains n&&vs[0]? ==aa _)=ai then _ else _) Q E s
      rw[aw (by intro h;rw[F,Su] at h;cases h)]
      exact aL q))
noncomputable def Itl(K:aP)(a:af):It:=
 #[λi H=>∃xs x,ao K H a xs/\xs[i]? =aa x,λi H x H'=>H'=H/\∀xs,ao K H a xs->xs[i]? =aa x,λi H=>∃xs,ao K H a xs/\xs.length<=i]
noncomputable def Itt(K:aP)(a:af):It:=
 #[λi H=>∃xs x,cM K H a xs/\xs[i]? =aa x,λi H x H'=>H'=H/\∀xs,cM K H a xs->xs[i]? =aa x,λi H=>∃xs,cM K H a xs/\xs.length<=i]
noncomputable def Itr(lo:Int)(n:Nat):It:=#[λi y=>i<n,λi H x H'=>H'=H/\x=.int (lo+i),λi y=>n<=i]
theorem T3{w} a it:Turn P w K tg (Itl K a) [it] it (λi h=>h.IsListIter it a i) where
 mem:=by simp
 obj:=λi h st b q=>by
  have e:=by simpa using q
  subst e;rcases st with⟨o,e,c,d⟩;exact#[o,e,λv z=>by rw[d] at z;cases z]
 keep:=λi h h' st k=>st.at λo e=>k it (by simp) o e
 item:=by
  intro X S hw U hc i pins s t H E I J st O;subst S hw U;rcases O with⟨xs,x,G,hx⟩;rcases I.list G with⟨its,L,p,hz⟩;rcases L.get hx with⟨u,hu,ru⟩;rcases J it (by simp) with⟨f0,f,f2,Y,W,V⟩
  refine wpAny_pyNext_list_item st p.isList (by simpa using hu) λh' F sb=>?_
  have I1:=I.turned (t':=s.toks) (λb o q e=>(sb.2 b q).trans e) f0 f Y W V
  rcases id F with⟨o,e,c,d⟩;exact#[u,Z,Al e c d (by decide) #[x,H,I1,ru,#[Z,λys hy=>by rwa[I.xj hy G]],F,λb q=>(J b q).1]]
 done:=by
  intro X S hw U hc i pins s t H E I J st O;subst S hw U;rcases O with⟨xs,G,hx⟩;rcases I.list G with⟨its,L,p,hz⟩;rcases J it (by simp) with⟨f0,f,f2,Y,W,V⟩
  have hl:=L.length;exact wpAny_pyNext_list_end (I.ok.hd hc) st p.isList (by simp;simp_all) λh' eb=>#[Z,I.turned (λb o q e=>eb b o q e) f0 f Y W V]
 self:=λy y y y y st h=>wpAny_pyIter_listiter st h
theorem T4{w} a it:Turn P w K tg (Itt K a) [it] it (λi h=>h.IsTupleIter it a i) where
 mem:=by simp
 obj:=λi h st b q=>by
  have e:=by simpa using q
  subst e;rcases st with⟨o,e,c,d⟩;exact#[o,e,λv z=>by rw[d] at z;cases z]
 keep:=λi h h' st k=>st.at λo e=>k it (by simp) o e
 item:=by
  intro X S hw U hc i pins s t H E I J st O;subst S hw U;rcases O with⟨xs,x,G,hx⟩;rcases I.tuple G with⟨its,L,p,hz⟩;rcases L.get hx with⟨u,hu,ru⟩;rcases J it (by simp) with⟨f0,f,f2,Y,W,V⟩
  refine wpAny_pyNext_tuple_item st (p) (by simpa using hu) λh' F sb=>?_
  have I1:=I.turned (t':=s.toks) (λb o q e=>(sb.2 b q).trans e) f0 f Y W V
  rcases id F with⟨o,e,c,d⟩;exact#[u,Z,Al e c d (by decide) #[x,H,I1,ru,#[Z,λys hy=>by rwa[I.Lp hy G]],F,λb q=>(J b q).1]]
 done:=by
  intro X S hw U hc i pins s t H E I J st O;subst S hw U;rcases O with⟨xs,G,hx⟩;rcases I.tuple G with⟨its,L,p,hz⟩;rcases J it (by simp) with⟨f0,f,f2,Y,W,V⟩
  have hl:=L.length;exact wpAny_pyNext_tuple_end (I.ok.hd hc) st (p) (by simp;simp_all) λh' eb=>#[Z,I.turned (λb o q e=>eb b o q e) f0 f Y W V]
 self:=λy y y y y st h=>wpAny_pyIter_tupleiter st h
theorem T5{w} it lo n:Turn P w K tg (Itr lo n) [it] it (λi h=>SF h it (lo+ i*1) (n-i) 1) where
 mem:=by simp
 obj:=λi h st b q=>by
  have e:=by simpa using q
  subst e;exact#[_,st,λv z=>by
   have z':=z;cases z']
 keep:=λi h h' st k=>k it (by simp) _ st
 item:=by
  intro X O hw S L i pins s y H E I G st J;subst O hw S;rcases G it (by simp) with⟨f0,a,f2,Y,V,U⟩
  have W:=Walks.range (prog:=X.prog) (w:=X.w) (I.ok.hd L) it lo 1 n;refine W.item i s _ _ J st λv h' tk hv F kk=>?_;rcases hv with⟨t,rfl⟩;have I1:Inv X _ y H {s with heap:=h',toks:=tk}:=I.turned (λb o q e=>kk b o (by simpa using q) e) f0 a Y V U
  refine#[_,Z,Al F Z Z (by decide) #[.int _,H,I1,#[t,?_],#[Z,Z],F,λb q=>(G b q).1]]
  rw[Int.mul_one]
 done:=by
  intro X O hw S L i pins s y H E I G st J;rcases G it (by simp) with⟨f0,a,f2,Y,V,U⟩
  exact wpAny_pyNext_range_end (I.ok.hd L) st (by have:n<=i:=J;lia) λh' eb=>#[Z,I.turned (λb o q e=>eb b o q e) f0 a Y V U]
 self:=λx x x x x st h=>wpAny_pyIter_rangeiter st h
inductive Lw(K:aP)(R:It->Hp->Prop)(x:V)(H1:Hp):Prop|m:∀a,x=.ref a->(∃xs,ao K H1 a xs)->R (Itl K a) H1->Lw K R x H1
def T6(K:aP)(tl:TE):TI:=λσ H R=>tl σ H (Lw K R)
inductive Lx(K:aP)(R:It->Hp->Prop)(x:V)(H1:Hp):Prop|m:∀a,x=.ref a->(∃xs,cM K H1 a xs)->R (Itt K a) H1->Lx K R x H1
def T7(K:aP)(tl:TE):TI:=λσ H R=>tl σ H (Lx K R)
theorem d_{l}{tl}(O:PE X l tl):PI X tg l (T6 X.K tl):=by
 intro pins s y H R I h;refine ba (O _ s y H _ I h) λv z ⟨x,H1,F,G,J⟩=>?_;obtain⟨a,e,⟨xs,L⟩,q⟩:=J;subst e;cases G;obtain⟨its,U,p,hz⟩:=F.list L;apply DD p.isList;refine#[_,_,_,_,H1,Z,F.kept λb o e=>bq _ e,T3 a _,#[_,cJ _ Z,Z,Z],λb S=>?_,q];have e:=by simpa using S
 subst e;exact F.lu (bb _) (F.ax.fresh (bb _))
theorem T8{l}{tl}(O:PE X l tl):PI X tg l (T7 X.K tl):=by
 intro pins s y H R I h;refine ba (O _ s y H _ I h) λv z ⟨x,H1,F,G,J⟩=>?_;obtain⟨a,e,⟨xs,L⟩,q⟩:=J;subst e;cases G;obtain⟨its,U,p,hz⟩:=F.tuple L;apply DF (p);refine#[_,_,_,_,H1,Z,F.kept λb o e=>bq _ e,T4 a _,#[_,cJ _ Z,Z,Z],λb S=>?_,q];have e:=by simpa using S
 subst e;exact F.lu (bb _) (F.ax.fresh (bb _))
theorem T9{R}{lo hi}{t u v}{tk}(I:Inv X pins σ H s)(h1:-(2^62)<=lo)(h2:lo<2^62)(J:-(2^62)<=hi)(G:hi<2^62)(q:R (Itr lo (hi-lo).toNat) H):aG (aH X.prog X.w) X.A (pb (.ref s.heap.objs.size)) (PIE X pins σ tg R) E {s with heap:=s.heap.push {cls:=.type "range",data:=.fields (tAr [.int lo t,.int hi u,.int 1 v])},toks:=tk}:=by
 apply wpAny_pyIter_range (IsRange.new ..) (small_one h1 h2 J G);have z:Inv X _ σ H {s with heap:=s.heap.push {cls:=.type "range",data:=.fields (tAr [.int lo t,.int hi u,.int 1 v])},toks:=tk}:=I.kept λb o e=>bq _ e
 refine#[_,_,_,_,H,Z,
  z.kept λb o e=>bq _ e,T5 _ lo _,?_,λb F=>?_,q]
 .have O:lo+ ((0:Nat))*1=lo:=by simp
  have L:(((hi-lo).toNat:Nat))-((0:Nat))=fi.Range.rangeSize lo hi 1:=by rw[rangeSize_one];split<;>lia
  rw[O,L];exact cJ _ Z
 .have e:b=(s.heap.push {cls:=.type "range",data:=.fields (tAr [.int lo t,.int hi u,.int 1 v])}).objs.size:=by simpa using F
  subst e;exact z.lu (bb _) (z.ax.fresh (bb _))
inductive Ly(R:It->Hp->Prop)(vs:List V)(H1:Hp):Prop|m:∀j:Int,vs=[.int j]->-(2^62)<=j->j<2^62->R (Itr 0 j.toNat) H1->Ly R vs H1
def T_(ta:TA):TI:=λσ H R=>ta σ H (Ly R)
theorem vr{a:bW}{ta:TA}(S:Gl X "range")(O:X.mg "range"=ae)(U:PA X [a] ta)(L:cq [a] X.env=[(az,bT a X.env)]:=by rfl):PI X tg (.Call (.Name "range" p) [a] [] pos) (T_ ta):=by
 intro pins s x H R I h;refine Call_ (rK I S O boot_range (tJ (ba (U _ _ s x H _ I h) λus W ⟨vs,H1,V,G,z⟩=>?_) L Z));obtain⟨j,e,z,J,q⟩:=z;subst e;cases G with
 |cons r F=>
  cases F;obtain⟨t,rfl⟩:=r;exact call_range_1 (T9 V (by simp) (by simp) z J (by simpa using q))
def Ua(wi:TI)(g:TG)(tb:TS):TS:=λD σ H=>wi σ H λJ H1=>∃W:Nat->Nat->St->Hp->Prop,(∃m,W 0 m σ H1)/\∀i m σ H,W i m σ H->
 (J.stop i H/\D.nx σ H)\/(J.go i H/\∃N:St->Hp->Prop,(∀q H',N q H'->∃F,F<m/\W (i+1) F q H')/\∀x H',J.kA i H x H'->g x σ H' λz H2=>tb {D with nx:=N,ct:=N,bk:=D.nx} z H2)
noncomputable def xm(fp:List af)(h:aU):List (af×bN):=fp.filterMap λb=>(h.get? b).map λo=>(b,o)
theorem Am{b}{o}(q:b∈fp)(e:h.get? b=aa o):(b,o)∈xm fp h:=HL.mpr #[b,q,by rw[e];rfl]
theorem Ub{p}(z:p∈xm fp h):p.1∈fp/\h.get? p.1=aa p.2:=by
 obtain⟨b,F,e⟩:=HL.mp z;cases q:h.get? b with
 |none=>rw[q] at e;cases e
 |some o=>
  rw[q] at e;have G:=bf e;subst G;exact#[F,q]
theorem Inv.pinned(I:Inv X pins σ H s)(L:∀b∈fp,il X pins H b)(J:∀b∈fp,∃o,s.heap.get? b=aa o/\∀v,o.data≠.cell v):Inv X (pins ++xm fp s.heap) σ H s:=
 I.Lj λp G=>(df.mp G).elim (λz=>I.pin p (gZ _ z)) λz=>by
  obtain⟨q,e⟩:=Ub z;rcases L _ q with⟨U,S,O,_⟩;rcases J _ q with⟨o,F,d⟩;rw[e] at F;cases F;exact#[e,U,S,O,d]
theorem Inv.xn{pl}(I:Inv X (pins ++pl) σ H s):Inv X pins σ H s:=I.Lj λp q=>I.pin p (gZ _ (kg _ q))
theorem du{tb:TS}(hp:PassesOwn (aH X.prog X.w) X.A X.env X.xe)(hc:X.calm=ai)(hi:PI X tg iter wi)(hg:PG X tg g)(L:fE X body tb)(hs:∀x,uW iter X.env x=pure x:=by intro _;rfl):PS X (.For tg iter body [] pos) (Ua wi g tb):=by
 intro pins s c H D I h;refine wpAny_For (ba (hi _ s c H _ I h) λv s1 h1=>ba h1 λitv s2 h2=>?_) hs;rcases h2 with⟨it,fp,tn,J,H2,e,I2,T,st2,f2,W,⟨m0,w0⟩,turn⟩;subst e;have G:∀{H'},(∀b∈fp,H' b=ae)->∀b∈fp,il X _ H' b:=λhn b L=>#[hn b L,(f2 b L).2];refine codeAny_forLoop_any (λn s'=>∃i F H',Inv X _ F H' s'/\tn i s'.heap/\(∀b∈fp,H' b=ae)/\W i n F H') ?_ m0 #[0,c,H2,I2,st2,λb L=>(f2 b L).1,w0];rintro n s3 t;rcases t with⟨i,z,H3,I3,Y,fr3,w3⟩;rcases turn i n z H3 w3 with⟨stop,qn⟩|⟨go,N,hN,step⟩
 .refine tO hp (ba (T.done X Z Z Z hc i _ s3 z H3 _ I3 (G fr3) Y stop) λr s4 ⟨hr,I4⟩=>?_);subst hr;exact u9 #[z,H3,I4,qn]
 .refine tO hp (ba (T.item X Z Z Z hc i _ s3 z H3 _ I3 (G fr3) Y go) λr s4 ⟨u,hr,h4⟩=>?_);subst hr;refine tO hp (ba h4 λy s5 ⟨x,H5,I5,r5,y5,V,fr5⟩=>?_);have I5':=I5.pinned (G fr5) (T.obj _ _ V);refine tO hp (ba (hg _ s5 z H5 x u _ I5' r5 (step x H5 y5)) λy s6 ⟨σ6,H6,I6,q6⟩=>?_);refine tO hp (ba (L _ s6 _ H6 _ I6 q6) λf s7 U=>?_);have again:∀{q}{S},Inv X _ q S s7->N q S->∃m,m<n/\∃i F H',Inv X pins F H' s7/\tn i _/\(∀b∈fp,H' b=ae)/\W i m F H':=λ{q S} O a=>by
   obtain⟨m',hm,w7⟩:=hN q S a;refine#[m',hm,_,q,S,O.xn,T.keep _ _ _ V λb L o e=>(O.pin _ (gZ _ (gZ _ (Am L e)))).1,λb L=>?_,w7];obtain⟨o,e,d⟩:=T.obj _ _ V b L;exact(O.pin _ (gZ _ (gZ _ (Am L e)))).2.1
  cases f with
  |next=>rcases U with⟨q,S,O,a⟩;exact again O a
  |cont=>rcases U with⟨q,S,O,a⟩;exact again O a
  |brk=>rcases U with⟨q,S,O,U⟩;exact#[q,S,O.xn,U]
  |ret v=>rcases U with⟨x7,q,S,O,r7,U⟩;exact#[x7,q,S,O.xn,r7,U]
theorem gf{tb:TS}(Pv:Nat->St->Hp->Prop)(S:Pv 0 σ H)(O:∀i σ H,i<=xs.length->Pv i σ H->ao K H a xs)(L:∀i x σ H,xs[i]? =aa x->Pv i σ H->g x σ H λz H2=>tb {D with nx:=Pv (i+1),ct:=Pv (i+1),bk:=D.nx} z H2)(hd:∀σ H,Pv xs.length σ H->D.nx σ H):
  ∃W:Nat->Nat->St->Hp->Prop,(∃m,W 0 m σ H)/\∀i m σ H,W i m σ H->
   ((Itl K a).stop i H/\D.nx σ H)\/((Itl K a).go i H/\∃N:St->Hp->Prop,(∀F H',N F H'->∃I,I<m/\W (i+1) I F H')/\∀x H',(Itl K a).kA i H x H'->g x σ H' λz H2=>tb {D with nx:=N,ct:=N,bk:=D.nx} z H2):=by
 exists λi m σ H=>m=xs.length-i/\i<=xs.length/\Pv i σ H,#[xs.length,by simp,c7 _,S]
 rintro i m σ H ⟨rfl,hi,p⟩;have q:=O i σ H hi p;by_cases G:i<xs.length
 .refine .inr #[#[xs,xs[i],q,by simp],_,λF H' J=>#[_,by grind,Z,G,J],λx H' y=>?_]
  obtain⟨e,y⟩:=y;subst e;exact L i x σ _ (y xs q) p
 .have e:i=xs.length:=by lia
  subst e;exact .inl #[#[xs,q,bb _],hd σ H p]
theorem Uc{lo}{tb:TS}(Pv:Nat->St->Hp->Prop)(L:Pv 0 σ H)(J:∀i σ H,i<n->Pv i σ H->g (.int (lo+i)) σ H λq H2=>tb {D with nx:=Pv (i+1),ct:=Pv (i+1),bk:=D.nx} q H2)(hd:∀σ H,Pv n σ H->D.nx σ H):
  ∃W:Nat->Nat->St->Hp->Prop,(∃m,W 0 m σ H)/\∀i m σ H,W i m σ H->
   ((Itr lo n).stop i H/\D.nx σ H)\/((Itr lo n).go i H/\∃N:St->Hp->Prop,(∀z H',N z H'->∃G,G<m/\W (i+1) G z H')/\∀x H',(Itr lo n).kA i H x H'->g x σ H' λq H2=>tb {D with nx:=N,ct:=N,bk:=D.nx} q H2):=by
 exists λi m σ H=>m=n-i/\i<=n/\Pv i σ H,#[n,by simp,c7 _,L]
 rintro i m σ H ⟨rfl,hi,p⟩;by_cases F:i<n
 .refine .inr #[F,_,λz H' I=>#[_,by grind,Z,F,I],λx H' y=>?_]
  obtain⟨e,y⟩:=y;subst e y;exact J i σ _ F p
 .have e:i=n:=by lia
  subst e;exact .inl #[bb _,hd σ H p]
abbrev R2:=V->V->Hp->VK->Prop
end L2
variable {r':L2.R2}
namespace L2
def dR(X:Cx)(f:aE->aE->Sem aE)(r:R2):Prop:=
 ∀(pins:List (af×bN))(s:aT)(σ:St)(H:Hp)(x y:V)(v u:aE)(Q:VK),Inv X pins σ H s->RelV x v->RelV y u->r x y H Q->
  aG (aH X.prog X.w) X.A (f v u) (EP X pins σ Q) X.xe s
def UnR(X:Cx)(f:aE->Sem aE)(r:V->Hp->VK->Prop):Prop:=
 ∀(pins:List (af×bN))(s:aT)(σ:St)(H:Hp)(x:V)(v:aE)(Q:VK),Inv X pins σ H s->RelV x v->r x H Q->
  aG (aH X.prog X.w) X.A (f v) (EP X pins σ Q) X.xe s
def jQ(X:Cx)(f:aE)(r:List V->Hp->VK->Prop):Prop:=
 ∀(pins:List (af×bN))(s:aT)(σ:St)(H:Hp)(xs:List V)(us:List aE)(Q:VK),Inv X pins σ H s->Vals xs us->r xs H Q->
  aG (aH X.prog X.w) X.A (call f us) (EP X pins σ Q) X.xe s
def Ud(X:Cx)(r:V->Hp->(Bool->Hp->Prop)->Prop):Prop:=
 ∀(pins:List (af×bN))(s:aT)(σ:St)(H:Hp)(x:V)(v:aE)(Q:Bool->Hp->Prop),Inv X pins σ H s->RelV x v->r x H Q->
  aG (aH X.prog X.w) X.A (truthy v) (TP X pins σ Q) X.xe s
def tOp(r:R2)(ta tb:TE):TE:=λσ H Q=>ta σ H λx H1=>tb σ H1 λy H2=>r x y H2 Q
def tUn(r:V->Hp->VK->Prop)(ta:TE):TE:=λσ H Q=>ta σ H λx H1=>r x H1 Q
inductive rI(C:Int->Int->Prop)(g:Int->Int->V)(x:V)(y:V)(H:Hp)(Q:VK):Prop|m:∀i j,x=.int i->y=.int j->C i j->Q (g i j) H->rI C g x y H Q
inductive nO(g:Int->Int->V)(x:V)(y:V)(H:Hp)(Q:VK):Prop|m:∀i j,x=.int i->y=.int j->Q (g i j) H->nO g x y H Q
inductive rU(g:Int->V)(x:V)(H:Hp)(Q:VK):Prop|m:∀i,x=.int i->Q (g i) H->rU g x H Q
section
variable {a:bW}
theorem Er(Y:PE X a ta)(W:PE X b tb){R:V->V->Hp->Prop}(I:Inv X pins σ H s)(h:ta σ H λx H1=>tb σ H1 λy H2=>R x y H2){f:aE->aE->Sem _}(U:∀v u F x y H2,Inv X pins σ H2 F->RelV x v->RelV y u->R x y H2->aG (aH X.prog X.w) X.A (f v u) Q X.xe F):
  aG (aH X.prog X.w) X.A (bT a X.env) (λv z=>aG (aH X.prog X.w) X.A (bT b X.env) (λu q=>aG (aH X.prog X.w) X.A (f v u) Q X.xe q) X.xe z) X.xe s:=by
 refine ba (Y _ s σ H _ I h) λv G ⟨x,H1,I1,L,S⟩=>?_;refine ba (W _ G σ H1 _ I1 S) λu F ⟨y,H2,c,J,O⟩=>?_;exact U v u F x y H2 c L J O
theorem bg{op}{r}(J:dR X (nA op) r)(O:PE X a ta)(L:PE X b tb):PE X (.BinOp a op b pos) (tOp r ta tb):=by
 intro pins s c H Q I h;exact wpAny_BinOp (Er O L I h λv u z x y H2 S G F q=>J _ z c H2 x y v u Q S G F q)
theorem Ue{op}{r}(G:UnR X (unaryOp op) r)(J:PE X a ta):PE X (.UnaryOp op a pos) (tUn r ta):=by
 intro pins s y H Q I h;exact UnaryOp_ (ba (J _ s y H _ I h) λv q ⟨x,H1,L,z,F⟩=>G _ q y H1 x v Q L z F)
theorem opI{f}{C}{g:Int->Int->Int}(rule:∀i j t u s Q E,C i j->Q (.int (g i j) s.toks) {s with toks:=s.toks+1}->aG (aH X.prog X.w) X.A (f (.int i t) (.int j u)) Q E s):
  dR X f (rI C λi j=>.int (g i j)):=by
 intro pins s a H x y v u Q I F z h;obtain⟨i,j,rfl,rfl,G,q⟩:=h;obtain⟨t,rfl⟩:=F;obtain⟨t',rfl⟩:=z;exact rule i j t t' s _ _ G #[.int _,H,I.tok _,#[_,Z],q]
theorem Lz{f}{g:Int->Int->Int}(rule:∀i j t u s Q E,Q (.int (g i j) s.toks) {s with toks:=s.toks+1}->aG (aH X.prog X.w) X.A (f (.int i t) (.int j u)) Q E s):
  dR X f (nO λi j=>.int (g i j)):=by
 intro pins s a H x y v u Q I F z h;obtain⟨i,j,rfl,rfl,q⟩:=h;obtain⟨t,rfl⟩:=F;obtain⟨t',rfl⟩:=z;exact rule i j t t' s _ _ #[.int _,H,I.tok _,#[_,Z],q]
theorem Es{f}{g:Int->Int->Bool}(rule:∀i j t u s Q E,Q (.bool (g i j)) s->aG (aH X.prog X.w) X.A (f (.int i t) (.int j u)) Q E s):
  dR X f (nO λi j=>.bl (g i j)):=by
 intro pins s a H x y v u Q I F z h;obtain⟨i,j,rfl,rfl,q⟩:=h;obtain⟨t,rfl⟩:=F;obtain⟨t',rfl⟩:=z;exact rule i j t t' s _ _ #[.bl _,H,I,Z,q]
theorem eK:dR X (nA .Add) (nO λi j=>.int (i+j)):=Lz λx x x x x x x q=>add_int q
theorem rO:dR X (nA .Sub) (nO λi j=>.int (i-j)):=Lz λx x x x x x x q=>sub_int q
theorem Et:dR X (nA .Mod) (rI (λx j=>0<j) λi j=>.int (i%j)):=opI λi j x x x x x z q=>by
 exact mod_int' (by lia) (by rwa[Int.fmod_eq_emod_of_nonneg i (by lia)])
theorem unI{f}{g:Int->Int}(rule:∀i t s Q E,Q (.int (g i) s.toks) {s with toks:=s.toks+1}->aG (aH X.prog X.w) X.A (f (.int i t)) Q E s):
  UnR X f (rU λi=>.int (g i)):=by
 intro pins s y H x v Q I z h;obtain⟨i,rfl,q⟩:=h;obtain⟨t,rfl⟩:=z;exact rule i t s _ _ #[.int _,H,I.tok _,#[_,Z],q]
theorem Ug:UnR X (unaryOp .USub) (rU λi=>.int (-i)):=unI λx x x x x q=>neg_int q
end
noncomputable def LA:V->V->Bool
 |.bB,.bB=>ai|.bB,.int _=>ai|.int _,.bB=>ai|.bB,.bl _=>ai|.bl _,.bB=>ai|.bB,.str _=>ai|.str _,.bB=>ai
 |.int _,.int _=>ai|.bl _,.bl _=>ai|.str _,.str _=>ai|.gI _,.gI _=>ai
 |.int _,.str _=>ai|.str _,.int _=>ai|.bl _,.str _=>ai|.str _,.bl _=>ai
 |_,_=>az
def rEq:R2:=λx y H Q=>LA x y=ai/\Q (.bl (decide (x=y))) H
def rNe:R2:=λx y H Q=>LA x y=ai/\Q (.bl (!decide (x=y))) H
theorem Eu{i j}:decide (V.int i=V.int j)=(i==j):=by
 rw[gu];simp
theorem LB{i j}:decide (V.bl i=V.bl j)=(i==j):=by
 rw[gu];simp
theorem LC{i j}:decide (V.str i=V.str j)=(i==j):=by
 rw[gu];simp
theorem LD{i j}:decide (V.gI i=V.gI j)=(i.toList==j.toList):=by
 rw[gu];cases i;cases j;simp
section
variable {a:bW}
theorem dO{Q}{k z}(I:Inv X pins σ H s)(q:Q (.bl k) H)(e:k=z):EP X pins σ Q (.bool z) s:=by
 subst e;exact#[.bl k,H,I,Z,q]
theorem mG:dR X (hG .Eq) rEq:=by
 intro pins s a H x y v u Q I G z h;obtain⟨F,q⟩:=h;cases x with
 |bB=>
  cases G;cases y with
  |bB=>cases z;exact PySem.EqNone.eq_none_none (dO I q (by simp))
  |bl j=>cases z;exact PySem.EqNone.eq_none_bool (dO I q (by simp))
  |int j=>obtain⟨t',rfl⟩:=z;exact PySem.EqNone.eq_none_int (dO I q (by simp))
  |str j=>obtain⟨t',rfl⟩:=z;exact PySem.EqNone.eq_none_str (dO I q (by simp))
  |_=>exact absurd (show az=ai from F) cZ
 |bl i=>
  cases G;cases y with
  |bB=>cases z;exact PySem.EqNone.eq_bool_none (dO I q (by simp))
  |bl j=>cases z;exact eq_bool (dO I q LB)
  |str j=>obtain⟨t',rfl⟩:=z;exact PySem.EqMixed.eq_bool_str (dO I q (by simp))
  |_=>exact absurd (show az=ai from F) cZ
 |int i=>
  obtain⟨t,rfl⟩:=G;cases y with
  |bB=>cases z;exact PySem.EqNone.eq_int_none (dO I q (by simp))
  |int j=>obtain⟨t',rfl⟩:=z;exact eq_int (dO I q Eu)
  |str j=>obtain⟨t',rfl⟩:=z;exact PySem.EqMixed.eq_int_str (dO I q (by simp))
  |_=>exact absurd (show az=ai from F) cZ
 |str i=>
  obtain⟨t,rfl⟩:=G;cases y with
  |bB=>cases z;exact PySem.EqNone.eq_str_none (dO I q (by simp))
  |bl j=>cases z;exact PySem.EqMixed.eq_str_bool (dO I q (by simp))
  |int j=>obtain⟨t',rfl⟩:=z;exact PySem.EqMixed.eq_str_int (dO I q (by simp))
  |str j=>obtain⟨t',rfl⟩:=z;exact eq_str (dO I q LC)
  |_=>exact absurd (show az=ai from F) cZ
 |gI i=>
  obtain⟨t,rfl⟩:=G;cases y with
  |gI j=>obtain⟨t',rfl⟩:=z;exact PySem.W.eq_bytes (dO I q LD)
  |_=>exact absurd (show az=ai from F) cZ
 |_=>cases y<;>exact absurd (show az=ai from F) cZ
theorem jR:dR X (hG .NotEq) rNe:=by
 intro pins s a H x y v u Q I G z h;obtain⟨F,q⟩:=h;cases x with
 |bB=>
  cases G;cases y with
  |bB=>cases z;exact PySem.EqNone.ne_none_none (dO I q (by simp))
  |bl j=>cases z;exact PySem.EqNone.ne_none_bool (dO I q (by simp))
  |int j=>obtain⟨t',rfl⟩:=z;exact PySem.EqNone.ne_none_int (dO I q (by simp))
  |str j=>obtain⟨t',rfl⟩:=z;exact PySem.EqNone.ne_none_str (dO I q (by simp))
  |_=>exact absurd (show az=ai from F) cZ
 |bl i=>
  cases G;cases y with
  |bB=>cases z;exact PySem.EqNone.ne_bool_none (dO I q (by simp))
  |bl j=>cases z;exact ne_bool (dO I q (congrArg _ LB))
  |str j=>obtain⟨t',rfl⟩:=z;exact PySem.EqMixed.ne_bool_str (dO I q (by simp))
  |_=>exact absurd (show az=ai from F) cZ
 |int i=>
  obtain⟨t,rfl⟩:=G;cases y with
  |bB=>cases z;exact PySem.EqNone.ne_int_none (dO I q (by simp))
  |int j=>obtain⟨t',rfl⟩:=z;exact ne_int (dO I q (congrArg _ Eu))
  |str j=>obtain⟨t',rfl⟩:=z;exact PySem.EqMixed.ne_int_str (dO I q (by simp))
  |_=>exact absurd (show az=ai from F) cZ
 |str i=>
  obtain⟨t,rfl⟩:=G;cases y with
  |bB=>cases z;exact PySem.EqNone.ne_str_none (dO I q (by simp))
  |bl j=>cases z;exact PySem.EqMixed.ne_str_bool (dO I q (by simp))
  |int j=>obtain⟨t',rfl⟩:=z;exact PySem.EqMixed.ne_str_int (dO I q (by simp))
  |str j=>obtain⟨t',rfl⟩:=z;exact ne_str (dO I q (congrArg _ LC))
  |_=>exact absurd (show az=ai from F) cZ
 |gI i=>
  obtain⟨t,rfl⟩:=G;cases y with
  |gI j=>obtain⟨t',rfl⟩:=z;exact PySem.W.ne_bytes (dO I q (congrArg _ LD))
  |_=>exact absurd (show az=ai from F) cZ
 |_=>cases y<;>exact absurd (show az=ai from F) cZ
theorem kB:dR X (hG .Lt) (nO λi j=>.bl (decide (i<j))):=Es λx x x x x x x q=>lt_int q
theorem mH:dR X (hG .LtE) (nO λi j=>.bl (decide (i<=j))):=Es λx x x x x x x q=>le_int q
theorem nP:dR X (hG .Gt) (nO λi j=>.bl (decide (j<i))):=Es λx x x x x x x q=>gt_int q
theorem Uh:dR X (hG .Is) (λx y H Q=>y=.bB/\Q (.bl (decide (x=.bB))) H):=by
 intro pins s a H x y v u Q I z F h;obtain⟨rfl,q⟩:=h;cases F;refine is_none_gen (dO I q ?_);cases x<;>first
  |(rfl)
  |(obtain⟨t,rfl⟩:=z;rfl)
theorem cu(b:bW)(h:op≠.In:=by decide)(h2:op≠.NotIn:=by decide):zl op b=az:=by
 have z:(op==CmpOp.In)=az:=by cases op<;>first|rfl|exact absurd Z h
 have q:(op==CmpOp.NotIn)=az:=by cases op<;>first|rfl|exact absurd Z h2
 cases b<;>simp[zl,z,q]
theorem An{r}(J:dR X (hG op) r)(S:PE X a ta)(O:PE X b tb)(L:zl op b=az):PE X (.Compare a [op] [b] pos) (tOp r ta tb):=by
 intro pins s c H Q I h;exact wpAny_Compare1 (Er S O I h λv u z x y H2 U G F q=>J _ z c H2 x y v u Q U G F q) L
inductive Ao(Q:Bool->Hp->Prop)(x:V)(H':Hp):Prop|m:∀k,x=.bl k->Q k H'->Ao Q x H'
def LF(t:TE):TT:=λσ H Q=>t σ H (Ao Q)
theorem b9{r}(V:dR X (hG op) r)(Z:PE X a ta)(Y:PE X b tb)(W:zl op b=az):PT X (.Compare a [op] [b] pos) (LF (tOp r ta tb)):=by
 intro pins s t H Q I h;refine wpAny_isTrue_Compare1 (ba (Z _ s t H _ I h) λv F ⟨x,H1,I1,L,U⟩=>ba (Y _ F t H1 _ I1 U) λu q ⟨y,H2,I2,J,S⟩=>
  ba (V _ q t H2 x y v u _ I2 L J S) λc s3 ⟨z,H3,I3,G,k,e,O⟩=>?_) W
 subst e;cases G;exact vb #[H3,I3,O]
inductive LG(r':R2)(tc:TE)(σ:St)(Q:VK)(y:V)(z:V)(H3:Hp):Prop|m:∀k,z=.bl k->(if k=ai then tc σ H3 λw' H4=>r' y w' H4 Q else Q (.bl az) H3)->LG r' tc σ Q y z H3
def Ew(r r':R2)(ta tb tc:TE):TE:=λσ H Q=>ta σ H λx H1=>tb σ H1 λy H2=>r x y H2 (LG r' tc σ Q y)
theorem xp{q:CmpOp}{r:R2}(ho:dR X (hG op) r)(F:dR X (hG q) r')(ha:PE X a ta)(hb:PE X b tb)(hc:PE X c tc)(hm:lastMarks [op,q] [b,c]=az:=by with_unfolding_all rfl):PE X (.Compare a [op,q] [b,c] pos) (Ew r r' ta tb tc):=by
 intro pins s t H Q I h;refine Compare_chain (ba (ha _ s t H _ I h) λv f ⟨x,H1,I1,r1,q1⟩=>chain_link (ba (hb _ f t H1 _ I1 q1) λu Y ⟨y,H2,I2,G,q2⟩=>
  ba (ho _ Y t H2 x y v u _ I2 r1 G q2) λd W ⟨z,O,L,r3,k,e,J⟩=>?_)) hm
 subst e;cases r3;apply vb;cases k with
 |false=>exact ite_ff #[.bl _,O,L,Z,J]
 |true=>exact ite_tt (chain_last (ba (hc _ W t O _ L J) λU V ⟨S,H4,I4,r4,q4⟩=>F _ V t H4 y S u U Q I4 G r4 q4))
theorem Ui{q:CmpOp}{r:R2}(ho:dR X (hG op) r)(F:dR X (hG q) r')(ha:PE X a ta)(hb:PE X b tb)(hc:PE X c tc)(hm:lastMarks [op,q] [b,c]=az:=by with_unfolding_all rfl):PT X (.Compare a [op,q] [b,c] pos) (LF (Ew r r' ta tb tc)):=by
 intro pins s t H Q I h;refine isTrue_chain (ba (ha _ s t H _ I h) λv f ⟨x,H1,I1,r1,q1⟩=>test_link (ba (hb _ f t H1 _ I1 q1) λu Y ⟨y,H2,I2,G,q2⟩=>
  ba (ho _ Y t H2 x y v u _ I2 r1 G q2) λd W ⟨z,O,L,r3,k,e,J⟩=>?_)) hm
 subst e;cases r3;apply vb;cases k with
 |false=>
  obtain⟨k',e',q'⟩:=J;cases e';exact ite_ff #[O,L,q']
 |true=>
  refine ite_tt (test_last (ba (hc _ W t O _ L J) λU V ⟨S,H4,I4,r4,q4⟩=>ba (F _ V t H4 y S u U _ I4 G r4 q4) λd' s5 ⟨z2,H5,I5,r5,k2,e2,q5⟩=>?_));subst e2;cases r5;exact vb #[H5,I5,q5]
def Ex(K:aP)(x:V)(H:Hp)(k:Bool):Prop:=
 match x with
 |.bB=>k=az
 |.bl b=>k=b
 |.int i=>k=(i !=0)
 |.str y=>y.length<=bp/\k=((y.length:Int) !=0)
 |.gI y=>y.size<=bp/\k=((y.size:Int) !=0)
 |.ref p=>(∃xs,ao K H p xs/\k=!xs.isEmpty)\/(∃xs,cM K H p xs/\k=!xs.isEmpty)\/∃kvs,H p=aa (.dK kvs)/\k=!kvs.isEmpty
 |_=>False
theorem Uj{κ}{kvs}{vs:List (κ×aE)}(r:KV kvs vs):(!vs.isEmpty)=!kvs.isEmpty:=by
 cases r<;>rfl
theorem LH(r:Vals xs its):(!its.toArray.isEmpty)=!xs.isEmpty:=by
 cases r<;>simp
theorem vt:bp<2^63:=by decide
theorem Uk:Ud X (λx H Q=>∃k,Ex X.K x H k/\Q k H):=by
 intro pins s a H x v Q I G h;obtain⟨k,e,q⟩:=h;have O:=bQ;cases x with
 |bB=>
  cases G;have z:=e;subst z;exact truthy_none #[H,I,q]
 |bl b=>
  cases G;have z:=e;subst z;exact vb #[H,I,q]
 |int i=>
  obtain⟨t,rfl⟩:=G;have z:=e;subst z;exact PySem.P.truthy_int #[H,I,q]
 |str y=>
  obtain⟨t,rfl⟩:=G;obtain⟨J,z⟩:y.length<=bp/\k=((y.length:Int) !=0):=e;subst z;exact PySem.P.truthy_str (by lia) #[H,I.tok _,q]
 |gI y=>
  obtain⟨t,rfl⟩:=G;obtain⟨J,z⟩:y.size<=bp/\k=((y.size:Int) !=0):=e;subst z;exact PySem.W.truthy_bytes (by lia) #[H,I.tok _,q]
 |ref p=>
  cases G;have z:=e;obtain⟨xs,hx,z⟩|⟨xs,hx,z⟩|⟨kvs,hx,z⟩:=z
  .subst z;obtain⟨its,r,pl,hz⟩:=I.list hx;have F:=r.length;exact wpAny_truthy_list pl.isList (by simp only[dG];lia) #[H,I.tok _,by rwa[LH r]]
  .subst z;obtain⟨its,r,pl,hz⟩:=I.tuple hx;have F:=r.length;exact truthy_tuple pl (by simp only[dG];lia) #[H,I.tok _,by rwa[LH r]]
  .subst z;obtain⟨hz,L,vs,r,m⟩:kvs.length<=bp/\(p==jc)=az/\∃vs,KV _ vs/\s.heap.DictOf _ p vs:=I.ax p _ hx;have F:=bS r;exact wpAny_truthy_dict L m (by lia) #[H,I.tok _,by rwa[Uj r]]
 |_=>exact(e).elim
theorem eZ(J:PE X a ta)(G:∀whole,wM a X.env whole=(do let v<-whole;Di a.pos;qY [v] (truthy v))):
  PT X a (λσ H Q=>ta σ H λx H'=>∃k,Ex X.K x H' k/\Q k H'):=by
 intro pins s σ H Q I h;exact isTrue_plain (ba (J _ s σ H _ I h) λv q ⟨x,H1,L,z,F⟩=>Uk _ q σ H1 x v Q L z F) (G _)
theorem Ey:dR X (nA .Add) (λx y H Q=>∃i j,x=.str i/\y=.str j/\i.length+j.length<=bp/\Q (.str (i ++j)) H):=by
 intro pins s a H x y v u Q I F z h;obtain⟨i,j,rfl,rfl,hz,q⟩:=h;obtain⟨t,rfl⟩:=F;obtain⟨t',rfl⟩:=z;exact add_str (λt' tk=>#[.str _,H,I.tok _,#[_,Z],q]) hz
theorem vals1{x}(r:Vals [x] us):∃u,us=[u]/\RelV x u:=by
 cases r with
 |cons z q=>cases q;exact#[_,Z,z]
theorem Ul:jQ X (.builtin "abs") (λxs H Q=>∃i,xs=[.int i]/\Q (.int (if i<0 then -i else i)) H):=by
 intro pins s x H xs us Q I r h;obtain⟨i,rfl,q⟩:=h;obtain⟨u,rfl,t,rfl⟩:=vals1 r;exact call_abs_int λu tk=>#[.int _,H,I.tok _,#[_,Z],q]
theorem LI:jQ X (.type "str") (λxs H Q=>∃i,xs=[.int i]/\i.natAbs.log2<1920/\Q (.str (toString i)) H):=by
 intro pins s x H xs us Q I r h;obtain⟨i,rfl,hz,q⟩:=h;obtain⟨u,rfl,t,rfl⟩:=vals1 r;exact PySem.P.str_of_int hz #[.str _,H,I.tok _,#[_,Z],q]
theorem Um:jQ X (.builtin "ord") (λxs H Q=>∃x,xs=[.str x]/\x.length=1/\Q (.int (x.cps.getD 0 0)) H):=by
 intro pins s y H xs us Q I r h;obtain⟨x,rfl,hz,q⟩:=h;obtain⟨u,rfl,t,rfl⟩:=vals1 r;exact ord_of_one hz #[.int _,H,I.tok _,#[_,Z],q]
end
structure tZ(h:aU)(x dx C:af)(mA:au->Option aE):Prop where
 obj:h.get? x=aa (vf C dx)
 ns:h.Ns1 dx mA
 ne:dx≠x
set_option tactic.hygienic true in
theorem LJ(n:h.Ns1 dx mA):∃od,h.get? dx=aa od/\∀name,zT name od=aa (mA name):=by
 rcases n with⟨o,es,ep,I,hd,L,_,J⟩;refine#[o,I,λname=>?_];have e:=J name;unfold nsFind tK at e;rw[<-Array.find?_toList] at e;delta zT;rw[hd];dsimp
 split
 .rename_i y q;rw[q] at e;exact congrArg _ e
 .rename_i q;rw[q] at e;have a:es.toList.any (·.refKey)=az:=by
   rw[yP];intro y G;obtain⟨z,t,F⟩:=L y (Array.mem_toList_iff.mp G);simp[uT.refKey,F]
  have O:¬es.toList.any (·.refKey)=ai:=by rw[a];exact cZ
  rw[aw O];exact congrArg _ e
theorem tZ.look{x}(I:tZ h x dx C mA):∃od,KG h x (vf C dx) C (aa od)/\∀name,zT name od=aa (mA name):=
 let ⟨od,q,z⟩:=LJ I.ns
 #[od,#[I.obj,Z,Z,q],z]
section
variable {w:aS}{x:af}{v:aE}
theorem get_map{expr}(X:K.In s.heap)(I:tZ s.heap x dx C mA)(L:zU K C name=ai)(G:tS K C=ai)(O:fU K (.ref C) name=aa ae)(z:mA name=aa v)(q:KL v=ai)(h:Q v {s with toks:=s.toks+1}):
  aG (aH prog w) A (wL (.ref x) name expr) Q E s:=by
 obtain⟨od,J,F⟩:=I.look;exact PySem.W.get_value X J (DW L).1 (KJ G O Z (by rw[F,z])) q h
theorem Uo{Q}(X:K.In s.heap)(I:tZ s.heap x dx C mA)(q:zU K C name=ai)(L:fU K (.ref C) name=aa (aa (.ref f)))(F:zR K (.ref f)=ai)(z:mA name=ae)(h:Q (.ref f,[.ref x]) s):
  aG (aH prog w) A (C4 (.ref x) name pl) Q E s:=by
 obtain⟨od,J,G⟩:=I.look;exact PySem.W.method_fn X J (DW q).1 (DW q).2 L (fJ.mp F) (by show(zT _ od).map _=aa _;rw[G,z];rfl) h
theorem Up{ns}{Q}(X:K.In s.heap)(I:tZ s.heap x dx C mA)(U:fU K (.ref C) "__setattr__"=aa (aa (.builtin "object.__setattr__")))(V:KS K C=ai)(S:vg K C name=aa ae)(Y:tS K C=ai)(hw:uV mA ns)(hsz:ns.length<=bp)(h:∀h',tZ h' x dx C (λy=>if y=name then aa v else mA y)->jJ dx s.heap h'->Q () {s with heap:=h',toks:=s.toks+2}):
  aG (aH prog w) A (u5 (.ref x) name v) Q E s:=by
 obtain⟨od,J,hl⟩:=I.look;refine PySem.W.set_plain X J U (PySem.W.osa_open X J V S λb=>?_)
 obtain⟨cd,a,L⟩:=PySem.W.any_some Y;have hx:=I.obj;refine aj (aL (aj (aj (Dy hx (aj (DX (DV X a) ?_))))))
 rw[L];refine aL (aj (aL (aj ?_)));refine DC I.ns λh' z q=>?_
 obtain⟨oD,esD,epD,F,G,O⟩:=z.count (DY _ v hw);refine aj (Dz F (by rw[G];exact Dc (bF O (by rw[bP];simp_all))) ?_)
 exact aL (h _ #[(q.2 _ (bG I.ne)).trans I.obj,z,I.ne] q)
theorem Uq{vs}(X:K.In s.heap)(q:KQ K C=ai)(hi:fU K (.ref C) "__init__"=aa (aa (.ref f)))(z:PySem.W.typeIn K (.ref f)=aa (.type "function"))(h:gD (aH prog w) (A.under (.builtin "type.__call__" #[.ref C::vs,kw])) (.call (.ref f) #[.ref (s.heap.objs.size+1)::vs,kw]) (PySem.W.InitBack (s.heap.objs.size+1) R)
   {s with heap:=(s.heap.push ve).push (vf C s.heap.objs.size)}):
  gD (aH prog w) A (.call (.ref C) #[vs,kw]) R s:=by
 exact PySem.W.make_core (PySem.W.makes_of X q) (PySem.W.looks_findIn X hi) (λself=>PySem.W.bind_fn X _ z) (.inl Z) h
end
noncomputable def b_(f:au)(v:V):List (au×V)->List (au×V)
 |[]=>[(f,v)]
 |(g,x)::r=>if g=f then(g,v)::r else(g,x)::b_ f v r
theorem Ez f g v:∀fs,(b_ f v fs).lookup g=if g=f then aa v else fs.lookup g
 |[]=>by
  show mh g [(f,v)]=_;by_cases h:g=f
  .have q:=fJ.mpr h;simp[mh,q,aC h]
  .have q:=kz.mpr h;simp[mh,q,aw h]
 |(k,x)::r=>by
  have F:=Ez f g v r;rw[show b_ f v _=(if k=f then(k,v)::r else(k,x)::b_ f v r) from Z]
  by_cases z:k=f
  .rw[aC z];by_cases h:g=k
   .have q:=fJ.mpr h;simp[mh,q,aC (h.trans z)]
   .have q:=kz.mpr h;simp[mh,q,aw (λe:g=f=>h (e.trans z.symm))]
  .rw[aw z];by_cases h:g=k
   .have q:=fJ.mpr h;simp[mh,q,aw (λe=>z (h.symm.trans e))]
   .have q:=kz.mpr h;simp[mh,q];exact F
theorem xq f v:∀fs,f∈(b_ f v fs).map (·.1)/\∀g,g∈fs.map (·.1)->g∈(b_ f v fs).map (·.1)
 |[]=>#[by simp[b_],λg h=>by simp at h]
 |(k,x)::r=>by
  obtain⟨i1,z⟩:=xq f v r;rw[show b_ f v _=(if k=f then(k,v)::r else(k,x)::b_ f v r) from Z]
  by_cases q:k=f
  .rw[aC q];subst q;exact#[by simp,λg h=>by simpa using h]
  .rw[aw q];refine#[?_,λg h=>?_]
   .exact bI _ i1
   .obtain e|e:=bM.mp h
    .exact bM.mpr (.inl e)
    .exact bI _ (z g e)
theorem LK f v:∀fs,(b_ f v fs).length<=fs.length+1
 |[]=>by simp[b_]
 |(k,x)::r=>by
  have z:=LK f v r;rw[show b_ f v _=(if k=f then(k,v)::r else(k,x)::b_ f v r) from Z]
  by_cases q:k=f
  .rw[aC q,bP,bP];simp
  .rw[aw q,bP,bP];simp_all
theorem fW.some_of{o}(r:fW (aa v) o):∃u,o=aa u/\RelV v u:=by
 cases o with
 |none=>exact(r).elim
 |some u=>exact#[u,Z,r]
theorem fW.none_of{o}(r:fW ae o):o=ae:=by
 cases o with
 |none=>rfl
 |some u=>exact(r).elim
theorem LL(r:RelV v u):KL u=ai:=by
 cases v with
 |bB=>cases (r);rfl
 |bl b=>cases (r);rfl
 |int i=>obtain⟨t,e⟩:=(r);cases e;rfl
 |str x=>obtain⟨t,e⟩:=(r);cases e;rfl
 |gI b=>obtain⟨t,e⟩:=(r);cases e;rfl
 |flt b=>obtain⟨t,e⟩:=(r);cases e;rfl
 |ref a=>cases (r);rfl
 |ty n=>cases (r);rfl
section
variable {w:aS}{fs fs':List (au×V)}
theorem EA(ax:cW P w H h)(e:H a=aa (.ins C dx fs)):∃mA,tZ h a dx C mA/\(∀f,fW (fs.lookup f) (mA f))/\uV mA (fs.map (·.1))/\fs.length<=1000/\H dx=aa (.own a):=by
 rcases(ax a _ e) with⟨d,z,ne,F,mA,n,r,q⟩;exact#[mA,#[F,n,ne],r,q,z,d]
end
structure ip(K:aP)(C:af):Prop where
 pg:zU K C au.empty=ai
 hd:tS K C=ai
 po:KS K C=ai
 sa:fU K (.ref C) "__setattr__"=aa (aa (.builtin "object.__setattr__"))
theorem ip.get(c:ip K C) f:zU K C f=ai:=c.pg
def cP(K:aP)(C:af)(f:au):Prop:=fU K (.ref C) f=aa ae
theorem cP.EB{f}(n:cP K C f):vg K C f=aa ae:=by
 delta vg;rw[n];rfl
structure Meth(K:aP)(C:af)(m:au)(f:af):Prop where
 at_:fU K (.ref C) m=aa (aa (.ref f))
 fn:zR K (.ref f)=ai
 kp:nE K (.ref f)=ai
section
variable {fs:List (au×V)}{f:au}
theorem Ur{b}(I:Inv X pins σ H s)(e:H a=aa (.ins C dx fs))(c:ip X.K C)(n:cP X.K C f)(l:fs.lookup f=aa v)(h:∀u s',Inv X pins σ H s'->RelV v u->Q u s'):aG (aH X.prog X.w) A (wL (.ref a) f b) Q E s:=by
 obtain⟨mA,O,r,_⟩:=EA I.ax e;obtain⟨u,z,q⟩:=fW.some_of (by rw[<-l];exact r f)
 exact get_map I.dN O (c.get f) c.hd n z (LL q) (h u _ (I.tok _) q)
theorem Us{g}{Q}(I:Inv X pins σ H s)(e:H a=aa (.ins C dx fs))(c:ip X.K C)(k:Meth X.K C m g)(l:fs.lookup m=ae)(h:Q (.ref g,[.ref a]) s):aG (aH X.prog X.w) A (C4 (.ref a) m pl) Q E s:=by
 rcases EA I.ax e with⟨mA,O,r,_⟩;have q:=fW.none_of (by rw[<-l];exact r m)
 exact Uo I.dN O (c.get m) k.at_ k.fn q h
theorem Ut{Q}(I:Inv X pins σ H s)(e:H a=aa (.ins C dx fs))(c:ip X.K C)(n:cP X.K C f)(W:fs.length<1000)(L:RelV y u)(h:∀s',Inv X pins σ (upd H a (.ins C dx (b_ f y fs))) s'->Q () s'):aG (aH X.prog X.w) A (u5 (.ref a) f u) Q E s:=by
 rcases EA I.ax e with⟨mA,O,r,wi,_,G⟩;have hz:(fs.map (·.1)).length<=bp:=by rw[aJ,bQ];lia
 refine Up I.dN O c.sa c.po n.EB c.hd wi hz λh' F J=>h _ ?_;have hd:∃o,h'.get? dx=aa o:=let ⟨o,_,_,V,_⟩:=F.ns;#[o,V];apply I.write (by rw[e];exact vh) (.inr G) (λb q U z=>(J.2 b U).trans z) hd
 refine#[by rwa[aB O.ne],?_,O.ne,F.obj,_,F.ns,λg=>?_,λg S=>?_]
 .have:=LK f y fs;exact Nat.le_trans ‹_› ‹_›
 .rw[Ez];by_cases q:g=f
  .rwa[aC q,aC q]
  .rw[aw q,aw q];exact r g
 .by_cases q:g=f
  .rw[q];exact(xq f y fs).1
  .refine(xq f y fs).2 g (wi g λz=>S ?_);show(if g=f then aa u else mA g)=ae
   rwa[aw q]
theorem Inv.made(I:Inv X pins σ H s):Inv X pins σ (upd (upd H s.heap.objs.size (.own (s.heap.objs.size+1))) (s.heap.objs.size+1) (.ins C s.heap.objs.size []))
  {s with heap:=(s.heap.push ve).push (vf C s.heap.objs.size)}:=by
 have z:(s.heap.push _).get? _=aa ve:=cJ _ Z;have L:=by
  have:=cJ (s.heap.push ve) (o:=vf C s.heap.objs.size) Z
  rwa [dS] at this
 have J:(s.heap.push _).Ns ..:=#[_,_,_,z,Z,(λe G=>absurd G (by simp)),λx=>Z]
 have O:=I.laid (o:=.own (s.heap.objs.size+1)) (t':=s.toks) (λb u q=>bq _ q) (bb _) #[_,z];refine O.laid (λb u q=>bq _ q) (oY (dS ..)) ?_;have ne:s.heap.objs.size≠s.heap.objs.size+1:=c6 (iH _);refine#[by rw[aB ne,aA],c7 _,ne,L,_,(Ki J).at λo q=>bq _ q,λx=>vh,λy F=>absurd Z F]
theorem LM{w}(z:o8 e f env (bT e env)=bT e env)(h:aG (aH prog w) A (bT e env) (λo q=>aG (aH prog w) A (wL o f ai) Q E q) E s):aG (aH prog w) A (bT (.Attribute e f pos) env) Q E s:=
 Attribute_any_ h (by rw[arm_eval_Attribute,z])
end
inductive LN(K:aP)(f:au)(Q:VK)(x:V)(H1:Hp):Prop|m:∀a C dx fs v,x=.ref a->H1 a=aa (.ins C dx fs)->ip K C->cP K C f->fs.lookup f=aa v->Q v H1->LN K f Q x H1
def Ap(K:aP)(ta:TE)(f:au):TE:=λσ H Q=>ta σ H (LN K f Q)
inductive LO(K:aP)(f:au)(D:Ends)(σ:St)(y:V)(x:V)(H2:Hp):Prop|m:∀a C dx fs,x=.ref a->H2 a=aa (.ins C dx fs)->ip K C->cP K C f->fs.length<1000->D.nx σ (upd H2 a (.ins C dx (b_ f y fs)))->LO K f D σ y x H2
def LP(K:aP)(ta tv:TE)(f:au):TS:=λD σ H=>tv σ H λy H1=>ta σ H1 (LO K f D σ y)
section
variable {f:au}
theorem aK(G:PE X e ta)(J:o8 e f X.env (bT e X.env)=bT e X.env):PE X (.Attribute e f pos) (Ap X.K ta f):=by
 intro pins s y H Q I h;refine LM J (ba (G _ s y H _ I h) λu W ⟨x,H1,S,z,a,C,dx,fs,v,ex,L,c,n,l,q⟩=>?_);subst ex;obtain rfl:u=dH a:=z;exact Ur S L c n l λU V O F=>#[v,H1,O,F,q]
theorem dv(U:PE X o ta)(O:PE X value tv)(S:pd value (aa (.Attribute o f pos')) pos.line X.env=pure az):PS X (.Assign [.Attribute o f pos'] value pos) (LP X.K ta tv f):=by
 intro pins s t H D I h;refine Dd (ba (O _ s t H _ I h) λu z ⟨y,H1,b,F,q⟩=>ba (U _ z t H1 _ b q) λL s2 ⟨x,H2,Y,G,a,C,dx,fs,ex,V,c,n,l,J⟩=>?_) S;subst ex;obtain rfl:L=dH a:=G;exact Ut Y V c n l F λs3 W=>#[t,_,W,J]
end
section
variable {c:aE}{b:Bool}
end
structure dn(k:Nat)(A:iI):Prop where
 hd:A.handled=ae
 dp:A.depth+3*k+5<u0
 un:A.units+16*k+200<gC
theorem dn.mono(r:dn k A)(h:j<=k):dn j A:=#[r.hd,by have:=r.dp;lia,by have:=r.un;lia]
theorem dn.deeper(r:dn (k+1) A) env:dn k (A.deeper env):=
 #[r.hd,by have:=r.dp;show A.depth+1+3*k+5<_;lia,by have:=r.un;show A.units+3+16*k+200<_;lia]
theorem Uu:(A.under (.builtin "type.__call__" #[.ref C::us,kw])).depth=A.depth+1:=by
 first|rfl|simp[guardIds]
theorem Uv:(A.under (.builtin "type.__call__" #[.ref C::us,kw])).units=A.units+1:=by
 first|rfl|simp[SX]
theorem dn.make(r:dn (k+1) A)  C   us   kw :dn k (A.under (.builtin "type.__call__" #[.ref C::us,kw])):=
 #[r.hd,by have:=r.dp;rw[Uu];lia,by have:=r.un;rw[Uv];lia]
theorem dn.depth(r:dn k A):A.depth<u0:=by have:=r.dp;lia
theorem dn.units(r:dn k A):A.units+64<gC:=by have:=r.un;lia
def jS:TA:=λx H Q=>Q [] H
def iQ(ta:TE)(q:TA):TA:=λσ H Q=>ta σ H λx H1=>q σ H1 λxs H2=>Q (x::xs) H2
theorem ak:PA X [] jS:=λx x x x H Q I h=>DJ #[[],H,I,.nil,h]
theorem ah(S:PE X e te)(O:PA X es t)(L:cq (e::es) X.env=(az,bT e X.env)::cq es X.env:=by rfl):PA X (e::es) (iQ te t):=by
 intro pos pins s y H Q I h;rw[L];show aG _ _ (Dh ((az,bT e _)::fA ..)) _ _ s;refine zD (ba (S _ s y H _ I h) λu q ⟨x,H1,V,F,J⟩=>?_);exact ba (O _ _ q y H1 _ V J) λus W ⟨xs,H2,U,z,G⟩=>#[_,H2,U,.cons F z,G]
def Uw(t:TA):TE:=λσ H Q=>t σ H λxs H1=>xs.length<=bp/\∀p,H1 p=ae->Q (.ref p) (upd H1 p (.tup xs))
def Ux(t:TA):TE:=λσ H Q=>t σ H λxs H1=>xs.length<=bp/\∀p,H1 p=ae->Q (.ref p) (upd H1 p (.lst xs))
theorem vu(h:PA X es t):PE X (.Tuple es J pos) (Uw t):=by
 intro pins s x H Q I L;refine wpAny_Tuple_spliced (ba (h _ _ s x H _ I L) λus F ⟨xs,H1,G,r,z,q⟩=>#[by rwa[<-r.length],?_])
 have O:=G.ax.fresh (bb _);refine#[.ref _,_,G.laid (λb u e=>bq _ e) (bb _) ?_,Z,q _ O];exact#[z,us,r,_,cJ _ Z,Z,_,Z]
theorem bU(h:PA X es t):PE X (.List es pos) (Ux t):=by
 intro pins s x H Q I J;refine wpAny_List_spliced (ba (h _ _ s x H _ I J) λus F ⟨xs,H1,G,r,z,q⟩=>#[by rwa[<-r.length],?_])
 have L:=G.ax.fresh (bb _);refine#[.ref _,_,G.laid (λb u e=>bq _ e) (bb _) ?_,Z,q _ L];exact#[z,us,0,r,cJ _ Z]
abbrev Sp:=List V->Hp->VK->XK->Prop
end L2
variable {sp:L2.Sp}
namespace L2
abbrev mI:=List eN->Hp->aT->XK->aE->aT->Prop
end L2
variable {CX:L2.mI}
namespace L2
structure rP(P:gB)(w:aS)(K:aP)(mg:au->Option aE)(base:aU)(A:iI)(outer:List eN)(s:aT)(H:Hp):Prop where
 frames:A.frames=aa outer
 mod:Mod K mg base
 bs:∀b o,base.get? b=aa o->s.heap.get? b=aa o/\H b=ae
 jj:base.objs.size<=s.heap.objs.size
 gd:s.heap.FunFrames base outer
 jP:∀b∈jO outer,H b=ae
 ax:cW P w H s.heap
 bare:qU s.gens
inductive CE(outer:List eN)(P:gB)(w:aS)(H:Hp)(s:aT)(Q:VK)(u:aE)(s':aT):Prop|m:∀v H',s'.os=s.os->qU s'.gens->Un (jO outer) [] H H' s.heap s'.heap->cW P w H' s'.heap->RelV v u->Q v H'->CE outer P w H s Q u s'
def CR(CX:mI)(outer:List eN)(P:gB)(w:aS)(H:Hp)(s:aT)(Q:VK)(E:XK)(r:wG)(s':aT):Prop:=
 match r with
 |.ok (.ret u)=>CE outer P w H s Q u s'
 |.ok _=>False
 |.error e=>CX outer H s E e s'
structure aV(P:gB)(w:aS)(K:aP)(mg:au->Option aE)(base:aU)(CX:mI)(k:Nat)(f:af)(fd:kl)(ps:List au)(sp:Sp):Prop where
 len:∀vs H Q E,sp vs H Q E->vs.length=ps.length
 run:∀(A:iI)(outer:List eN)(s:aT)(H:Hp)(args:Args)(us:List aE)(vs:List V)(Q:VK)(E:XK),dn k A->rP P w K mg base A outer s H->wB s fd args (ps.zip us)->Vals vs us->sp vs H Q E->
  gD (aH P w) A (.call (.ref f) args) (CR CX outer P w H s Q E) s
theorem aV.mono{w}{base}(F:aV P w K mg base CX j f fd ps sp)(h:j<=k):
  aV P w K mg base CX k f fd ps sp:=#[F.len,λA outer s H args us vs Q E q=>F.run A _ s H _ us vs Q E (q.mono h)]
theorem aV.imp{w}{z}(F:aV P w K mg base CX k f fd ps sp)(h:∀vs H Q E,z vs H Q E->sp vs H Q E):aV P w K mg base CX k f fd ps z:=
 #[λvs H Q E q=>F.len vs H Q E (h _ _ _ _ q),λA outer s H args us vs Q E J L O G I=>F.run A _ s H _ us vs Q E J L O G (h _ _ _ _ I)]
theorem rP.make{w}{outer}(e:rP P w K mg base A outer s H) C us kw :
  rP P w K mg base (A.under (.builtin "type.__call__" #[.ref C::us,kw])) outer s H:=#[by first|exact e.frames|(simpa[pushEnvs] using e.frames),e.mod,e.bs,e.jj,e.gd,e.jP,e.ax,e.bare]
theorem Inv.EC(I:Inv X pins σ H s):rP X.prog X.w X.K X.mg X.base X.A X.stack s H:=
 #[I.ok.frames,I.ok.mod,I.bs,bF I.ok.jj I.sz,I.stack,I.vp,I.ax,I.bare]
theorem Inv.after{Q}(I:Inv X pins σ H s)(h:CE X.stack X.prog X.w H s Q u s'):EP X pins σ Q u s':=by
 obtain⟨v,H',os,bare,un,ax,r,q⟩:=h;obtain⟨G,g,d,t,F⟩:=s';obtain rfl:F=s.os:=os;exact#[v,H',I.call un ax bare (λb z=>absurd z (by simp)),r,q]
def vv(sp:Sp)(dvs:List V)(E:XK)(t:TA):TE:=λσ H Q=>t σ H λvs H1=>sp (vs ++dvs) H1 Q E
inductive LQ(C:af)(m:au)(sp:Sp)(dvs:List V)(E:XK)(t:TA)(σ:St)(Q:VK)(x:V)(H1:Hp):Prop|m:∀a dx fs,x=.ref a->H1 a=aa (.ins C dx fs)->fs.lookup m=ae->(t σ H1 λvs H2=>sp (x::(vs ++dvs)) H2 Q E)->LQ C m sp dvs E t σ Q x H1
def Aq(C:af)(m:au)(sp:Sp)(dvs:List V)(E:XK)(ta:TE)(t:TA):TE:=λσ H Q=>ta σ H (LQ C m sp dvs E t σ Q)
def Ar(C:af)(sp:Sp)(dvs:List V)(E:XK)(t:TA):TE:=λσ H Q=>t σ H λvs H1=>∀x dx,H1 x=ae->H1 dx=ae->dx≠x->
 sp (.ref x::(vs ++dvs)) (upd (upd H1 dx (.own x)) x (.ins C dx [])) (λv H2=>v=.bB/\Q (.ref x) H2) E
def Binds(K:aP)(fd:kl)(ps:List au)(ds:List aE):Prop:=
 ∀(s:aT)(us:List aE),K.In s.heap->(us ++ds).length=ps.length->wB s fd #[us,[]] (ps.zip (us ++ds))
theorem Binds.all(h:∀us,us.length=ps.length->CT fd #[us,[]]=pure (ps.zip us)):Binds K fd ps []:=λs us x q=>by
 rw[l8] at q⊢;exact .of_eq (h us q)
def Passes(CX:mI)(X:Cx)(E:XK):Prop:=∀(pins:List (af×bN))(σ:St)(H:Hp)(s:aT)(e:aE)(s':aT),Inv X pins σ H s->CX X.stack H s E e s'->X.xe e s'
section
variable {E:XK}
theorem ED{Q}(F:aV X.prog X.w X.K X.mg X.base CX k f fd ps sp)(G:dn k X.A)(L:Binds X.K fd ps ds)(hd:Vals dvs ds)(hx:Passes CX X E)(I:Inv X pins σ H s)(r:Vals vs us)(h:sp (vs ++dvs) H Q E):aG (aH X.prog X.w) X.A (call (.ref f) us) (EP X pins σ Q) X.xe s:=by
 have z:=r.append hd;have J:(us ++ds).length=ps.length:=by rw[<-z.length];exact F.len _ _ _ _ h
 refine rf (o9 (F.run _ _ s H _ _ _ Q E G I.EC (L s us I.dN J) z h) λr s' q=>?_);cases r with
 |error e=>exact hx _ σ H s e s' I q
 |ok O=>
  cases O with
  |ret u=>exact I.after q
  |next=>exact False.elim q
  |brk=>exact False.elim q
  |cont=>exact False.elim q
theorem EE(F:aV X.prog X.w X.K X.mg X.base CX k f fd ps sp)(J:dn k X.A)(S:Gl X x)(L:X.mg x=aa (.ref f))(O:nE X.K (.ref f)=ai)(V:Binds X.K fd ps ds)(hd:Vals dvs ds)(hx:Passes CX X E)(W:PA X (e::es) t)(z:(x==("__debug__":au))=az:=by decide)(U:cq (e::es) X.env=(az,bT e X.env)::cq es X.env:=by rfl)(bC:(fA pos (cq es X.env)).any (·.1)=az:=by rfl):
  PE X (.Call (.Name x p) (e::es) [] pos) (vv sp dvs E t):=by
 intro pins s y H Q I h;refine q_ (pF I S L ?_ z);refine zP I.ok.mod.kin O (ba (W _ _ s y H _ I h) λus Y ⟨vs,H1,G,r,q⟩=>#[G.dN,?_]) U bC;exact ED F J V hd hx G r q
theorem mJ(U:PE X o ta)(c:ip X.K C)(J:Meth X.K C m f)(F:aV X.prog X.w X.K X.mg X.base CX k f fd ps sp)(S:dn k X.A)(V:Binds X.K fd ps ds)(hd:Vals dvs ds)(hx:Passes CX X E)(O:bT (.Call (.Attribute o m apos) [] [] pos) X.env=(do
   let G<-bT o X.env
   Di apos.atName
   let (f,first)<-qY [G] (C4 G m pl)
   II pos f first (fA pos (cq [] X.env)) (CS pos (C6 [] X.env))):=by rfl):
  PE X (.Call (.Attribute o m apos) [] [] pos) (Aq C m sp dvs E ta jS):=by
 intro pins s y H Q I h;refine PySem.W.methodCall_KW (ba (U _ s y H _ I h) λu b ⟨x,H1,z,L,a,dx,fs,ex,Y,l,q⟩=>?_) O;subst ex;obtain rfl:u=dH a:=L;apply Us z Y c J l;exact DT z.dN J.kp (ED (vs:=[.ref a]) F S V hd hx z (.cons Z .nil) q)
structure Mk(K:aP)(C f:af):Prop where
 makes:KQ K C=ai
 init:fU K (.ref C) "__init__"=aa (aa (.ref f))
 fn:zR K (.ref f)=ai
 kp:nE K (.ref C)=ai
theorem LR{Q}(M:Mk X.K C f)(F:aV X.prog X.w X.K X.mg X.base CX k f fd ps sp)(S:dn (k+1) X.A)(W:Binds X.K fd ps ds)(hd:Vals dvs ds)(hx:Passes CX X E)(I:Inv X pins σ H s)(r:Vals vs us)(h:∀x dx,H x=ae->H dx=ae->dx≠x->sp (.ref x::(vs ++dvs)) (upd (upd H dx (.own x)) x (.ins C dx [])) (λv H2=>v=.bB/\Q (.ref x) H2) E):
  aG (aH X.prog X.w) X.A (call (.ref C) us) (EP X pins σ Q) X.xe s:=by
 have J:=h _ _ (I.ax.fresh (qO _)) (I.ax.fresh (bb _)) (c6 (iH _));have z:=Inv.made (C:=C) I;have G:Vals (V.ref _::(vs ++dvs)) (dH (s.heap.objs.size+1)::(us ++ds)):=.cons Z (r.append hd);have U:=by
  have e:=G.length;rw[F.len _ _ _ _ J] at e;exact e.symm
 refine rf (Uq I.dN M.makes M.init (fJ.mp M.fn) (o9 (F.run _ _ _ _ _ _ _ _ E (S.make C us [])
  (z.EC.make C us []) (W _ _ z.dN U) G J) λr s' q=>?_))
 cases r with
 |error e=>exact hx _ σ _ _ e s' z q
 |ok Y=>
  cases Y with
  |ret u=>
   obtain⟨v,H',I3,L,a,O⟩:=z.after q;subst a;exact#[L,V.ref _,H',I3,Z,O]
  |next=>exact False.elim q
  |brk=>exact False.elim q
  |cont=>exact False.elim q
theorem Uy(M:Mk X.K C f)(F:aV X.prog X.w X.K X.mg X.base CX k f fd ps sp)(J:dn (k+1) X.A)(O:Gl X x)(L:X.mg x=aa (.ref C))(U:Binds X.K fd ps ds)(hd:Vals dvs ds)(hx:Passes CX X E)(V:PA X (e::es) t)(z:(x==("__debug__":au))=az:=by decide)(S:cq (e::es) X.env=(az,bT e X.env)::cq es X.env:=by rfl)(bC:(fA pos (cq es X.env)).any (·.1)=az:=by rfl):
  PE X (.Call (.Name x p) (e::es) [] pos) (Ar C sp dvs E t):=by
 intro pins s y H Q I h;refine q_ (pF I O L ?_ z);refine zP I.ok.mod.kin M.kp (ba (V _ _ s y H _ I h) λus W ⟨vs,H1,G,r,q⟩=>#[G.dN,?_]) S bC;exact LR M F J U hd hx G r q
theorem Uz(M:Mk X.K C f)(F:aV X.prog X.w X.K X.mg X.base CX k f fd ps sp)(z:dn (k+1) X.A)(J:Gl X x)(G:X.mg x=aa (.ref C))(L:Binds X.K fd ps ds)(hd:Vals dvs ds)(hx:Passes CX X E)(q:(x==("__debug__":au))=az:=by decide):PE X (.Call (.Name x p) [] [] pos) (Ar C sp dvs E jS):=by
 intro pins s y H Q I h;refine q_ (pF I J G ?_ q);exact DT I.dN M.kp (LR (us:=[]) M F z L hd hx I .nil h)
end
section
variable {E:XK}
variable {g:List aE->List aE->List aE}
end
structure vw(N P:List au)(sc:fS):Prop where
 kind:sc.kind=.function
 co:sc.isCoroutine=az
 gen:sc.isGenerator=az
 nd:N.Nodup
 pre:N.take P.length=P
 par:∀x∈P,sc.names.lookup x=aa .local\/sc.names.lookup x=aa .cell
 UA:∀y∈sc.names,y.2≠.free
theorem LS{kindOf}{x}:∀{binds}{m},(∀v,(x,v)∉binds)->bindL kindOf binds m x=m x
 |[],_,_=>Z
 |(n,v)::r,m,h=>by
  unfold bindL;rw[LS λw hw=>h w (bI _ hw)]
  split
  .have:x≠n:=by rintro rfl;exact h v bH
   simp[this]
  .rfl
theorem LU{kindOf}{x}:∀{binds}{m},(∀v,(x,v)∉binds)->bindC kindOf binds m x=m x
 |[],_,_=>Z
 |(n,v)::r,m,h=>by
  unfold bindC;rw[LU λw hw=>h w (bI _ hw)]
  split
  .rfl
  .have:x≠n:=by rintro rfl;exact h v bH
   simp[this]
theorem LV{kindOf}{x}{v}:∀{P:List _}{vs}{i:Nat}{m},P.Nodup->P[i]? =aa x->vs[i]? =aa v->kindOf x=aa .local->
  bindL kindOf (P.zip vs) m x=aa v
 |[],_,_,_,_,h,_,_=>by simp at h
 |_::_,[],_,_,_,_,h,_=>by simp at h
 |p::P,w::vs,0,m,nd,h1,h2,q=>by
  simp at h1 h2;subst h1;subst h2;show bindL _ ((p,w)::P.zip vs) m p=_;unfold bindL;rw[LS λv z=>(nq.mp nd).1 (yZ z).1,aC q];simp
 |p::P,w::vs,i+1,m,nd,h1,h2,q=>by
  unfold bindL;exact LV (nq.mp nd).2 (by simpa using h1) (by simpa using h2) q
theorem LW{kindOf}{x}{v}:∀{P:List _}{vs}{i:Nat}{m},P.Nodup->P[i]? =aa x->vs[i]? =aa v->kindOf x≠aa .local->
  bindC kindOf (P.zip vs) m x=aa v
 |[],_,_,_,_,h,_,_=>by simp at h
 |_::_,[],_,_,_,_,h,_=>by simp at h
 |p::P,w::vs,0,m,nd,h1,h2,q=>by
  simp at h1 h2;subst h1;subst h2;show bindC _ ((p,w)::P.zip vs) m p=_;unfold bindC;rw[LU λv z=>(nq.mp nd).1 (yZ z).1,aw q];simp
 |p::P,w::vs,i+1,m,nd,h1,h2,q=>by
  unfold bindC;exact LW (nq.mp nd).2 (by simpa using h1) (by simpa using h2) q
noncomputable def start(N:List au)(vs:List V):St:=vs.map aa ++cR (N.length-vs.length) ae
noncomputable def pJ(CX:mI)(P:gB)(w:aS)(K:aP)(mg:au->Option aE)(base:aU)(N:List au)(qual:au)(scope:fS)(f:af)(z:aE)(A:iI)(outer:List eN)(s:aT)(H:Hp)(E:XK):Cx where
 prog:=P
 w:=w
 K:=K
 mg:=mg
 base:=base
 A:=A.deeper (jH qual scope s.heap.objs.size f z)
 N:=N
 fj:=s
 H_0:=H
 env:=jH qual scope s.heap.objs.size f z
 outer:=outer
 stack:=jH qual scope s.heap.objs.size f z::outer
 ex:=[]
 calm:=ai
 fn:=λx=>ai
 pn:=[]
 xe:=λe s'=>aG (aH P w) (A.deeper (jH qual scope s.heap.objs.size f z)) (leaving (jH qual scope s.heap.objs.size f z) e) (λx q=>CX outer H s E e q) (λF q=>CX outer H s E F q) s'
theorem LX{z:fS}(h:z.names.lookup x=aa .cell):∃c,(eH n z.names []).lookup x=aa c:=by
 have q:=KI _ n [] (.inl h);exact Ip.mp q
theorem UB{w}{O}{E}(S:vw N ps scope)(hd:A.handled=ae)(F:rP P w K mg base A outer s H)(hl:vs.length=ps.length)(r:Vals vs us)(x:InCallC s s.heap.objs.size (bindL (jH qual scope s.heap.objs.size f O).kindOf (ps.zip us) λt=>ae) (eH (s.heap.objs.size+1) scope.names []) (bindC (jH qual scope s.heap.objs.size f O).kindOf (ps.zip us) λt=>ae) U):
  Inv (pJ CX P w K mg base N qual scope f O A outer s H E) [] (start N vs) H U:=by
 have bC:ps.length<=N.length:=by have:=congrArg tm S.pre;rw[gw] at this;lia
 obtain⟨h1,tk,rfl,W⟩:=x.done;have G:∀b,b∉(pJ CX P w K mg base N qual scope f O A outer s H E).ex:=λb z=>absurd (show b∈([]) from z) (by simp)
 exists #[F.mod,S.kind,Z,Z,bb _,λy z c h1 h2=>?_,λy I=>?_,λy c t h=>?_,λt=>hd,iI.frames_deeper F.frames,.inr #[Z,Z],λb z=>absurd z (G b),F.bs,F.jj,λb t t=>G b,λb z=>absurd z (G b),F.gd,F.jP],
  Z,F.bare,Un.kept W,#[_,x.toInCall.ns,λi y v h1 h2 h3=>?_],λy c h=>#[_,x.cell y c h],F.ax.fresh (bb _),λy c h=>?_,λp L=>absurd (show p∈([]) from L) (by simp),F.ax.kept W
 .exact name_of_addr x.apart (jb h1) (jb h2)
 .obtain I|I:=I
  .exact LX I
  .exact absurd Z (S.UA _ (jb I))
 .exact tD (x.above y c (jb h))
 .have hi:i<vs.length:=by
   unfold start at h2;by_cases hi:i<vs.length
   .exact hi
   .rw[Cq (by simpa using hi)] at h2
    rw[Hz] at h2
    split at h2<;>cases h2
  have d:vs[i]? =aa v:=by
   unfold start at h2;rw[yU (by simpa using hi),bL] at h2
   cases e:vs[i]? with
   |none=>rw[e] at h2;cases h2
   |some a=>rw[e] at h2;cases h2;rfl
  obtain⟨u,V,Y⟩:=r.get d;have L:ps[i]? =aa y:=by
   rwa[<-S.pre,HB (by simp_all)]
  have J:ps.Nodup:=by rw[<-S.pre];exact S.nd.sublist (List.take_sublist ..)
  exists u,Y;obtain k|k:=S.par y (dg L)
  .exact .inl #[k,LV J L V k]
  .obtain⟨c,e⟩:=LX k;refine .inr #[.inl k,c,e,?_];have q:=x.cell y c e;rwa[LW J L V (by show scope.names.lookup y≠_;rw[k];decide)] at q
 .exact F.ax.fresh (tD (x.above y c (jb h)))
 .delta start;show _=N.length;rw[b6,aJ,Cw];simp_all
theorem LY{w}{params}{dV kV doc pm z ct oc}(lk:K.lookup f=aa #[oc,od,.func (pj name qual params body scope dV kV doc pm an z ct),osl])(hcd:zQ K z qual=ai)(S:vw N ps scope)(len:∀vs H Q E,sp vs H Q E->vs.length=ps.length)(L:∀A outer s H vs Q E,dn k (A.deeper (jH qual scope s.heap.objs.size f z))->sp vs H Q E->
   ∃t,fE (pJ CX P w K mg base N qual scope f z A outer s H E) body t/\t {nx:=λc H'=>Q .bB H',rt:=Q} (start N vs) H):
  aV P w K mg base CX (k+1) f (pj name qual params body scope dV kV doc pm an z ct) ps sp:=by
 refine#[len,λA outer s H args us vs Q E hr Y hb r U=>?_];have hl:=len _ _ _ _ U;have KX:=Y.mod.kin.keeps λb o e=>(Y.bs b o e).1;have lim:=Y.mod.nolimit.keeps λb o e=>(Y.bs b o e).1;have G:∀y∈ps.zip us,scope.names.lookup y.1=aa _\/(scope.names.lookup y.1=aa _/\((eH (s.heap.objs.size+1) _ []).lookup y.1).isSome=ai):=λ⟨n,v⟩ hy=>by
  obtain q|q:=S.par n (yZ hy).1
  .exact .inl q
  .exact .inr #[q,KI _ _ _ (.inl q)]
 refine codeAny_call_function hr.depth (KX _ _ lk) Z S.co S.gen Z (PySem.W.codeRec_of KX hcd) (hb _ _ _ _ ?_);refine wpAny_newFunctionEnv_cells S.kind G λenv he s1 x=>?_;subst he;refine#[lim.keeps x.toInCall.keep,codeAny_func ?_];obtain⟨t,ht,hq⟩:=L A _ s H vs Q E (hr.deeper _) U;have I:Inv (pJ CX P w K mg _ N qual _ f z A _ s H E) [] _ H s1:=UB S hr.hd Y hl r x;refine eD (ht [] s1 _ H _ I hq) (λfl s' O=>?_) λe s' O=>O;have fin:∀{F}{H'}{v}{u},Inv (pJ CX P w K mg base N qual scope f z A _ s H E) [] F H' s'->RelV v u->Q v H'->CE outer P w H s Q u s':=
  λ{F H' v u} J a q=>#[v,H',J.os,J.bare,J.base,J.ax,a,q]
 cases fl with
 |ret u=>
  obtain⟨v,F,H',J,a,q⟩:=O;exact fin J a q
 |next=>
  obtain⟨F,H',J,q⟩:=O;exact fin (v:=V.bB) J Z q
 |brk=>
  obtain⟨_,_,_,q⟩:=O;exact False.elim q
 |cont=>
  obtain⟨_,_,_,q⟩:=O;exact False.elim q
section
variable {r:List V->Hp->VK->Prop}
def tCB(r:List V->Hp->VK->Prop)(t:TA):TE:=λσ H Q=>t σ H λvs H1=>r vs H1 Q
theorem cz(V:jQ X (.builtin id) r)(S:Gl X x)(O:X.mg x=ae)(J:hA x=aa (.builtin id))(W:PA X (e::es) t)(L:x≠"__name__":=by decide)(q:(x==("__debug__":au))=az:=by decide)(U:cq (e::es) X.env=(az,bT e X.env)::cq es X.env:=by rfl)(bC:(fA pos (cq es X.env)).any (·.1)=az:=by rfl):PE X (.Call (.Name x p) (e::es) [] pos) (tCB r t):=by
 intro pins s y H Q I h;refine q_ (rK I S O J ?_ L q);exact PyProof.Rows.callWith_builtin1 (ba (W _ _ s y H _ I h) λus z ⟨vs,H1,Y,F,G⟩=>V _ z y H1 vs us Q Y F G) U bC
theorem vx(V:jQ X (.type T) r)(S:Gl X x)(O:X.mg x=ae)(J:hA x=aa (.type T))(W:PA X (e::es) t)(L:x≠"__name__":=by decide)(q:(x==("__debug__":au))=az:=by decide)(U:cq (e::es) X.env=(az,bT e X.env)::cq es X.env:=by rfl)(bC:(fA pos (cq es X.env)).any (·.1)=az:=by rfl):PE X (.Call (.Name x p) (e::es) [] pos) (tCB r t):=by
 intro pins s y H Q I h;refine q_ (rK I S O J ?_ L q);exact tJ (ba (W _ _ s y H _ I h) λus z ⟨vs,H1,Y,F,G⟩=>V _ z y H1 vs us Q Y F G) U bC
end
end L2
namespace HT
section
open PySem.SeqAt
open PySem.AutoSeq1 (wpAny_loadPart')
open PySem.MeetsSeq PySem.MeetsSeq2 PySem.MeetsSeq3
end
section
variable {w:aS}
noncomputable def kC(n d:Nat):Option Int->Nat
 |none=>d
 |some v=>if v<0 then(v+ (n:Int)).toNat else min v.toNat n
theorem rQ(n d k:Nat):kC n d (aa k)=min k n:=by
 show(if k<0 then(k+ (n:Int)).toNat else min _ n)=min k n
 rw[aw (by simp),cI]
end
end HT
namespace L2
abbrev TO:=St->Hp->(Option Int->Hp->Prop)->Prop
end L2
variable {th tl:L2.TO}
namespace L2
def PO(X:Cx)(e:Option bW)(t:TO):Prop:=
 ∀(pins:List (af×bN))(s:aT)(σ:St)(H:Hp)(Q:Option Int->Hp->Prop),Inv X pins σ H s->t σ H Q->
  aG (aH X.prog X.w) X.A (evalPart e X.env) (λu s'=>∃o H',Inv X pins σ H' s'/\IsPart u o/\Q o H') X.xe s
inductive LZ(Q:Option Int->Hp->Prop)(x:V)(H1:Hp):Prop|m:∀i,x=.int i->Q (aa i) H1->LZ Q x H1
def UC(t:TE):TO:=λσ H Q=>t σ H (LZ Q)
theorem lx(h:PE X e te):PO X (aa e) (UC te):=by
 intro pins s y H Q I hw;refine ba (h _ s y H _ I hw) λu J ⟨x,H1,G,z,F⟩=>?_;obtain⟨i,rfl,q⟩:=F;obtain⟨t,rfl⟩:=z;exact#[_,H1,G,.int i t,q]
def SlR(X:Cx)(r:V->Option Int->Option Int->Hp->VK->Prop):Prop:=
 ∀(pins:List (af×bN))(s:aT)(σ:St)(H:Hp)(x:V)(v z q:aE)(lo hi:Option Int)(F:af)(Q:VK),Inv X pins σ H s->RelV x v->s.heap.IsSliceOf F z q .none->IsPart z lo->IsPart q hi->r x lo hi H Q->
  ∃T id,u6 (.type T) "__getitem__"=pure (aa (.builtin id))/\s.TypeIs v T/\aG (aH X.prog X.w) X.A (tL v (.ref F)) (EP X pins σ Q) X.xe s
def tSl(r:V->Option Int->Option Int->Hp->VK->Prop)(te:TE)(tl th:TO):TE:=λσ H Q=>te σ H λx H1=>tl σ H1 λl H2=>th σ H2 λu q=>r x l u q Q
theorem vy{r}(hr:SlR X r)(he:PE X e te)(hl:PO X lo tl)(hu:PO X hi th):PE X (.Subscript e (.Slice lo hi ae p2) pos) (tSl r te tl th):=by
 intro pins s y H Q I h;refine CN (ba (he _ s y H _ I h) λv O ⟨x,H1,I1,S,Y⟩=>?_);refine wpAny_Slice (ba (hl _ O y H1 _ I1 Y) λG L ⟨l,H2,I2,pl,W⟩=>ba (hu _ L y H2 _ I2 W) λF z ⟨u,J,I3,a,U⟩=>?_);apply aL;have I4:Inv X _ y J {z with heap:=z.heap.push {cls:=.type "slice",data:=.fields (tAr [G,F,.none])}}:=I3.kept  λb ob q=>bq _ q
 obtain⟨T,id,hT,ht,hg⟩:=hr _ _ y J x v G F l u _ Q I4 S (aU.IsSliceOf.new ..) pl a U
 exact tail_any ht hT hg (by with_unfolding_all rfl)
noncomputable def jT(xs:List V)(lo hi:Option Int):List V:=(xs.drop (HT.kC xs.length 0 lo)).take (HT.kC xs.length xs.length hi-HT.kC xs.length 0 lo)
theorem UD xs lo hi:(jT xs lo hi).length<=xs.length:=by
 delta jT;rw[gw,gY];lia
noncomputable def pK(n:Nat)(i:Int):Option Nat:=if 0<=i then(if i<n then aa i.toNat else ae) else if -(n:Int)<=i then aa (i+n).toNat else ae
noncomputable def rR{q:Type}(xs:List q)(i:Int):Option q:=(pK xs.length i).bind λj=>xs[j]?
theorem L0{i}(h:pK n i=aa j):wO i n=aa j/\j<n/\-n<=i/\i<n:=by
 delta pK at h;by_cases q:0<=i
 .rw[aC q] at h;by_cases h1:i<n
  .rw[aC h1] at h;have e:=bf h;exact#[by rw[Df q h1,e],by lia,by lia,h1]
  .rw[aw h1] at h;cases h
 .rw[aw q] at h;by_cases h1:-n<=i
  .rw[aC h1] at h;have e:=bf h;exact#[by rw[De (by simp_all) h1,e],by lia,h1,by lia]
  .rw[aw h1] at h;cases h
theorem EF{q}{xs}{i}{v:q}(h:rR xs i=aa v):∃j,wO i xs.length=aa j/\xs[j]? =aa v/\j<xs.length/\-xs.length<=i/\i<xs.length:=by
 delta rR at h;cases e:pK _ i with
 |none=>rw[e] at h;cases h
 |some j=>
  rw[e] at h;obtain⟨h1,h2,F,z⟩:=L0 e;exact#[j,h1,h,h2,F,z]
theorem bY{q}{xs}{v:q}(h:xs[j]? =aa v):rR xs j=aa v:=by
 have z:=(bx.mp h).1;have e:pK xs.length j=aa j:=by
  delta pK;rw[aC (by simp),aC (by simp_all)];simp
 delta rR;rwa[e]
def L4(b:bW):Prop:=∀o i,zx b az o i=C_ [o,i] (tL o i)
def ly(X:Cx)(r:R2):Prop:=
 ∀(value slice:bW)(pins:List (af×bN))(s:aT)(σ:St)(H:Hp)(x y:V)(v u:aE)(Q:VK),Inv X pins σ H s->RelV x v->RelV y u->r x y H Q->
  zx slice az v u=C_ [v,u] (tL v u)->aG (aH X.prog X.w) X.A (SA value slice v u) (EP X pins σ Q) X.xe s
def MtR(X:Cx)(id:String)(r:V->List V->Hp->VK->Prop):Prop:=
 ∀(pins:List (af×bN))(s:aT)(σ:St)(H:Hp)(x:V)(xs:List V)(v:aE)(us:List aE)(Q:VK),Inv X pins σ H s->RelV x v->Vals xs us->r x xs H Q->
  aG (aH X.prog X.w) X.A (call (.builtin id) (v::us)) (EP X pins σ Q) X.xe s
section
variable {a:bW}
theorem ly.or{r}(h:ly X r)(h':ly X r'):ly X (λx y H Q=>r x y H Q\/r' x y H Q):=by
 intro value slice pins s a H x y v u Q I F z q G;obtain q|q:=q
 .exact h _ _ _ s a H x y v u Q I F z q G
 .exact h' _ _ _ s a H x y v u Q I F z q G
theorem UE{r}(L:ly X r)(S:PE X a ta)(O:PE X b tb)(J:L4 b):PE X (.Subscript a b pos) (tOp r ta tb):=by
 intro pins s c H Q I h;exact CN (Er S O I h λv u z x y H2 U G F q=>L a b _ z c H2 x y v u Q U G F q (J ..))
inductive xr(K:aP)(x:V)(y:V)(H:Hp)(Q:VK):Prop|m:∀p xs i v,x=.ref p->y=.int i->ao K H p xs->rR xs i=aa v->Q v H->xr K x y H Q
inductive As(K:aP)(x:V)(y:V)(H:Hp)(Q:VK):Prop|m:∀p xs i v,x=.ref p->y=.int i->cM K H p xs->rR xs i=aa v->Q v H->As K x y H Q
inductive EG(x:V)(y:V)(H:Hp)(Q:VK):Prop|m:∀z i c,x=.str z->y=.int i->z.length<=bp->rR z.cps.toList i=aa c->Q (.str #[(tAr [c])]) H->EG x y H Q
theorem b8:ly X (xr X.K):=by
 intro value slice pins s b H x y v u Q I U S h J;rcases h with⟨p,xs,i,z,rfl,rfl,V,Y,q⟩;cases U;obtain⟨t,rfl⟩:=S;rcases I.list V with⟨its,r,pl,hz⟩;rcases EF Y with⟨j,h1,h2,h3,h4,a⟩;obtain⟨w,O,F⟩:=r.get h2;have W:=r.length;have hn:=vt;have fin:EP X _ b Q w s:=#[z,H,I,F,q];by_cases L:0<=i
 .have G:=by
   rw[Df L a] at h1;exact bf h1
  exact item_listR pl.isList L (by lia) (by rw[G];simpa using O) fin J
 .have G:(i+ its.toArray.size).toNat=j:=by
   rw[De (by simp_all) h4] at h1
   rw[dG,<-W];exact bf h1
  exact Iz pl.isList.typeIs slot_list_getitem.lookup
   (wpAny_getItem_list_neg pl.isList (by simp_all) (by rw[dG]<;>simp_all) (by lia) (by rw[G];simpa using O) #[Z,fin]) J
theorem ec:ly X (As X.K):=by
 intro value slice pins s a H x y v u Q I J G h L;obtain⟨p,xs,i,z,rfl,rfl,O,U,q⟩:=h;cases J;obtain⟨t,rfl⟩:=G;obtain⟨its,r,pl,hz⟩:=I.tuple O;obtain⟨j,h1,h2,h3⟩:=EF U;obtain⟨w,V,F⟩:=r.get h2;have S:=r.length;have W:=vt;have fin:EP X _ a Q w s:=#[z,H,I,F,q];exact Iz pl.typeIs slot_tuple_getitem.lookup
  (getItem_tuple pl (by lia) (by lia) (by rwa[dG,<-S]) (by simpa using V) #[Z,fin]) L
theorem UG:ly X EG:=by
 intro value slice pins s b H x y v u Q I G F h J;obtain⟨z,i,c,rfl,rfl,hz,O,q⟩:=h;obtain⟨t,rfl⟩:=G;obtain⟨t',rfl⟩:=F;obtain⟨j,h1,h2,a,U,S⟩:=EF O;have L:z.cps.toList.length=z.length:=by simp[au.length]
 rw[L] at h1 U S;have Y:=vt;exact tail_any (typeIs_str s z t) slot_str_getitem.lookup (getItem_str (by
  have W:decide (i < -(2^63))=az:=bO (by lia)
  have V:decide (i≥2^63)=az:=bO (by lia)
  rw[W,V,Cb]) (by rw[h1];simpa using h2) #[.str _,H,I.tok _,#[_,Z],q]) J
def rIx(K:aP):R2:=λx y H Q=>xr K x y H Q\/As K x y H Q\/EG x y H Q
theorem UH:ly X (rIx X.K):=b8.or (ec.or UG)
theorem UI(its:List _) n j  u :ro (·.setIfInBounds j u) {cls:=.type "list",data:=.seq its.toArray n}={cls:=.type "list",data:=.seq (its.set j u).toArray n}:=by
 simp[ro]
theorem Inv.lst{p}(I:Inv X pins σ H s)(h:H p=aa (.lst xs)):
  ∃(its:List _)(n:Nat),Vals xs its/\s.heap.get? p=aa {cls:=.type "list",data:=.seq its.toArray n}/\xs.length<=bp:=by
 rcases I.ax p _ h with⟨z,its,n,r,e⟩;exact#[_,n,r,e,z]
theorem Inv.UJ{p}{its'}{z}{f}(I:Inv X pins σ H s)(h:H p=aa (.lst xs))(G:s.heap.get? p=aa {cls:=.type "list",data:=.seq its.toArray n})(F:f {cls:=.type "list",data:=.seq its.toArray n}={cls:=.type "list",data:=.seq its'.toArray z})(r:Vals ys its')(hz:ys.length<=bp)  t :
  Inv X pins σ (upd H p (.lst ys)) {s with heap:=s.heap.update p f,toks:=t}:=by
 have e:(s.heap.update p f).get? p=aa {cls:=.type "list",data:=.seq its'.toArray z}:=by
  rw[ko f G (by rw[F]<;>rfl),F]
 apply I.write (by rw[h];trivial) (.inl Z) (λb u J q=>(jK _ _ (bG J)).trans q) #[_,e]
 exact#[hz,_,z,r,e]
inductive L5(o:V)(i:V)(v:V)(H:Hp)(Q:(Hp->Prop)):Prop|m:∀p xs k j,o=.ref p->i=.int k->H p=aa (.lst xs)->pK xs.length k=aa j->Q (upd H p (.lst (xs.set j v)))->L5 o i v H Q
theorem set_list:Ep X L5:=by
 intro pins s x H o i v ov iv u Q I Y a V h;obtain⟨p,xs,k,j,rfl,rfl,J,hj,q⟩:=h;cases Y;obtain⟨t,rfl⟩:=a;obtain⟨its,n,r,z,hz⟩:=I.lst J;obtain⟨h1,h2,O,L⟩:=L0 hj;have F:=r.length;have hn:=vt;have U:=
  I.UJ J z (UI _ n j u) (r.set V j) (by rwa[yY]) s.toks
 by_cases S:0<=k
 .have G:=by
   rw[Df S L] at h1;exact bf h1
  exact PySem.W.ki_setAt z S (by lia) (by rwa[dG,<-F]) (by rw[G];exact#[_,U,q])
 .have G:(k+ its.toArray.size).toNat=j:=by
   rw[De (by simp_all) O] at h1
   rw[dG,<-F];exact bf h1
  exact PySem.W.ki_setBack z (by simp_all) (by rwa[dG,<-F]) (by lia) (by rw[G];exact#[_,U,q])
theorem UK lo hi n:(tN lo hi ae n).1=((HT.kC n 0 lo:Nat))/\(tN lo hi ae n).2.1=((HT.kC n n hi:Nat))/\(tN lo hi ae n).2.2=1:=by
 refine#[?_,?_,Z]
 .cases lo with
  |none=>simp[tN,HT.kC]
  |some i=>
   simp[tN,HT.kC,Io,show(1:Int)>0 by decide,pD]
   by_cases h:i<0
   .simp only[h,pD]<;>grind
   .simp only[h,pC]<;>grind
 .cases hi with
  |none=>simp[tN,HT.kC]
  |some i=>
   simp[tN,HT.kC,Io,show(1:Int)>0 by decide,pD]
   by_cases h:i<0
   .simp only[h,pD]<;>grind
   .simp only[h,pC]<;>grind
theorem UL(its:List _) lo hi:slicePick its.toArray lo hi ae=((its.drop (HT.kC its.length 0 lo)).take (HT.kC its.length its.length hi-HT.kC its.length 0 lo)).toArray:=by
 rcases UK lo hi _ with⟨h1,h2,q⟩;delta slicePick;rw[h1,h2,q];simp only[sliceRange_one,pick_run]<;>rfl
inductive L6(K:aP)(x:V)(lo:Option Int)(hi:Option Int)(H:Hp)(Q:VK):Prop|m:∀a xs,x=.ref a->ao K H a xs->(∀p,H p=ae->Q (.ref p) (upd H p (.lst (jT xs lo hi))))->L6 K x lo hi H Q
theorem vz:SlR X (L6 X.K):=by
 intro pins s y H x v S O lo hi U Q I G L pl J h;obtain⟨a,xs,rfl,hx,q⟩:=h;cases G;obtain⟨its,r,F,hz⟩:=I.list hx;have z:=r.length;exists _,_,slot_list_getitem.lookup,F.isList.typeIs;refine wpAny_getItem_list_slice F.isList L pl J .none (by simp) ?_ (by rw[dG]<;>simp_all)
 rw[UL,<-z];refine#[.ref _,_,I.laid (λb V q=>bq _ q) (bb _) ?_,Z,q _ (I.ax.fresh (bb _))];exact#[bF (UD xs lo hi) hz,_,0,(r.drop _).take _,cJ _ Z]
noncomputable def iR:V->Bool
 |.bB=>ai
 |.bl _=>ai
 |.int _=>ai
 |.str _=>ai
 |_=>az
noncomputable def iS:V->V->Bool
 |.bB,.bB=>ai
 |.bl a,.bl b=>a==b
 |.bl a,.int b=>(if a then 1 else 0)==b
 |.int a,.bl b=>a==(if b then 1 else 0)
 |.int a,.int b=>a==b
 |.str a,.str b=>a==b
 |_,_=>az
theorem UM{x}{v}(z:RelV y u)(q:RelV x v)(G:iR y=ai)(F:iR x=ai):hU A s u v (iS y x):=by
 cases y with
 |bB=>
  cases z;cases x with
  |bB=>cases q;exact hU.same _
  |bl b=>cases q;exact hU.none_bool b
  |int b=>obtain⟨t,rfl⟩:=q;exact hU.none_int b t
  |str b=>obtain⟨t,rfl⟩:=q;exact hU.none_str b t
  |_=>exact absurd (F) cZ
 |bl a=>
  cases z;cases x with
  |bB=>cases q;exact hU.bool_none a
  |bl b=>cases q;exact hU.bool_bool a b
  |int b=>obtain⟨t,rfl⟩:=q;exact hU.bool_int a b t
  |str b=>obtain⟨t,rfl⟩:=q;exact hU.bool_str a b t
  |_=>exact absurd (F) cZ
 |int a=>
  obtain⟨t',rfl⟩:=z;cases x with
  |bB=>cases q;exact hU.int_none a t'
  |bl b=>cases q;exact hU.int_bool a t' b
  |int b=>obtain⟨t,rfl⟩:=q;exact hU.int_int a t' b t
  |str b=>obtain⟨t,rfl⟩:=q;exact Ks a t' b t
  |_=>exact absurd (F) cZ
 |str a=>
  obtain⟨t',rfl⟩:=z;cases x with
  |bB=>cases q;exact hU.str_none a t'
  |bl b=>cases q;exact hU.str_bool a t' b
  |int b=>obtain⟨t,rfl⟩:=q;exact Kt a t' b t
  |str b=>obtain⟨t,rfl⟩:=q;exact hU.str_str a t' b t
  |_=>exact absurd (F) cZ
 |_=>exact absurd (G) cZ
noncomputable def rS(x:V)(u:aE):Bool:=match u with
 |.none=>iS .bB x
 |.bool b=>iS (.bl b) x
 |.int i _=>iS (.int i) x
 |.str z _=>iS (.str z) x
 |_=>az
theorem xu{x}(r:RelV y u)(f:iR y=ai):rS x u=iS y x:=by
 cases y with
 |bB=>cases r;rfl
 |bl b=>cases r;rfl
 |int i=>obtain⟨t,rfl⟩:=r;rfl
 |str z=>obtain⟨t,rfl⟩:=r;rfl
 |_=>exact absurd (f) cZ
theorem xw{x}{xs}{us}(h:Vals xs us)(f:xs.all iR=ai):us.any (rS x)=xs.any λy=>iS y x:=by
 induction h with|nil=>rfl|cons r t g=>rw[yO,fQ] at f;rw[l7,l7,xu r f.1,g f.2]
theorem t6{A:iI}{s:aT}{x:V}{v:aE}(z:RelV x v)(F:iR x=ai){xs:List V}{us:List aE}(h:Vals xs us)(f:xs.all iR=ai):∀u∈us,hU A s u v (rS x u):=by
 induction h with
 |nil=>intro u q;cases q
 |cons r t g=>
  rw[yO,fQ] at f;intro G q;obtain rfl|q:=bM.mp q
  .rw[xu r f.1];exact UM r z f.1 F
  .exact g f.2 G q
noncomputable def nQ(x:V)(xs:List V):Bool:=xs.any λy=>iS y x
inductive rIn(K:aP)(neg:Bool)(x:V)(y:V)(H:Hp)(Q:VK):Prop|m:∀p xs,y=.ref p->(ao K H p xs\/cM K H p xs)->iR x=ai->xs.all iR=ai->Q (.bl (if neg then !nQ x xs else nQ x xs)) H->rIn K neg x y H Q
theorem EH:dR X (hG .In) (rIn X.K az):=by
 intro pins s a H x y v u Q I F J h;obtain⟨p,xs,rfl,z,G,fs⟩:=h;cases J;obtain z|z:=z
 .obtain⟨its,r,pl,hz⟩:=I.list z;refine Kp _ pl.isList (λw hw=>t6 F G r fs w (by simpa using hw)) #[.bl _,H,I,Z,?_]
  rwa[show its.toArray.any _=its.any (rS x) by simp,xw r fs]
 .obtain⟨its,r,pl,hz⟩:=I.tuple z;refine SeqAt.in_tupleAt _ pl (λw hw=>t6 F G r fs w (by simpa using hw)) #[.bl _,H,I,Z,?_]
  rwa[show its.toArray.any _=its.any (rS x) by simp,xw r fs]
theorem UN:dR X (hG .NotIn) (rIn X.K ai):=by
 intro pins s a H x y v u Q I F J h;obtain⟨p,xs,rfl,z,G,fs⟩:=h;cases J;obtain z|z:=z
 .obtain⟨its,r,pl,hz⟩:=I.list z;refine Kr _ pl.isList (λw hw=>t6 F G r fs w (by simpa using hw)) #[.bl _,H,I,Z,?_]
  rwa[show its.toArray.any _=its.any (rS x) by simp,xw r fs]
 .obtain⟨its,r,pl,hz⟩:=I.tuple z;refine SeqAt.notIn_tupleAt _ pl (λw hw=>t6 F G r fs w (by simpa using hw)) #[.bl _,H,I,Z,?_]
  rwa[show its.toArray.any _=its.any (rS x) by simp,xw r fs]
theorem c8:jQ X (.builtin "len") (λxs H Q=>∃p ys,xs=[.ref p]/\(ao X.K H p ys\/cM X.K H p ys)/\Q (.int ys.length) H):=by
 intro pins s x H xs us Q I r h;obtain⟨p,ys,rfl,F,q⟩:=h;obtain⟨u,rfl,G⟩:=vals1 r;cases G;have J:=vt;obtain F|F:=F
 .obtain⟨its,r',pl,hz⟩:=I.list F;have z:=r'.length;exact Calls.call_len_list pl.isList (by simp only[dG]<;>lia) #[.int _,H,I.tok _,#[_,by rw[dG,z]],q]
 .obtain⟨its,r',pl,hz⟩:=I.tuple F;have z:=r'.length;exact len_tuple pl (by simp only[dG]<;>lia) #[.int _,H,I.tok _,#[_,by rw[dG,z]],q]
theorem UO:jQ X (.type "list") (λxs H Q=>∃p ys,xs=[.ref p]/\(ao X.K H p ys\/cM X.K H p ys)/\∀l,H l=ae->Q (.ref l) (upd H l (.lst ys))):=by
 intro pins s x H xs us Q I r h;obtain⟨p,ys,rfl,F,q⟩:=h;obtain⟨u,rfl,O⟩:=vals1 r;cases O;have fin:∀its,Vals ys its->ys.length<=bp->∀h' z,(∀b o',s.heap.get? b=aa o'->h'.get? b=aa o')->
   h'.get? s.heap.objs.size=aa _->EP X _ x Q _ {s with heap:=h'}:=λits r' hz h' z kp e=>
  #[.ref _,_,I.laid kp (bb _) (show dC _ _ _ h' _ (.lst ys) from#[hz,_,z,r',e]),Z,q _ (I.ax.fresh (bb _))]
 obtain F|F:=F
 .obtain⟨its,r',pl,hz⟩:=I.list F;have G:=r'.length;obtain⟨o,J,L,n,hd⟩:=pl.isList;exact IJ p (.inl Z) J L hd (λh' z kp e=>fin _ r' hz h' z kp e) (by simp[dG]<;>simp_all)
 .obtain⟨its,r',pl,hz⟩:=I.tuple F;have G:=r'.length;obtain⟨o,J,L,n,hd⟩:=pl;exact IJ p (.inr Z) J L hd (λh' z kp e=>fin _ r' hz h' z kp e) (by simp[dG]<;>simp_all)
theorem L7:jQ X (.type "tuple") (λxs H Q=>∃p ys,xs=[.ref p]/\((ao X.K H p ys/\∀l,H l=ae->Q (.ref l) (upd H l (.tup ys)))\/(cM X.K H p ys/\Q (.ref p) H))):=by
 intro pins s x H xs us Q I r h;obtain⟨p,ys,rfl,h⟩:=h;obtain⟨u,rfl,J⟩:=vals1 r;cases J;obtain⟨z,q⟩|⟨z,q⟩:=h
 .obtain⟨its,r',pl,hz⟩:=I.list z;have F:=r'.length;refine call_tuple_list pl.isList (λh' kp=>?_) (by simp[dG]<;>simp_all)
  have G:=I.kept (t':=s.toks) kp
  have L:=
   G.laid (t':=s.toks) (λb o e=>bq _ e) (bb _) (show dC _ _ _ _ _ (.tup ys) from#[hz,_,r',IsTup.new ..])
  exact#[.ref _,_,L,Z,q _ (G.ax.fresh (bb _))]
 .obtain⟨its,r',pl,hz⟩:=I.tuple z;exact call_tuple_same pl #[.ref p,H,I,Z,q]
def tyV(K:aP)(T:String)(x:V)(H:Hp):Prop:=match x with
 |.str _=>T="str"
 |.int _=>T="int"
 |.ref p=>(T="list"/\∃xs,ao K H p xs)\/(T="tuple"/\∃o,K.lookup p=aa o/\o.cls=.type "tuple"/\o.dict=ae)\/
   (T="dict"/\((∃kvs,H p=aa (.dK kvs))\/∃kvs,H p=aa (.dT kvs)))\/(T="set"/\∃S n,H p=aa (.set S n))
 |_=>False
theorem UP{x}{v}(I:Inv X pins σ H s)(r:RelV x v)(ty:tyV X.K T x H):
  s.TypeIs v T/\∀a,v=.ref a->∃G,s.heap.get? a=aa G/\G.dict=ae:=by
 cases x with
 |str z=>
  obtain⟨t,rfl⟩:=r;cases (ty);exact#[typeIs_str s z t,λy e=>nomatch e]
 |int i=>
  obtain⟨t,rfl⟩:=r;cases (ty);exact#[Dl s i t,λy e=>nomatch e]
 |ref p=>
  cases r;obtain⟨rfl,xs,J⟩|⟨rfl,o,q,L,hd⟩|⟨rfl,q⟩|⟨rfl,S,n,q⟩:=ty
  .obtain⟨its,_,pl,_⟩:=I.list J;refine#[pl.isList.typeIs,λa e=>?_];cases e;obtain⟨o,n,e,c,hd,_⟩:=pl;exact#[o,e,hd]
  .refine#[#[o,I.dN p o q,L],λa e=>?_];cases e;exact#[o,I.dN _ o q,hd]
  .have z:∃o,s.heap.get? p=aa o/\o.ExactDict:=by
    obtain⟨kvs,q⟩|⟨kvs,q⟩:=q
    .obtain⟨_,_,_,_,o,_,_,e,ex,_⟩:=I.ax p _ q;exact#[o,e,ex]
    .obtain⟨_,_,_,_,o,_,_,e,ex,_⟩:=I.ax p _ q;exact#[o,e,ex]
   obtain⟨o,e,ex⟩:=z;refine#[#[o,e,ex.1],λa F=>?_];cases F;exact#[o,e,ex.2.1]
  .obtain⟨o,_,_,_,e,ex,_⟩:=I.ax p _ q;refine#[#[o,e,ex.1],λa F=>?_];cases F;exact#[o,e,ex.2.1]
 |_=>exact False.elim ty
def tBM(K:aP)(T:String)(r:V->List V->Hp->VK->Prop)(to:TE)(t:TA):TE:=λσ H Q=>to σ H λx H1=>tyV K T x H1/\t σ H1 λxs H2=>r x xs H2 Q
variable {r:V->List V->Hp->VK->Prop}
theorem eP(pa:PlainAttrs T)(slot:Slot T name id)(J:typeOf (.builtin id)=pure (.type "method_descriptor"))(hm:MtR X id r)(ho:PE X o to)(ha:PA X (e::es) t)(F:o8 o name X.env (bT o X.env)=bT o X.env:=by rfl)(G:((fA cpos (cq (e::es) X.env)).all (λx=>!x.1)&&(CS cpos (C6 [] X.env)).all (λx=>x.1.isSome)
   && decide ((e::es).length+ ([]:List wC).length+ (if ([]:List wC).isEmpty then 0 else 1)<30))=ai:=by rfl)(z:(apos.endLine==cpos.line)=ai:=by rfl)(hs:cq (e::es) X.env=(az,bT e X.env)::cq es X.env:=by rfl)(q:(fA cpos (cq es X.env)).any (·.1)=az:=by rfl):
  PE X (.Call (.Attribute o name apos) (e::es) [] cpos) (tBM X.K T r to t):=by
 intro pins s y H Q I h;refine wpAny_Call_method_late F G z Z (ba (ho _ s y H _ I h) λv V ⟨x,H1,S,L,ty,a⟩=>?_);obtain⟨h1,h2⟩:=UP S L ty;exists T,id,pa,slot,J,h1,h2;have O:=ha cpos _ V y H1 _ S a;rw[hs] at O⊢;refine JH (by show(az ||(fA ..).any _)=az;rw[q]<;>rfl) (JI ?_)
 exact ba O λus U ⟨vs,H2,I2,W,Y⟩=>hm _ U y H2 x vs v us Q I2 L W Y
end
def MtM(X:Cx)(id:String)(r:V->List V->Hp->VK->Prop):Prop:=
 ∀(pins:List (af×bN))(s:aT)(σ:St)(H:Hp)(x:V)(xs:List V)(v:aE)(us:List aE)(Q:VK),Inv X pins σ H s->RelV x v->Vals xs us->r x xs H Q->
  aG (aH X.prog X.w) X.A (call (.builtin id) (v::us)) (EP X pins σ Q) X.xe s
theorem Vals.one:∀{x:V},Vals [x] us->∃u,us=[u]/\RelV x u:=by
 intro _ h;cases h with|cons r h=>cases h;exact#[_,Z,r]
theorem Vals.two:∀{x y:V}{us:List aE},Vals [x,y] us->∃u v,us=[u,v]/\RelV x u/\RelV y v:=by
 intro _ _ _ h;cases h with|cons r h=>cases h with|cons q h=>cases h;exact#[_,_,Z,r,q]
theorem Vals.eraseIdx:∀{xs}{us} i,Vals xs us->Vals (xs.eraseIdx i) (us.eraseIdx i)
 |_,_,_,.nil=>.nil
 |_,_,0,.cons _ t=>t
 |_,_,i+1,.cons r t=>.cons r (Vals.eraseIdx i t)
theorem Vals.rep{xs}{us}(h:Vals xs us):∀k,Vals (cR k xs).flatten (cR k us).flatten
 |0=>.nil
 |k+1=>by
  exact Vals.append h (Vals.rep h k)
theorem L8{q:Type}:∀(l:List q) i,(l.eraseIdx i).length<=l.length
 |[],_=>bb _
 |_::_,0=>qO _
 |_::r,i+1=>Nat.succ_le_succ (L8 r i)
theorem foldl_rep its:∀k (acc:List aE),
  Hx (λz q=>z ++q) acc.toArray (cR k its.toArray)=(acc++(cR k its).flatten).toArray
 |0,acc=>by simp
 |k+1,acc=>by
  have e:acc.toArray ++its.toArray=(acc ++its).toArray:=by simp
  have F:(acc ++its)++(cR k its).flatten=acc++(cR (k+1) its).flatten:=by
   rw[y2,wt,kf]
  rw[<-F,<-foldl_rep _ k _,<-e,y2,ma]
section
variable {b:af}
theorem Inv.Au{its'}{f}(I:Inv X pins σ H s)(L:H l=aa (.lst xs))(e:s.heap.get? l=aa {cls:=.type "list",data:=.seq its.toArray n})(G:f its.toArray=its'.toArray)(z:Vals ys its')(hz:ys.length<=bp):
  Inv X pins σ (upd H l (.lst ys)) {s with heap:=s.heap.update l (ro f),toks:=t'}:=by
 have q:=PySem.IsL.update e f;rw[G] at q;apply I.write (by rw[L];exact trivial) (.inl Z) (λO u J F=>(jK _ _ (bG J)).trans F) #[_,q]
 exact#[hz,_,_,z,q]
theorem Inv.L9(I:Inv X pins σ H s)(z:Vals ys its)(hz:ys.length<=bp):
  Inv X pins σ (upd H s.heap.objs.size (.lst ys)) {s with heap:=s.heap.push {cls:=.type "list",data:=.seq its.toArray},toks:=t'}:=
 I.laid (λx x q=>bq _ q) (bb _) #[hz,_,0,z,cJ _ Z]
theorem Inv.fresh(I:Inv X pins σ H s):H s.heap.objs.size=ae:=I.ax.fresh (bb _)
theorem Inv.rT(I:Inv X pins σ H s)(q:H l=aa (.lst xs)):xs.length<=bp/\∃(its:List _)(n:Nat),Vals xs its/\xs.length=its.length/\s.heap.get? l=aa {cls:=.type "list",data:=.seq its.toArray n}:=by
 rcases I.ax l _ q with⟨z,its,n,r,e⟩;exact#[z,_,n,r,r.length,e]
theorem EI(h:n<=bp):wX n=az:=by
 exact bO (by simp_all)
end
inductive L_(x:V)(vs:List V)(H:Hp)(Q:VK):Prop|m:∀l xs y,x=.ref l->vs=[y]->H l=aa (.lst xs)->xs.length<bp->Q .bB (upd H l (.lst (xs++[y])))->L_ x vs H Q
theorem jl:MtM X "list.append" L_:=by
 intro pins s a H x vs v us Q I J L h;obtain⟨l,xs,y,rfl,rfl,G,hz,q⟩:=h;cases J;obtain⟨u,rfl,O⟩:=L.one;obtain⟨z,its,n,r,S,e⟩:=I.rT G;refine nB F.slot_list_append #[_,e,Z] F.entry_list_append (F.args_list_append_2 ..) (PySem.list_append l _ n u (by rw[dG];simp_all)) #[e,?_]
 refine#[.bB,_,I.Au G e (by simp) (r.append (.cons O .nil)) ?_,Z,q]
 rw[b6,kT];assumption
inductive Ma(x:V)(vs:List V)(H:Hp)(Q:VK):Prop|m:∀l b xs zs,x=.ref l->vs=[.ref b]->H l=aa (.lst xs)->H b=aa (.lst zs)->xs.length+zs.length<=bp->Q .bB (upd H l (.lst (xs ++zs)))->Ma x vs H Q
theorem EJ:MtM X "list.extend" Ma:=by
 intro pins s y H x vs v us Q I L O h;obtain⟨l,b,xs,zs,rfl,rfl,J,Y,hz,q⟩:=h;cases L;obtain⟨u,rfl,S⟩:=O.one;cases S;obtain⟨z,its,n,r,hl,e⟩:=I.rT J;obtain⟨z2,F,V,U,W,a⟩:=I.rT Y;have hsz:its.toArray.size+F.toArray.size<=bp:=by rw[dG,dG];simp_all
 have G:¬(!its.toArray.isEmpty&&wX (its.toArray.size+F.toArray.size))=ai:=by
  rw[EI hsz,B_];exact cZ
 refine nB rj #[_,e,Z] JV (JP ..)
  (AutoSeq1.list_extend_list_list_0 l _ n b _ V G (by simp_all) (by lia)) #[e,a,?_]
 refine#[.bB,_,I.Au J e (by simp) (r.append U) ?_,Z,q]
 rw[b6];omega
inductive Mb(x:V)(vs:List V)(H:Hp)(Q:VK):Prop|m:∀l xs i k y,x=.ref l->vs=[.int i]->H l=aa (.lst xs)->-(2^63)<=i->i<2^63->wO i xs.length=aa k->xs[k]? =aa y->Q y (upd H l (.lst (xs.eraseIdx k)))->Mb x vs H Q
theorem UQ:MtM X "list.pop" Mb:=by
 intro pins s a H x vs v us Q I L O h;obtain⟨l,xs,i,k,y,rfl,rfl,J,h1,h2,W,U,q⟩:=h;cases L;obtain⟨u,rfl,S⟩:=O.one;obtain⟨t,rfl⟩:=S;obtain⟨z,its,n,r,V,e⟩:=I.rT J;obtain⟨w,hw,G⟩:=r.get U;refine nB F.slot_list_pop #[_,e,Z] F.entry_list_pop (F.args_list_pop_2 ..)
  (MeetsSeq.list_pop_at l _ n i t k w (IW h1 h2) (by rwa[dG,<-V]) (by rwa[<-nk]) (by rw[dG];simp_all)) #[e,?_]
 refine#[y,_,I.Au J e ?_ (r.eraseIdx k) ?_,G,q]
 .rw[List.eraseIdxIfInBounds_toArray]
 .have:=L8 xs k;exact Nat.le_trans ‹_› ‹_›
inductive xx(x:V)(y:V)(H:Hp)(Q:VK):Prop|m:∀l b xs zs,x=.ref l->y=.ref b->H l=aa (.lst xs)->H b=aa (.lst zs)->xs.length+zs.length<=bp->(∀p,H p=ae->Q (.ref p) (upd H p (.lst (xs ++zs))))->xx x y H Q
theorem lz:dR X (nA .Add) xx:=by
 intro pins s c H x y v u Q I J G h;obtain⟨l,b,xs,zs,rfl,rfl,S,U,hz,q⟩:=h;cases J;cases G;obtain⟨z,its,n,r,hl,e⟩:=I.rT S;obtain⟨Y,F,a,L,O,W⟩:=I.rT U;refine PySem.P.add_list e W ?_ (by rw[dG,dG];simp_all)
 have V:its.toArray ++F.toArray=(its ++F).toArray:=by simp
 rw[V];exact#[.ref _,_,I.L9 (r.append L) (by rw[b6];omega),Z,q _ I.fresh]
inductive Mc(x:V)(y:V)(H:Hp)(Q:VK):Prop|m:∀l k xs,x=.ref l->y=.int k->H l=aa (.lst xs)->-(2^63)<=k->k<2^63->xs.length*k.toNat<=bp->(∀p,H p=ae->Q (.ref p) (upd H p (.lst (cR k.toNat xs).flatten)))->Mc x y H Q
theorem len_rep{q:Type}(xs:List q) k:(cR k xs).flatten.length=k*xs.length:=by
 induction k with
 |zero=>simp
 |succ k z=>rw[y2,wt,b6,z,uO,qK]
theorem vA:dR X (nA .Mult) Mc:=by
 intro pins s c H x y v u Q I b Y h;obtain⟨l,k,xs,rfl,rfl,hH,h1,h2,hz,q⟩:=h;cases b;obtain⟨t,rfl⟩:=Y;obtain⟨z,its,n,r,hl,e⟩:=I.rT hH;have L:its.toArray.size*k.toNat<=bp:=by rwa[dG,<-hl]
 have S:¬its.toArray.size*k.toNat>(2^63-1)/8:=by
  have:bp<=(2^63-1)/8:=by decide
  lia
 have O:¬(!fi.List.listFitsIndex k)=ai:=by
  rw[IW h1 h2];exact cZ
 have G:¬wX (its.toArray.size*k.toNat)=ai:=by
  rw[EI L];exact cZ
 have J:Hx (λW V=>W ++V) #[] (cR (if its.toArray.isEmpty=ai then 0 else k.toNat) its.toArray)=(cR k.toNat its).flatten.toArray:=by
  have f0:=λm=>by
   have:=foldl_rep its m [];rwa[HM] at this
  rw[f0];cases its with
  |nil=>simp
  |cons a r'=>rw[aw (by simp)]
 refine wpAny_binaryOp_repeat_ref (by decide) #[_,e,Z] (λs'=>Dl s' k t) noFill_list_mul F.fills_int_mul J9 repeat_list F.slot_int_index.lookup
  (nB J9 (Dl s k t) F.entry_int_rmul (F.args_int_rmul_2 ..) (int___rmul___int_list k t l _ n)
   #[e,Z,#[_,e,Z],nB F.slot_list_mul #[_,e,Z] F.entry_list_mul (F.args_list_mul_2 ..) (AutoListH.list___mul___list_int_3 l _ n k t O S G) #[e,?_]])
 rw[J];exact#[.ref _,_,I.L9 (r.rep _) (by rwa[len_rep,d5]),Z,q _ I.fresh]
section
variable {w:aS}
set_option maxRecDepth 100000 in
end
theorem Vals.ints:∀{ns}{us},Vals (ns.map V.int) us->kj us ns
 |[],us,h=>by
  cases h;exact kj.nil
 |n::ns,us,h=>by
  cases h with
  |cons r t=>
   obtain⟨k,rfl⟩:=r;exact kj.cons n k (Vals.ints t)
theorem Md{us}{ns}(h:kj us ns):Vals (ns.map V.int) us:=by induction h with|nil=>exact Paired.nil|cons n t h f=>exact Paired.cons #[t,Z] f
theorem Vals.vB(r:Vals [V.ref a] us):us=[dH a]:=by
 cases r with
 |cons r t=>
  cases t;cases r;rfl
section
variable {w:aS}
theorem UR(G:A.handled=ae)(z:s.heap.IsList l its.toArray)(hi:kj its ns)(h:∀h' tk t',(∀b o,s.heap.get? b=aa o->h'.get? b=aa o)->Q (.int ns.sum t') {s with heap:=h',toks:=tk}):aG (aH prog w) A (call (.builtin "sum") [.ref l]) Q E s:=by
 obtain⟨xs,e⟩:=hi.allInts.items;have q:numsOf (C5 xs).toList=ns:=by rw[<-e];exact hi.numsOf
 rw[C9] at q;rw[e] at z;refine PySem.sum_intListG G z λh' tk t' F=>?_;have:=h h' tk t' F;rwa[preSum_eq,mj (by simp),q]
theorem US(L:A.handled=ae)(F:s.heap.IsList l its.toArray)(hi:kj its ns)(q:0<ns.length)(h:∀h' tk M t',(∀b o,s.heap.get? b=aa o->h'.get? b=aa o)->M∈ns->(∀a,a∈ns->a<=M)->Q (.int M t') {s with heap:=h',toks:=tk}):aG (aH prog w) A (call (.builtin "max") [.ref l]) Q E s:=by
 obtain⟨xs,e⟩:=hi.allInts.items;have z:numsOf (C5 xs).toList=ns:=by rw[<-e];exact hi.numsOf
 rw[C9] at z;subst z;rw[e] at F;have hsz:=by simpa using q
 refine PySem.max_intList L F hsz λv h' tk G I=>?_;obtain⟨t,rfl⟩:=IZ G;obtain⟨h1,h2⟩:=argBest_gt (numAt xs) (xs.size-1);refine h h' tk _ t I ?_ λa O=>?_
 .rw[zu];exact IX (by rw[aJ,fP];omega)
 .obtain⟨j,J,rfl⟩:=mem_getD O;rw[aJ,fP] at J;rw[<-zu];exact h2 j (by lia)
theorem UT(L:A.handled=ae)(F:s.heap.IsList l its.toArray)(hi:kj its ns)(q:0<ns.length)(h:∀h' tk M t',(∀b o,s.heap.get? b=aa o->h'.get? b=aa o)->M∈ns->(∀a,a∈ns->M<=a)->Q (.int M t') {s with heap:=h',toks:=tk}):aG (aH prog w) A (call (.builtin "min") [.ref l]) Q E s:=by
 obtain⟨xs,e⟩:=hi.allInts.items;have z:numsOf (C5 xs).toList=ns:=by rw[<-e];exact hi.numsOf
 rw[C9] at z;subst z;rw[e] at F;have hsz:=by simpa using q
 refine PySem.min_intList L F hsz λv h' tk G I=>?_;obtain⟨t,rfl⟩:=IZ G;obtain⟨h1,h2⟩:=argBest_lt (numAt xs) (xs.size-1);refine h h' tk _ t I ?_ λa O=>?_
 .rw[zu];exact IX (by rw[aJ,fP];omega)
 .obtain⟨j,J,rfl⟩:=mem_getD O;rw[aJ,fP] at J;rw[<-zu];exact h2 j (by lia)
end
inductive Me(K:aP)(vs:List V)(H:Hp)(Q:VK):Prop|m:∀(a:af)(ns:List Int),vs=[V.ref a]->ao K H a (ns.map V.int)->Q (.int ns.sum) H->Me K vs H Q
inductive Mf(K:aP)(vs:List V)(H:Hp)(Q:VK):Prop|m:∀(a:af)(ns:List Int),vs=[V.ref a]->ao K H a (ns.map V.int)->0<ns.length->(∀m,m∈ns->(∀y,y∈ns->y<=m)->Q (.int m) H)->Mf K vs H Q
inductive Mg(K:aP)(vs:List V)(H:Hp)(Q:VK):Prop|m:∀(a:af)(ns:List Int),vs=[V.ref a]->ao K H a (ns.map V.int)->0<ns.length->(∀m,m∈ns->(∀y,y∈ns->m<=y)->Q (.int m) H)->Mg K vs H Q
theorem xy(L:X.calm=ai):jQ X (.builtin "sum") (Me X.K):=by
 intro pins s x H vs us Q I r h;obtain⟨a,ns,rfl,F,q⟩:=h;obtain⟨its,z,G,_⟩:=I.list F;rw[Vals.vB r];exact UR (I.ok.hd L) G.isList z.ints λh' tk t' J=>#[.int _,H,I.kept J,#[_,Z],q]
theorem Mh(O:X.calm=ai):jQ X (.builtin "max") (Mf X.K):=by
 intro pins s x H vs us Q I r h;obtain⟨a,ns,rfl,G,z,q⟩:=h;obtain⟨its,F,J,_⟩:=I.list G;rw[Vals.vB r];exact US (I.ok.hd O) J.isList F.ints z λh' tk m t' L h1 h2=>#[.int _,H,I.kept L,#[_,Z],q m h1 h2]
theorem UU(O:X.calm=ai):jQ X (.builtin "min") (Mg X.K):=by
 intro pins s x H vs us Q I r h;obtain⟨a,ns,rfl,G,z,q⟩:=h;obtain⟨its,F,J,_⟩:=I.list G;rw[Vals.vB r];exact UT (I.ok.hd O) J.isList F.ints z λh' tk m t' L h1 h2=>#[.int _,H,I.kept L,#[_,Z],q m h1 h2]
inductive Mi(K:aP)(x:V)(xs:List V)(H:Hp)(Q:VK):Prop|m:∀(a:af)(ys:List V)(y:V)(j:Nat)(z:V),x=V.ref a->xs=[y]->ao K H a ys->iR y=ai->ys.all iR=ai->ys[j]? =aa z->iS z y=ai->(∀(m:Nat)(z':V),m<j->ys[m]? =aa z'->iS z' y=az)->Q (.int (j:Nat)) H->Mi K x xs H Q
theorem Mj(f:ys.all iR=ai){z}(h:ys[j]? =aa z):iR z=ai:=jE.mp f z (dg h)
set_option tactic.hygienic true in
theorem UW:MtR X "list.index" (Mi X.K):=by
 intro pins s c H x xs v us Q I rx L h;obtain⟨a,ys,y,j,z,rfl,rfl,hs,fy,G,hz,S,W,q⟩:=h;cases rx;cases L with
 |cons ry rt=>
  rename_i uy ut;cases rt;obtain⟨its,J,⟨⟨cls,dd,data,sl⟩,n,ho,hc,hdn,hd⟩,hlen⟩:=I.list hs;simp at hc hd;subst hc hd;obtain⟨u,hu,ru⟩:=J.get hz;obtain⟨hjl,hje⟩:=bx.mp hu;have hvl:=J.length;have hj:=by simpa using hjl
  have hsl:=bQ;refine nB zH #[_,ho,Z] JW (JQ ..)
   (Kq a its.toArray n dd sl uy _ j hj (by lia) ?_ ?_) #[ho,λu' V=>t6 ry fy J G u' (by simpa using V),?_]
  .have e1:its.toArray[j]=u:=by simpa using hje
   rwa[e1,xu ru (Mj G hz)]
  .intro m hm b;have hml:=by simpa using hm
   have Y:m<ys.length:=by simp_all
   have F:=aY Y;obtain⟨u2,U,O⟩:=J.get F;obtain⟨_,hme⟩:=bx.mp U;have e1:its.toArray[m]=u2:=by simpa using hme
   rw[e1,xu O (Mj G F)];exact W m _ b F
  .exact#[.int j,H,I.tok _,#[_,Z],q]
mutual
inductive Dp(K:aP)(H:Hp):V->g_->Prop
 |bB:Dp K H .bB .none
 |bl (b:Bool):Dp K H (.bl b) (.bool b)
 |int (i:Int):Dp K H (.int i) (.int i)
 |str (x:au):Dp K H (.str x) (.str x)
 |lst {a:af} {xs:List V} {ds:List g_}:ao K H a xs->gg K H xs ds->Dp K H (.ref a) (.list ds)
 |tup {a:af} {xs:List V} {ds:List g_}:cM K H a xs->gg K H xs ds->Dp K H (.ref a) (.tuple ds)
inductive gg(K:aP)(H:Hp):List V->List g_->Prop
 |nil:gg K H [] []
 |cons {v:V} {vs:List V} {d:g_} {ds:List g_}:Dp K H v d->gg K H vs ds->gg K H (v::vs) (d::ds)
end
mutual
theorem Dp.reads(I:Inv X pins σ H s):∀(d:g_)(v:V)(u:aE),Dp X.K H v d->RelV v u->∃O,Reads s.heap u d O
 |.none,_,_,h,r=>by
  cases h;cases r;exact#[_,Reads.none]
 |.bool b,_,_,h,r=>by
  cases h;cases r;exact#[_,Reads.bool b]
 |.int i,_,_,h,r=>by
  cases h;obtain⟨t,rfl⟩:=r;exact#[_,Reads.int i t]
 |.str x,_,_,h,r=>by
  cases h;obtain⟨t,rfl⟩:=r;exact#[_,Reads.str x t]
 |.list ds,_,_,h,r=>by
  cases h with
  |lst z L=>
   cases r;obtain⟨its,q,⟨o,n,G,J,_,hd⟩,_⟩:=I.list z;obtain⟨O,F⟩:=Dp.readsAll I ds _ its L q;exact#[_,Reads.list G J hd F]
 |.tuple ds,_,_,h,r=>by
  cases h with
  |tup z L=>
   cases r;obtain⟨its,q,⟨o,G,J,n,hd⟩,_⟩:=I.tuple z;obtain⟨O,F⟩:=Dp.readsAll I ds _ its L q;exact#[_,Reads.tuple G J hd F]
 |.dict _,_,_,h,_=>by cases h
theorem Dp.readsAll(I:Inv X pins σ H s):∀(ds:List g_)(vs:List V)(us:List aE),gg X.K H vs ds->Vals vs us->∃q,CP s.heap us ds q
 |[],_,_,h,r=>by
  cases h;cases r;exact#[_,CP.nil]
 |d::ds,_,_,h,r=>by
  cases h with
  |cons h1 h2=>
   cases r with
   |cons F z=>
    obtain⟨q,J⟩:=Dp.reads I d _ _ h1 F;obtain⟨bs,G⟩:=Dp.readsAll I ds _ _ h2 z;exact#[_,CP.cons J G]
end
inductive Ml(K:aP)(x:V)(y:V)(H:Hp)(Q:VK):Prop|m:∀d e,Dp K H x d->Dp K H y e->ku d=ai->ku e=ai->Q (.bl (hJ d e)) H->Ml K x y H Q
theorem Mm(S:X.A.units+64<gC):dR X (hG .Eq) (Ml X.K):=by
 intro pins s a H x y v u Q I J G h;obtain⟨d,e,hd,U,F,z,q⟩:=h;obtain⟨V,O⟩:=Dp.reads I d x v hd J;obtain⟨bs,L⟩:=Dp.reads I e y u U G;exact SeqAt.compareEq_shaped O L F z S #[.bl _,H,I,Z,q]
abbrev Mn(h:aU)(c:af)(v:Option aE):Prop:=h.IsCell c v
noncomputable def UX(scope q:fS):fS:=
 {scope with names:=scope.names.map λ(n,k)=>if (k==.free&&q.kind==.function&&q.names.lookup n==aa .cell) then(n,.cell) else(n,k)}
noncomputable def fk(cells:List (au×af)):List (au×wD)->List (au×af)->List (au×af)
 |[],acc=>acc
 |(n,k)::r,acc=>if k==.free then fk cells r ((n,(cells.lookup n).getD 0)::acc) else fk cells r acc
theorem Mo env f (F:∀n k c,f (n,k) c=if k==.free then(do let a<-cellOf env n;pure (.yield ((n,a)::c))) else pure (.yield c)):
  ∀names acc,(∀y∈names,y.2=.free->∃c,env.cells.lookup y.1=aa c)->forIn names acc f=pure (fk env.cells names acc)
 |[],acc,_=>by rfl
 |(n,k)::r,acc,h=>by
  rw[Sy,F];have z:=λacc=>Mo _ f F r acc λy I=>h y (bI _ I);unfold fk;by_cases q:(k==w6)=ai
  .rw[aC q,aC q];obtain⟨c,G⟩:=h _ bH (by simpa using q)
   have e:cellOf env n=pure c:=by delta cellOf;rw[G]
   rw[e];have J:(env.cells.lookup n).getD 0=c:=by rw[G];rfl
   rw[J];exact z _
  .rw[aw q,aw q];exact z _
theorem Mp{scope}{env}(h:∀y∈scope.names,y.2=.free->∃c,env.cells.lookup y.1=aa c):closureFor scope env=pure (fk env.cells scope.names []):=by
 simp only[closureFor];rw[Mo _ _ (λn k c=>Z) _ [] h];rfl
theorem mem_lookup{q:Type}:∀{l:List (au×q)}{n}{c},(n,c)∈l->∃F,l.lookup n=aa F
 |(k,v)::r,n,c,h=>by
  rw[tp];cases z:n==k with
  |true=>exact#[_,Z]
  |false=>
   obtain e|h:=bM.mp h
   .cases e;simp at z
   .exact mem_lookup h
theorem Av{cells}:∀{names}{acc}{n}{c},(n,c)∈fk cells names acc->(n,c)∈acc\/((n,.free)∈names/\c=(cells.lookup n).getD 0)
 |[],_,_,_,h=>.inl h
 |(m,k)::r,acc,n,c,h=>by
  unfold fk at h
  split at h
  .rename_i q;have q:=by simpa using q
   obtain h|⟨h1,h2⟩:=Av h
   .obtain e|h:=bM.mp h
    .cases e;exact .inr #[q▸bH,Z]
    .exact .inl h
   .exact .inr #[bI _ h1,h2]
  .obtain h|⟨h1,h2⟩:=Av h
   .exact .inl h
   .exact .inr #[bI _ h1,h2]
theorem EK{cells}:∀{names}{acc}{p},p∈acc->p∈fk cells names acc
 |[],_,_,h=>h
 |(m,k)::r,acc,p,h=>by
  unfold fk
  split
  .exact EK (bI _ h)
  .exact EK h
theorem EL{cells}:∀{names}{acc}{n},(n,.free)∈names->(n,(cells.lookup n).getD 0)∈fk cells names acc
 |(m,k)::r,acc,n,h=>by
  unfold fk;obtain e|h:=bM.mp h
  .cases e;exact EK bH
  .split
   .exact EL h
   .exact EL h
theorem xA:∀{names:List (au×wD)}{h:aU}{acc:List (au×af)}{x:au}{c:af},(x,c)∈eH h.objs.size names acc->
  (x,c)∈acc\/((x,.cell)∈names/\h.objs.size<=c/\Mn (q7 h names) c ae)
 |[],_,_,_,_,h=>.inl h
 |(n,k)::r,h,acc,x,c,q=>by
  unfold eH at q;unfold q7
  split at q
  .rename_i z;rw[aC z];have z:k=.cell:=by simpa using z
   rw[<-dS h {cls:=.type "cell",data:=.cell ae}] at q;obtain q|⟨h1,h2,F⟩:=xA q
   .obtain e|q:=bM.mp q
    .cases e;exact .inr #[z▸bH,bb _,_,wN r _ _ _ (cJ _ Z),Z]
    .exact .inl q
   .rw[dS] at h2;exact .inr #[bI _ h1,y8 h2,F]
  .rename_i z;rw[aw z];obtain q|⟨h1,h2,F⟩:=xA q
   .exact .inl q
   .exact .inr #[bI _ h1,h2,F]
theorem Aw:∀{names}{n}{acc}{p},p∈acc->p∈eH n names acc
 |[],_,_,_,h=>h
 |(m,k)::r,n,acc,p,h=>by
  unfold eH
  split
  .exact Aw (bI _ h)
  .exact Aw h
theorem EM:∀{names}{n}{acc}{x},(x,.cell)∈names->∃c,(x,c)∈eH n names acc
 |(m,k)::r,n,acc,x,h=>by
  unfold eH;obtain e|h:=bM.mp h
  .cases e;exact#[n,Aw bH]
  .split
   .exact EM h
   .exact EM h
theorem EN:∀{names:List (au×wD)}{h:aU}{acc:List (au×af)}{x y:au}{c:af},(∀p∈acc,p.2<h.objs.size)->(∀x y c,(x,c)∈acc->(y,c)∈acc->x=y)->
  (x,c)∈eH h.objs.size names acc->(y,c)∈eH h.objs.size names acc->x=y
 |[],_,_,_,_,_,_,hi,h1,h2=>hi _ _ _ h1 h2
 |(n,k)::r,h,acc,x,y,c,q,hi,h1,h2=>by
  unfold eH at h1 h2
  split at h1
  .rename_i F;rw[aC F] at h2;rw[<-dS h {cls:=.type "cell",data:=.cell ae}] at h1 h2;refine EN (h:=h.push _) (λp z=>?_) (λx y c a b=>?_) h1 h2
   .rw[dS];obtain rfl|z:=bM.mp z
    .exact iH _
    .exact ki (q p z)
   .obtain e|a:=bM.mp a<;>obtain G|b:=bM.mp b
    .cases e;cases G;rfl
    .cases e;exact absurd (q _ b) (i_ _)
    .cases G;exact absurd (q _ a) (i_ _)
    .exact hi _ _ _ a b
  .rename_i F;rw[aw F] at h2;exact EN q hi h1 h2
theorem Mq{M}{A}{scope}{qual}{code}{Q}(h:Q (newEnv scope s.heap.objs.size globals (eH (s.heap.objs.size+1) scope.names closure) qual func code (aa around) builtins)
   {s with heap:=q7 (s.heap.push {cls:=.type "dict",data:=.dict #[]}) scope.names}):
  aG M A (Jc scope globals closure [] qual func code (aa around) builtins) Q E s:=by
 simp only[Jc,pD];refine aj (Dr ?_);refine aj (wpAny_layCells _ (λn k c=>Z) _ _ _ _ ?_);rw[dS ..]
 exact aj (aL (aL h))
theorem EO{z:fS}:∀{names:List (au×wD)}{x:au}{k:wD},
  (names.map λ(n,k)=>if (k==w6&&z.kind==.function&&z.names.lookup n==aa .cell) then(n,Kk) else(n,k)).lookup x=aa k->
  ∃G,names.lookup x=aa G/\(k=G\/(G=.free/\k=.cell))
 |[],_,_,h=>by simp at h
 |(n,q)::r,x,k,h=>by
  have I:=@EO z r x k;have h':mh x ((if (q==w6&&z.kind==.function&&z.names.lookup n==aa _)=ai then(n,Kk) else(n,q))::(r.map _))=aa k:=h
  cases hx:x==n with
  |true=>
   simp only[tp,hx];by_cases F:(q==w6&&z.kind==.function&&z.names.lookup n==aa .cell)=ai
   .rw[aC F] at h';simp only[tp,hx] at h';cases h';simp[fQ,fJ] at F;exact#[q,Z,.inr #[F.1.1,Z]]
   .rw[aw F] at h';simp only[tp,hx] at h';cases h';exact#[_,Z,.inl Z]
  |false=>
   simp[tp,hx];by_cases F:(q==w6&&z.kind==.function&&z.names.lookup n==aa .cell)=ai
   .rw[aC F] at h';simp only[tp,hx] at h';exact I h'
   .rw[aw F] at h';simp only[tp,hx] at h';exact I h'
structure t7(N:List au)(sc scope:fS)(own:List (au×Nat)):Prop where
 kind:scope.kind=.function
 uniq:∀y∈scope.names,scope.names.lookup y.1=aa y.2
 ix:∀p∈own,N[p.2]? =aa p.1
 free:∀y∈scope.names,y.2=.free->sc.names.lookup y.1=aa .cell\/sc.names.lookup y.1=aa .free
 own:∀y∈scope.names,y.2=.local\/y.2=.cell->y.1∈own.map (·.1)\/y.1∉N
noncomputable def wipe(σ:St):List Nat->St
 |[]=>σ
 |v::vs=>(wipe σ vs).set v ae
theorem Ax σ:∀vs,(wipe σ vs).length=σ.length
 |[]=>Z
 |v::vs=>by unfold wipe;rw[yY,Ax σ vs]
theorem Ay{σ}{i}{x}:∀{vs},(wipe σ vs)[i]? =aa (aa x)->σ[i]? =aa (aa x)/\i∉vs
 |[],h=>#[h,by simp]
 |v::vs,h=>by
  unfold wipe at h;by_cases hi:v=i
  .subst hi;by_cases q:v<(wipe σ vs).length
   .rw[yW q] at h;cases h
   .rw[fz (by simpa using q)] at h;cases h
  .rw[yV hi] at h;obtain⟨h1,h2⟩:=Ay h;exact#[h1,by simp[bM,Af];exact#[λe=>hi e.symm,h2]]
noncomputable abbrev Cx.c9(X:Cx)(s:aT)(H:Hp)(scope:fS)(cenv:eN)(fp:List af):Cx:={X with fj:=s,H_0:=H,env:=cenv,outer:=X.stack,ex:=fp,fn:=λx=>scope.names.lookup x==aa .cell,pn:=[],xe:=λy y=>False}
theorem Mr{scope}(I:Inv X pins σ H s)(ok:t7 X.N X.env.scope scope own)(hN:X.N.Nodup)(O:∀b∈fp,il X pins H b/\b<s.heap.objs.size):
  Inv (X.c9 s H scope (eB scope (eH (s.heap.objs.size+1) scope.names (fk X.env.cells scope.names [])) s.heap.objs.size X.env) fp) [] (wipe σ (own.map (·.2))) H {s with heap:=q7 (s.heap.push {cls:=.type "dict",data:=.dict #[]}) scope.names}:=by
 have hfree:∀y∈scope.names,y.2=.free->∃c,X.env.cells.lookup y.1=aa c:=λy V e=>by
  obtain k|k:=ok.free y V e
  .exact I.ok.has _ (.inl k)
  .exact I.ok.has _ (.inr k)
 generalize G:eB ..=F;have kp:∀b o,s.heap.get? b=aa o->(q7 (s.heap.push {cls:=.type "dict",data:=.dict #[]}) scope.names).get? b=aa o:=λb o e=>wN _ _ _ _ (bq _ e);have hL:F.locals=s.heap.objs.size:=by rw[<-G];rfl
 have J:F.cells=eH (s.heap.objs.size+1) scope.names (fk X.env.cells scope.names []):=by rw[<-G];rfl
 have hsc:F.scope=UX scope X.env.scope:=by rw[<-G];rfl
 rw[<-dS ..] at J;have cm:∀{y c},(y,c)∈fk X.env.cells _ []->X.env.cells.lookup y=aa c/\c<s.heap.objs.size:=λL=>by
  obtain L|⟨h1,rfl⟩:=Av L
  .cases L
  .obtain⟨c,hc⟩:=hfree _ h1 Z;rw[hc];obtain⟨w,z⟩:=I.cell _ _ hc;exact#[Z,z.lt]
 have mem:∀{y c},F.cells.lookup y=aa c->(X.env.cells.lookup y=aa c/\c<s.heap.objs.size)\/(s.heap.objs.size+1<=c/\Mn (q7 (s.heap.push {cls:=.type "dict",data:=.dict #[]}) _) c _):=λ e=>by
  rw[J] at e;obtain L|⟨_,h2,h3⟩:=xA (jb e)
  .exact .inl (cm L)
  .rw[dS] at h2;exact .inr #[h2,h3]
 have look:∀{y},scope.names.lookup y=aa _->∃c,F.cells.lookup y=aa c/\X.env.cells.lookup y=aa c:=λhl=>by
  have V:=jb hl;obtain⟨c',S⟩:=mem_lookup (Aw (EL V));rw[<-J] at S;exists c',S;rw[J] at S;obtain L|⟨h1,_⟩:=xA (jb S)
  .exact(cm L).1
  .have:=ok.uniq _ h1;rw[hl] at this;cases this
 have okB:(X.c9 s H scope F fp).Ok:=by
  refine#[I.ok.mod,by rw[hsc];exact ok.kind,by rw[<-G];exact I.ok.glob,by rw[<-G];exact I.ok.blt,by rw[hL];exact bb _,
   λy z c e1 e2=>?_,λy V=>?_,λy c z e=>?_,I.ok.hd,I.ok.frames,.inl Z,λb d=>#[?_,λy c e z=>?_],I.bs,bF I.ok.jj I.sz,λb o e d=>?_,λb d z=>?_,I.stack,I.vp]
  .have e1:=e1;have e2:=e2;rw[J] at e1 e2;refine EN (λp hp=>?_) (λy z c a b=>I.ok.inj y z c (cm a).1 (cm b).1) (jb e1) (jb e2);rw[dS];exact ki (cm hp).2
  .have key:∀k,F.kindOf y=aa k->(k=.cell\/k=.free)->∃c,F.cells.lookup y=aa c:=λk hk hk'=>by
    delta eN.kindOf at hk;rw[hsc] at hk;obtain⟨Y,e,r⟩:=EO hk;have:Y=.cell\/Y=.free:=by
     obtain rfl|⟨rfl,_⟩:=r
     .exact hk'
     .exact .inr Z
    obtain rfl|rfl:=this
    .obtain⟨c,L⟩:=EM (jb e);obtain⟨c'⟩:=mem_lookup L;exact#[c',by rwa[J]]
    .obtain⟨c,h1,_⟩:=look e;exact#[c,h1]
   obtain V|V:=V
   .exact key _ V (.inl Z)
   .exact key _ V (.inr Z)
  .have z:=by simpa using z
   rw[J] at e;obtain L|⟨_,h2,_⟩:=xA (jb e)
   .obtain L|⟨h1,_⟩:=Av L
    .cases L
    .have q:=ok.uniq _ h1;rw[z] at q;cases q
   .rw[dS] at h2;exact y8 h2
  .rw[hL];exact c6 (O b d).2
  .obtain⟨h1,_⟩|⟨h1,_⟩:=mem e
   .exact(O b d).1.2.2.2.2.1 y c h1 z
   .have h2:s.heap.objs.size+1<=b:=by rwa[<-z]
    exact absurd (eW (O b d).2 (y8 h2)) (i_ _)
  .obtain z|z:=(O b d).1.2.2.2.1
   .exact I.ok.nM b o e z
   .exact absurd (eW (bA e) (bF I.ok.jj z)) (i_ _)
  .obtain z|z:=bM.mp (I.Ah b z)
   .exact(O b d).1.2.1 z
   .exact(O b d).1.2.2.1 z
 refine#[okB,Z,I.bare,Un.kept kp,#[λx=>ae,?_,λi y av e1 e2 U=>?_],λy c e=>?_,?_,λy c e=>?_,λp hp=>?_,I.ax.kept kp,by rw[Ax];exact I.len]
 .rw[hL];exact Kf.keeps (Kf.new ..) λb o e=>wN _ _ _ _ e
 .obtain⟨e2,hne⟩:=Ay e2;have W:scope.names.lookup y=aa .free/\(F.kindOf y=aa .cell\/F.kindOf y=aa .free):=by
   have key:∀k,F.scope.names.lookup y=aa k->k=.local\/k=.cell\/k=.free->scope.names.lookup y=aa _/\(F.kindOf y=aa _\/F.kindOf y=aa _):=λk hk hk'=>by
    have hk0:=hk;rw[hsc] at hk;obtain⟨Y,e,r⟩:=EO hk;have no:¬(Y=.local\/Y=.cell):=λhh=>by
     obtain S|S:=ok.own _ (jb e) hh
     .obtain⟨p,hp,hpy⟩:=bK.mp S;have U:=ok.ix p hp;have:=hpy;rw[this] at U;exact hne (bK.mpr #[p,hp,Em hN U e1])
     .exact S (dg e1)
    obtain rfl|⟨rfl,rfl⟩:=r
    .obtain rfl|rfl|rfl:=hk'
     .exact absurd (.inl Z) no
     .exact absurd (.inr Z) no
     .exact#[e,.inr hk0]
    .exact#[e,.inl hk0]
   obtain U|U|U:=U
   .exact key _ U (.inl Z)
   .exact key _ U (.inr (.inl Z))
   .exact key _ U (.inr (.inr Z))
  obtain⟨m,hn,hl⟩:=I.loc;have hvis:Vis _ y:=(ok.free _ (jb W.1) Z).elim (λk=>.inr (.inl k)) (λk=>.inr (.inr k));obtain⟨w,r,q⟩:=hl i y av e1 e2 hvis;refine#[w,r,.inr #[W.2,?_]];obtain⟨c,h1,h2⟩:=look W.1;rcases q with⟨k,_⟩|⟨_,c',S,z⟩
  .have k:X.env.scope.names.lookup y=aa _:=k;obtain Y|Y:=ok.free _ (jb W.1) Z<;>rw[Y] at k<;>cases k
  .rw[h2] at S;cases S;exact#[c,h1,z.keeps kp]
 .obtain⟨h1,_⟩|⟨_,z⟩:=mem e
  .obtain⟨w,z⟩:=I.cell y c h1;exact#[w,z.keeps kp]
  .exact#[_,z]
 .rw[hL];exact I.ax.fresh (bb _)
 .obtain⟨h1,_⟩|⟨h1,_⟩:=mem e
  .exact I.fK y c h1
  .exact I.ax.fresh (y8 h1)
 .exact absurd (hp) (by simp)
theorem Ms{E}{D}{xs}{v}{Q}(I:Inv X pins σ H s)(G:H D=aa (.lst xs))(hz:xs.length<bp)(r:RelV y v)(h:∀s',Inv X pins σ (upd H D (.lst (xs++[y]))) s'->Q .none s'):aG (aH X.prog X.w) X.A (call (.builtin "list.append") [.ref D,v]) Q E s:=by
 rcases I.ax D _ G with⟨L,its,n,F,e⟩;have S:=F.length;refine append_at (hsz:=by rw[dG];simp_all) e λh' J z=>?_
 refine h _ (I.write (by rw[G];trivial) (.inl Z) (λb u O q=>(J.2 b O).trans q) #[_,z] #[by rwa[b6],_,n+1,F.append (.cons r .nil),?_])
 rw[z];simp
def PTs(X:Cx)(ifs:List bW)(t:TT):Prop:=
 ∀(pins:List (af×bN))(s:aT)(σ:St)(H:Hp)(Q:Bool->Hp->Prop),Inv X pins σ H s->t σ H Q->
  aG (aH X.prog X.w) X.A (forIn ifs ai λc r=>if r=ai then do let ok<-wM c X.env (bT c X.env);pure (yJ ok) else pure (yJ r)) (TP X pins σ Q) X.xe s
def xB:TT:=λx H Q=>Q ai H
theorem gh:PTs X [] xB:=λx x x H x I h=>wpAny_tests_nil #[H,I,h]
theorem pL{q}{t}{Q F:q->aT->Prop}{s}(h:aG M A t Q (λx x=>False) s)(G:∀a s,Q a s->F a s):aG M A t F E s:=eD h G λx x z=>False.elim z
theorem Mt{prog:gB}{w:aS}{A:iI}{R:wG->aT->Prop}{s:aT}{elt target iter:bW}{ifs:List bW}{scope:fS}{pos:iJ}{it acc:aE}{env:eN}(I:Nat->aT->Prop)(turn:∀n s,I n s->aG (aH prog w) A (km it) (λr F=>match r with
   |none=>R (.ok .next) F
   |some v=>aG (aH prog w) A (C7 target it v) (λy z=>aG (aH prog w) A (wH target env v) (λy L=>
     aG (aH prog w) A (forIn ifs ai λc r=>if r=ai then do let ok<-wM c env (bT c env);pure (yJ ok) else pure (yJ r)) (λok q=>
      if ok=ai then aG (aH prog w) A (bT elt env) (λx J=>
       aG (aH prog w) A (call (.builtin "list.append") [acc,x]) (λy G=>∃m,m<n/\I m G) (tM (aH prog w) A env λe s'=>R (.error e) s') J) (tM (aH prog w) A env λe s'=>R (.error e) s') q
      else ∃m,m<n/\I m q) (tM (aH prog w) A env λe s'=>R (.error e) s') L) (tM (aH prog w) A env λe s'=>R (.error e) s') z) (tM (aH prog w) A env λe s'=>R (.error e) s') F) (tM (aH prog w) A env λe s'=>R (.error e) s') s)(n:Nat)(h:I n s):
  gD (aH prog w) A (.compLoop (.ListComp elt [#[target,iter,ifs,0]] scope pos) 0 it acc env) R s:=by
 refine codeAny_loop Z I (λn s a=>?_) n h;show aG _ A _ _ _ s
 apply wpAny_noted;rw[compTurn_list];refine aj (tP (aj (eD (turn n s a) (λr F S=>?_) λy y h'=>h')));cases r with
 |none=>exact aL S
 |some v=>
  refine aj (eD S (λy z U=>?_) λy y h'=>h');refine aj (eD U (λy L Y=>aj (eD Y (λok q O=>?_) λy y h'=>h')) λy y h'=>h');cases ok with
  |false=>exact aL #[Z,O]
  |true=>
   exact aj (aj (eD O (λx J W=>aj (eD W (λy G V=>aL (aL #[Z,V])) λy y h'=>h')) λy y h'=>h'))
def t8(wi:TI)(g:TG)(tt:TT)(te:TE)(vs:List Nat):TE:=λσ H Q=>wi σ H λJ H1=>∀D,H1 D=ae->∃W:Nat->Nat->Hp->Prop,(∃m,W 0 m (upd H1 D (.lst [])))/\∀i m H,W i m H->
 (J.stop i H/\Q (.ref D) H)\/(J.go i H/\∃z:Hp->Prop,(∀H',z H'->∃F,F<m/\W (i+1) F H')/\∀x H',J.kA i H x H'->g x (wipe σ vs) H' λq H2=>wipe q vs=wipe σ vs/\tt q H2 λb I=>
  if b=ai then te q I λy G=>∃acc,G D=aa (.lst acc)/\acc.length<bp/\z (upd G D (.lst (acc++[y]))) else z I)
theorem Mu{pins:List (af×bN)}{s:aT}{σ:St}{H:Hp}{Q:VK}{elt tg iter:bW}{ifs:List bW}{scope:fS}{own:List (au×Nat)}{pos pos':iJ}{wi:TI}{g:TG}{tt:TT}{te:TE}{use:Option (aE->Sem Unit)}{Qf:aE->aT->Prop}(hc:X.calm=ai)(hN:X.N.Nodup)(I:Inv X pins σ H s)(hi:PI X tg iter wi)(ok:t7 X.N X.env.scope scope own)(hg:∀(s:aT)(H:Hp)(C:af)(cl:List (au×af))(fp:List af),PG (X.c9 s H scope (eB scope cl C X.env) fp) tg g)(ht:∀(s:aT)(H:Hp)(C:af)(cl:List (au×af))(fp:List af),PTs (X.c9 s H scope (eB scope cl C X.env) fp) ifs tt)(he:∀(s:aT)(H:Hp)(C:af)(cl:List (au×af))(fp:List af),PE (X.c9 s H scope (eB scope cl C X.env) fp) elt te)(hs:∀x,uW iter X.env x=pure x)(h:t8 wi g tt te (own.map (·.2)) σ H Q)(hRR:∀D C s' m H',Inv X pins σ H' s'->Q (.ref D) H'->s'.heap.Ns C m->il X pins H' C->wJ (aH X.prog X.w) X.A X.xe use Qf (.ref D) C (.ok .next) s'):
  aG (aH X.prog X.w) X.A (IS (.ListComp elt [#[tg,iter,ifs,0]] scope pos) scope X.env pos' (C8 []) az (bT iter X.env) use) Qf X.xe s:=by
 have a:∀y∈scope.names,y.2=.free->∃c,X.env.cells.lookup y.1=aa c:=λy hy e=>by
  obtain k|k:=ok.free y hy e
  .exact I.ok.has _ (.inl k)
  .exact I.ok.has _ (.inr k)
 refine Ji Z hs (Mp a) ok.kind (λy hy e=>by rw[ok.uniq y hy,e])
  (ba (hi _ s σ H _ I h) λxv s1 hx=>ba hx λitv s2 h2=>?_)
 rcases h2 with⟨it,fp,tn,J,H2,e,I2,T,st2,f2,q⟩;subst e;refine jd (Mq ?_) (by show 0<=bp;decide)
 generalize hD:s2.heap.objs.size=D;have hDn:=I2.ax.fresh (oY hD);rcases q D hDn with⟨W,⟨m0,w0⟩,turn⟩;generalize hs3:({s2 with heap:=s2.heap.push _})=F
 have I3:Inv X pins σ (upd H2 D (.lst [])) F:=by
  rw[<-hs3];refine I2.laid (λb o e=>bq _ e) (oY hD) #[c7 _,[],0,.nil,?_];rw[<-hD];exact cJ _ Z
 have h3:F.heap=s2.heap.push {cls:=.type "list",data:=.seq ([]).toArray}:=by rw[<-hs3]
 have sz:∀b∈fp,b<s2.heap.objs.size:=λb G=>by
  obtain⟨o,e,_⟩:=T.obj _ _ st2 b G;exact bA e
 have f3:∀b∈fp,il X _ (upd H2 D (.lst [])) b/\b<F.heap.objs.size:=λb G=>by
  have hlt:=sz b G;refine#[#[?_,(f2 b G).2],by rw[h3,dS];exact ki hlt]
  rw[aB (by rw[<-hD];exact c6 hlt)]
  exact(f2 b G).1
 have st3:tn 0 F.heap:=T.keep _ _ _ st2 λb t o e=>by rw[h3];exact bq _ e
 have I4:=Mr I3 ok hN f3;have pg:=hg F (upd H2 D (.lst [])) F.heap.objs.size (eH (F.heap.objs.size+1) scope.names (fk X.env.cells scope.names [])) fp;have pt:=ht F (upd H2 D (.lst [])) F.heap.objs.size (eH (F.heap.objs.size+1) scope.names (fk X.env.cells scope.names [])) fp;have pe:=he F (upd H2 D (.lst [])) F.heap.objs.size (eH (F.heap.objs.size+1) scope.names (fk X.env.cells scope.names [])) fp;show gD _ _ (.compStart _ 0 _ _ (eB _ (eH ..) F.heap.objs.size _)) ..
 have nfp:=λb G=>(f3 b G).1.1;generalize hce:eB ..=L at I4 pg pt pe⊢;have cL:L.locals=F.heap.objs.size:=by subst hce;rfl
 generalize hH3:upd H2 D _=U at I3 I4 pg pt pe w0 nfp f3;generalize hs4:({F with heap:=q7 ..})=s4 at I4⊢
 have st4:tn 0 s4.heap:=T.keep _ _ _ st3 λb t o e=>by rw[<-hs4];exact wN _ _ _ _ (bq _ e)
 have O:∀{σ'}{H'}{s'},Inv _ [] σ' H' s'->(∀b∈fp,H' b=ae)->∀b∈fp,il (X.c9 F U scope L fp) [] H' b:=λI' hn b G=>
  #[hn b G,(I'.ok.mD b G).1,I'.ok.mE b G,.inl G,λx c e=>(I'.ok.mD b G).2 x c e,λp hp=>absurd (hp) (by simp)]
 have loop:gD (aH X.prog X.w) X.A (.compLoop (.ListComp elt [#[tg,iter,ifs,0]] scope pos) 0 (.ref it) (.ref D) L) (wJ (aH X.prog X.w) X.A X.xe use Qf (.ref D) F.heap.objs.size) s4:=by
  refine Mt (λn s'=>∃i H',Inv _ [] _ H' s'/\tn i s'.heap/\(∀b∈fp,H' b=ae)/\W i n H') ?_ m0 #[0,U,I4,st4,nfp,w0];rintro n s5 l;rcases l with⟨i,H5,I5,st5,n5,w5⟩;rcases turn i n H5 w5 with⟨stop,qq⟩|⟨go,Nx,hNx,step⟩
  .have td:=T.done (X.c9 F U _ L fp) Z Z Z hc i [] s5 _ H5 (λt t=>False) I5 (O I5 n5) st5 stop;refine pL td λr s6 ⟨hr,I6⟩=>?_;subst hr;have I7:=I3.tY I6.os I6.base I6.ax I6.bare λb G=>#[(f3 b G).1.2.2.2.1,(f3 b G).1.2.1,(f3 b G).1.2.2.2.2.1,(f3 b G).1.2.2.2.2.2];have nC:=by
    have z:=I6.free;rwa[cL] at z
   rcases I6.loc with⟨m,hn,_⟩;rw[cL] at hn;exact hRR D _ s6 m H5 I7 qq hn (I3.lu (bb _) nC)
  .have ti:=T.item (X.c9 F U _ L fp) Z Z Z hc i [] s5 _ H5 (λt t=>False) I5 (O I5 n5) st5 go;refine pL ti λr s6 ⟨u,hr,h6⟩=>?_;subst hr;refine pL h6 λt s7 ⟨x,H7,I7,r7,y7,Y,n7⟩=>?_;have I7':=I7.pinned (O I7 n7) (T.obj _ _ Y);refine pL (pg _ s7 _ H7 x u _ I7' r7 (step x H7 y7)) λt s8 ⟨S,H8,I8,hw8,q8⟩=>?_;refine pL (pt _ s8 S H8 _ I8 q8) λb s9 ⟨H9,I9,q9⟩=>?_;have fin:∀{s'}{H'},Inv _ ([] ++xm fp _) S H' s'->Nx H'->∃m,m<n/\∃i H',Inv (X.c9 F U scope L fp) [] _ H' s'/\tn i _/\(∀b∈fp,H' b=ae)/\W i m H':=λ{s' H'} I' nx=>by
    obtain⟨m',hm,w'⟩:=hNx H' nx;have V:∀b∈fp,∀o,s7.heap.get? b=aa o->s'.heap.get? b=aa o/\H' b=ae:=λb G o e=>
     let z:=I'.pin _ (gZ _ (gZ _ (Am G e)))
     #[z.1,z.2.1]
    have hl:(wipe σ (own.map (·.2))).length=S.length:=by rw[<-hw8,Ax]
    refine#[m',hm,_,H',(I'.xn).weak hl (λj v e=>?_),T.keep _ _ _ Y λb G o e=>(V b G o e).1,λb G=>?_,w']
    .rw[<-hw8] at e;exact(Ay e).1
    .obtain⟨o,e,_⟩:=T.obj _ _ Y b G;exact(V b G o e).2
   cases b with
   |false=>
    exact fin I9 q9
   |true=>
    refine pL (pe _ s9 S H9 _ I9 q9) λz s10 ⟨yv,H10,I10,r10,acc,hD10,hz10,nx⟩=>?_;exact Ms (X:=X.c9 F U _ L fp) I10 hD10 hz10 r10 λs11 I11=>fin I11 nx
 exact IP loop (T.self _ 0 _ _ _ st4 loop)
theorem pM{elt tg iter:bW}{ifs:List bW}{scope:fS}{own:List (au×Nat)}{pos:iJ}{wi:TI}{g:TG}{tt:TT}{te:TE}(S:X.calm=ai)(V:X.N.Nodup)(hi:PI X tg iter wi)(ok:t7 X.N X.env.scope scope own)(L:∀(s:aT)(H:Hp)(C:af)(cl:List (au×af))(fp:List af),PG (X.c9 s H scope (eB scope cl C X.env) fp) tg g)(F:∀(s:aT)(H:Hp)(C:af)(cl:List (au×af))(fp:List af),PTs (X.c9 s H scope (eB scope cl C X.env) fp) ifs tt)(O:∀(s:aT)(H:Hp)(C:af)(cl:List (au×af))(fp:List af),PE (X.c9 s H scope (eB scope cl C X.env) fp) elt te)(G:∀x,uW iter X.env x=pure x:=by intro _;rfl):
  PE X (.ListComp elt [#[tg,iter,ifs,0]] scope pos) (t8 wi g tt te (own.map (·.2))):=by
 intro pins s y H Q I h;refine Mu S V I hi ok L F O G h λD C s' m H' I' q J f=>#[m,J,λW z=>?_];rcases f with⟨f0,f1,f2,f3,a,Y⟩;exact#[.ref D,H',I'.turned (λb o U e=>(z.2 b U).trans e) f0 f1 f3 a Y,Z,q]
theorem pN{i:Nat}{y:au}{J:iJ}{elt tg iter:bW}{ifs:List bW}{scope:fS}{own:List (au×Nat)}{pos F:iJ}{wi:TI}{g:TG}{tt:TT}{te:TE}(hc:X.calm=ai)(W:X.N.Nodup)(hy:X.N[i]? =aa y)(G:X.env.scope.names.lookup y=aa .local)(S:pd (.ListComp elt [#[tg,iter,ifs,0]] scope pos) (aa (.Name y J)) F.line X.env=pure ai)(hi:PI X tg iter wi)(ok:t7 X.N X.env.scope scope own)(hg:∀(s:aT)(H:Hp)(C:af)(cl:List (au×af))(fp:List af),PG (X.c9 s H scope (eB scope cl C X.env) fp) tg g)(ht:∀(s:aT)(H:Hp)(C:af)(cl:List (au×af))(fp:List af),PTs (X.c9 s H scope (eB scope cl C X.env) fp) ifs tt)(he:∀(s:aT)(H:Hp)(C:af)(cl:List (au×af))(fp:List af),PE (X.c9 s H scope (eB scope cl C X.env) fp) elt te)(hs:∀x,uW iter X.env x=pure x:=by intro _;rfl):
  PS X (.Assign [.Name y J] (.ListComp elt [#[tg,iter,ifs,0]] scope pos) F) (jk (t8 wi g tt te (own.map (·.2))) (aR i)):=by
 intro pins s u H D I h;rw[exec_Assign_Name_used _ _ _ _ S];refine aj (tP (aj ?_));refine aj (ba (Mu hc W I hi ok hg ht he hs h λL C s' m H' I' q hn f=>?_) λt s' hq=>aL (aL hq));refine Jf (Lk (v:=V.ref L) I' W hy (.inl G) Z (λs2 I2 ⟨a,sb,ha⟩=>?_) (.inr G));rcases f with⟨f0,c,f2,f3,Y,f5⟩;have U:C≠a:=by
  obtain z|z:=ha
  .rwa[z]
  .exact λe=>Y y a z e.symm
 refine#[m,hn.sameBut sb U,λh3 O=>?_];exact#[_,H',I2.turned (λb o hb e=>(O.2 b hb).trans e) f0 c f3 Y f5,q]
section
variable {w:aS}
end
section
variable {κ:Type}[DecidableEq κ]
noncomputable def eh(kvs:List (κ×V))(k:κ):Option V:=(kvs.find? λq=>decide (q.1=k)).map (·.2)
noncomputable def putK(kvs:List (κ×V))(k:κ)(v:V):List (κ×V):=
 if (kvs.any λq=>decide (q.1=k))=ai then kvs.map (λq=>if q.1=k then(q.1,v) else q) else kvs++[(k,v)]
theorem lA{p}{r}{k:κ}(e:p.1=k):eh (p::r) k=aa p.2:=by simp[eh,e]
theorem lB{p}{r}{k:κ}(e:¬p.1=k):eh (p::r) k=eh r k:=by simp[eh,e]
theorem xC(k:κ):∀kvs,(kvs.any λq=>decide (q.1=k))=(eh kvs k).isSome
 |[]=>Z
 |p::r=>by
  rw[l7];by_cases e:p.1=k
  .simp[lA e,bX e,Ha,Ir]
  .rw[lB e,bO e,G_];exact xC k r
theorem Mv(k j:κ) y:∀kvs,eh (kvs.map λq=>if q.1=k then(q.1,y) else q) j=(eh kvs j).map λx=>if j=k then y else x
 |[]=>Z
 |p::r=>by
  have F:=Mv k j y r;rw[b7];by_cases h:p.1=k
  .rw[aC h];by_cases e:p.1=j
   .rw[lA (p:=(p.1,y)) e,lA e,uQ,aC (e.symm.trans h)]
   .rw[lB (p:=(p.1,y)) e,lB e,F]
  .rw[aw h];by_cases e:p.1=j
   .rw[lA e,lA e,uQ,aw (λz=>h (e.trans z))]
   .rw[lB e,lB e,F]
theorem Mw(k j:κ) y:∀kvs,eh kvs k=ae->eh (kvs++[(k,y)]) j=if j=k then aa y else eh kvs j
 |[],_=>by
  by_cases e:k=j
  .rw[aC e.symm];exact lA e
  .rw[aw (λz=>e z.symm)];exact lB e
 |p::r,q=>by
  rw[uH];have F:¬p.1=k:=λz=>by rw[lA z] at q;cases q
  rw[lB F] at q;have G:=Mw k j y r q;by_cases e:p.1=j
  .rw[lA e,lA e,aw (λz=>F (e.trans z))]
  .rw[lB e,lB e,G]
theorem Mx kvs (k j:κ) y:eh (putK kvs k y) j=if j=k then aa y else eh kvs j:=by
 delta putK;by_cases a:(kvs.any λz=>decide (z.1=k))=ai
 .rw[aC a,Mv];rw[xC] at a;by_cases e:j=k
  .obtain⟨x,hx⟩:=Ip.mp a;rw[aC e,e,hx,uQ,aC Z]
  .rw[aw e];cases eh _ j with
   |none=>rfl
   |some x=>rw[uQ,aw e]
 .rw[aw a];apply Mw k j y _;rw[xC] at a;cases q:eh _ k with
  |none=>rfl
  |some x=>rw[q] at a;exact(a Z).elim
theorem ER kvs (k:κ) v:(putK kvs k v).length<=kvs.length+1:=by
 delta putK
 split
 .rw[aJ];simp
 .rw[b6,bP,uI];simp
theorem fW.UY{o}{u}(r:fW o u):o.isSome=u.isSome:=by
 cases o with
 |none=>cases u with
  |none=>rfl
  |some _=>exact(r).elim
 |some _=>cases u with
  |none=>exact(r).elim
  |some _=>rfl
theorem fW.getD{o}{u}{d}{d'}(r:fW o u)(q:RelV d d'):RelV (o.getD d) (u.getD d'):=by
 cases o with
 |none=>cases u with
  |none=>exact q
  |some _=>exact(r).elim
 |some _=>cases u with
  |none=>exact(r).elim
  |some _=>exact r
theorem KV.val{kvs}{vs}(r:KV kvs vs)(k:κ):fW (eh kvs k) (u7 vs k):=by
 induction r with
 |nil=>exact vh
 |@cons p q ps F h t I=>
  obtain⟨h1⟩:=h;by_cases e:p.1=k
  .have G:=h1.symm.trans e;have b:u7 (q::F) k=aa q.2:=by simp[u7,G]
   rwa[lA e,b]
  .have G:¬q.1=k:=λz=>e (h1.trans z);have b:u7 (q::F) k=u7 F k:=by simp[u7,G]
   rwa[lB e,b]
theorem KV.any{kvs}{vs}(r:KV kvs vs)(k:κ):(kvs.any λq=>decide (q.1=k))=vs.any λq=>decide (q.1=k):=by
 induction r with
 |nil=>rfl
 |cons h t z=>rw[l7,l7,z,h.1]
theorem KV.ET{kvs}{vs}(r:KV kvs vs)(k:κ){y}{u}(G:RelV y u):
  KV (kvs.map λF=>if F.1=k then(F.1,y) else F) (vs.map λF=>if F.1=k then(F.1,u) else F):=by
 induction r with
 |nil=>exact .nil
 |@cons p q ps J h t I=>
  rw[b7,b7];refine .cons ?_ I;obtain⟨h1,h2⟩:=h;by_cases e:p.1=k
  .rw[aC e,aC (h1.symm.trans e)];exact#[h1,G]
  .rw[aw e,aw (λz=>e (h1.trans z))];exact#[h1,h2]
theorem KV.put{kvs}{vs}(r:KV kvs vs)(k:κ){y}{u}(q:RelV y u):KV (putK kvs k y) (stored vs k u):=by
 delta putK stored;rw[r.any k];by_cases e:(vs.any λz=>decide (z.1=k))=ai
 .rw[aC e,aC e];exact r.ET k q
 .rw[aw e,aw e];exact eX r #[Z,q]
theorem KV.length{kvs}{vs:List (κ×aE)}(r:KV kvs vs):kvs.length=vs.length:=bS r
end
theorem Az{P}{w}{k}{u}(r:RelV (kV k) u):(gH P w).is k u=ai:=by
 cases k with
 |inl i=>obtain⟨t,e⟩:=(r);subst e;exact Tw P w i t
 |inr x=>obtain⟨t,e⟩:=(r);subst e;exact Tx P w x t
theorem My{P}{w}:∀{ks}{us},Vals (ks.map kV) us->ItemsAre (gH P w) ks us
 |[],_,r=>by cases r;exact .nil
 |k::ks,_,r=>by
  cases r with
  |cons h t=>exact .cons (Az h) (My t)
abbrev KT(H:Hp):List (List Key×V)->List (List Key×af×aE)->Prop:=Paired λp q=>p.1=q.1/\H q.2.1=aa (.tup (p.1.map kV))/\RelV p.2 q.2.2
theorem KT.val{H}{kvs}{xs}(r:KT H kvs xs) k:fW (eh kvs k) ((atKey xs k).map (·.2)):=by
 induction r with
 |nil=>exact vh
 |@cons p q ps F h t I=>
  obtain⟨h1,_,h2⟩:=h;by_cases e:p.1=k
  .have G:=h1.symm.trans e;have b:atKey (q::F) k=aa q.2:=by simp[atKey,G]
   rwa[lA e,b]
  .have G:¬q.1=k:=λz=>e (h1.trans z);have b:atKey (q::F) k=atKey F k:=by simp[atKey,G]
   rwa[lB e,b]
theorem KT.ET{H}{kvs}{xs}(r:KT H kvs xs) k {y}{u}(G:RelV y u):
  KT H (kvs.map λF=>if F.1=k then(F.1,y) else F) (xs.map (putAt k u)):=by
 induction r with
 |nil=>exact .nil
 |@cons p q ps L h t I=>
  rw[b7,b7];refine .cons ?_ I;rcases h with⟨h1,h2,J⟩;delta putAt;by_cases e:p.1=k
  .rw[aC e,aC (h1.symm.trans e)];exact#[h1,h2,G]
  .rw[aw e,aw (λz=>e (h1.trans z))];exact#[h1,h2,J]
theorem KT.put{H}{kvs}{xs}(r:KT H kvs xs) k {b}{u}(G:H b=aa (.tup (k.map kV)))(z:RelV y u):
  KT H (putK kvs k y) (storedH xs k b u):=by
 have e:(kvs.any λF=>decide (F.1=k))=(atKey xs k).isSome:=by
  rw[xC,(r.val k).UY,Iq]
 delta putK storedH;rw[e];by_cases q:(atKey xs k).isSome=ai
 .rw[aC q,aC q];exact r.ET k z
 .rw[aw q,aw q];exact eX r #[Z,G,z]
theorem KT.keeps{H H'}{kvs}{xs}(r:KT H kvs xs)(q:∀b ys,H b=aa (.tup ys)->H' b=aa (.tup ys)):KT H' kvs xs:=
 Paired.eJ r λx x z=>#[z.1,q _ _ z.2.1,z.2.2]
section
variable {w:aS}
theorem Mz{u}(ok:cW P w H h)(e:Rd H a u):dC P w H h a u:=e.ok ok
theorem xD{kvs}(ok:cW P w H h)(e:Rd H a (.dK kvs)):kvs.length<=bp/\(a==jc)=az/\∃vs,KV kvs vs/\h.DictOf (gH P w) a vs:=
 Mz ok e
theorem UZ{kvs}(ok:cW P w H h)(e:H a=aa (.dK kvs)):kvs.length<=bp/\(a==jc)=az/\∃vs,KV kvs vs/\h.DictOf (gH P w) a vs:=xD ok (.inl e)
theorem AA{ks}(ok:cW P w H h)(e:H a=aa (.tup (ks.map kV))):(wQ (gH P w)).is h ks a:=by
 rcases(ok a _ e) with⟨_,its,r,o,h1,h2,n,q⟩;exact#[o,_,n,h1,h2,q,by simpa using My r]
theorem xE{kvs}(ok:cW P w H h)(e:Rd H a (.dT kvs)):kvs.length<=bp/\(a==jc)=az/\
  ∃xs,KT H kvs xs/\h.DictOfH (wQ (gH P w)) a xs:=by
 rcases(Mz ok e) with⟨z,y,xs,r,o,es,ep,h1,h2,L,J,I⟩;refine#[z,y,xs,r,o,es,ep,h1,h2,L,J,λx hx=>?_,I];have all:∀{l}{m},KT H l m->∀x∈m,(wQ (gH P w)).is h x.1 x.2.1:=by
  intro l m q
  induction q with
  |nil=>intro x hx;exact nomatch hx
  |@cons p q ps O F t G=>
   intro x hx;obtain e|hx:=bM.mp hx
   .subst e;exact AA ok (by rw[<-F.1];exact F.2.1)
   .exact G x hx
 exact all r x hx
theorem U0{kvs}(ok:cW P w H h)(e:H a=aa (.dT kvs)):kvs.length<=bp/\(a==jc)=az/\
  ∃xs,KT H kvs xs/\h.DictOfH (wQ (gH P w)) a xs:=xE ok (.inl e)
end
def vC(H:Hp)(a:af)(y:V)(r:Option V):Prop:=
 (∃kvs k,Rd H a (.dK kvs)/\y=kV k/\r=eh kvs k)\/∃kvs k b,Rd H a (.dT kvs)/\y=.ref b/\H b=aa (.tup (k.map kV))/\r=eh kvs k
def MA(H:Hp)(a:af)(y v:V)(H':Hp):Prop:=
 (∃kvs k,H a=aa (.dK kvs)/\y=kV k/\kvs.length<bp/\H'=upd H a (.dK (putK kvs k v)))\/
 ∃kvs k b,H a=aa (.dT kvs)/\y=.ref b/\H b=aa (.tup (k.map kV))/\kvs.length<bp/\H'=upd H a (.dT (putK kvs k v))
section
variable {o:Option V}
theorem Inv.big(I:Inv X pins σ H s):jc<s.heap.objs.size:=by
 have h:=(I.mod.glob.keeps I.bk).lt;exact gy (by decide) h
theorem U1{Q}(S:A.units+1<gC)(I:Inv X pins σ H s)(g:vC H a y (aa v))(O:RelV y u)(h:∀F s',Inv X pins σ H s'->RelV v F->Q F s'):
  aG (aH X.prog X.w) A (tL (.ref a) u) Q E s:=by
 rcases g with⟨kvs,k,e,J,l⟩|⟨kvs,k,b,e,J,V,l⟩
 .subst J;rcases xD I.ax e with⟨z,hd,vs,rel,L⟩;obtain⟨F,hw,q⟩:=fW.some_of (by rw[l];exact rel.val k)
  exact Jl (Az O) L.mapOf hw (h F _ (I.tok _) q)
 .subst J;cases (O);rcases xE I.ax e with⟨z,hd,xs,rel,L⟩;obtain⟨F,hw,q⟩:=fW.some_of (by rw[l];exact rel.val k)
  obtain⟨p,U,G⟩:=Iu.mp hw;apply wpAny_getItem_heap (Dk S) (AA I.ax V) L U;rw[G];exact h F _ (I.tok _) q
theorem MB{h'}{F}(I:Inv X pins σ H s)(G:rG (H a))(J:jJ a s.heap h')(L:∃q,h'.get? a=aa q)(new:dC X.prog X.w (upd H a F) h' a F):
  Inv X pins σ (upd H a F) {s with heap:=h',toks:=t'}:=
 I.write G (.inl Z) (λb q O z=>(J.2 b O).trans z) L new
theorem U2{P}{H'}{vs}(z:kvs.length<=bp)(hd:(a==jc)=az)(rel:KV kvs vs)(q:h'.DictOf (gH P w) a vs):
  dC P w H' h' a (.dK kvs):=#[z,hd,vs,rel,q]
theorem U3{H'}{Q}(hu:A.units+1<gC)(I:Inv X pins σ H s)(g:MA H a y v H')(V:RelV y u)(W:RelV v r)(h:∀s',Inv X pins σ H' s'->Q () s'):
  aG (aH X.prog X.w) A (zw (.ref a) u r) Q E s:=by
 rcases g with⟨kvs,k,e,O,l,S⟩|⟨kvs,k,b,e,O,d,l,S⟩
 .subst O S;rcases UZ I.ax e with⟨z,hd,vs,rel,U⟩;have hz:vs.length<=bp:=by rwa[<-rel.length]
  have L:(putK kvs k v).length<=bp:=by have:=ER kvs k v;exact Nat.le_trans ‹_› ‹_›
  refine wpAny_setItem_pairs (Az V) U λh' F J=>h _ ?_;have he:∃q,h'.get? a=aa q:=let ⟨q,_,_,G,_⟩:=F;#[q,G];exact MB I (by rw[e];exact vh) J he (U2 L hd (rel.put k W) F)
 .subst O S;cases (V);rcases U0 I.ax e with⟨z,hd,xs,rel,U⟩;have hz:xs.length<=bp:=by rwa[<-bS rel]
  have L:(putK kvs k v).length<=bp:=by have:=ER kvs k v;exact Nat.le_trans ‹_› ‹_›
  refine wpAny_setItem_heap (Dk hu) (AA I.ax d) U λh' F J=>h _ ?_;rcases F with⟨q,es,ep,G,h2,h3,h4,_,h5⟩;refine MB I (by rw[e];exact vh) J #[q,G] #[L,hd,_,(rel.put k d W).keeps λc ys Y=>?_,q,es,ep,G,h2,h3,h4,h5]
  rwa[aB (Tz Y e (λz=>nomatch z))]
end
section
variable {k:Key}
end
def EU(i:bW):Prop:=∀q z,zx i az q z=C_ [q,z] (tL q z)
theorem MC{prog}{s}{env}{T id}{Q}(S:u6 (.type T) "__getitem__"=pure (aa (.builtin id)))(O:EU slice)(h:aG (aH prog w) A (bT value env) (λo G=>aG (aH prog w) A (bT slice env) (λi q=>q.TypeIs o T/\aG (aH prog w) A (tL o i) Q E q) E G) E s):
  aG (aH prog w) A (bT (.Subscript value slice pos) env) Q E s:=by
 refine CN (eD h (λo G J=>eD J (λi q z=>?_) λy y x=>x) λy y x=>x);obtain⟨L,z⟩:=z;apply aj;refine aj (Jw L S ?_);have fin:aG (aH prog w) A (zx slice az o i) (λr F=>aG (aH prog w) A (letTemporaryGo value o r >>=λy=>pure r) Q E F) E q:=by
  rw[O o i];exact wpAny_operating (eD z (λr F I=>aj (wpAny_letTemporaryGo (aL I))) λy y x=>x)
 first
  |exact aL (aj fin)
  |exact aj _
  |exact aj _
theorem U4{X}{pins}{H}{a}{y}{o}(I:Inv X pins σ H s)(g:vC H a y o):s.TypeIs (.ref a) "dict":=by
 obtain⟨kvs,k,e,_⟩|⟨kvs,k,b,e,_⟩:=g
 .obtain⟨_,_,vs,_,q⟩:=xD I.ax e;exact q.typeIs
 .obtain⟨_,_,xs,_,q⟩:=xE I.ax e;exact q.typeIs
inductive MD(Q:VK)(x:V)(y:V)(H2:Hp):Prop|m:∀a v,x=.ref a->vC H2 a y (aa v)->Q v H2->MD Q x y H2
def U5(td ty:TE):TE:=λσ H Q=>td σ H λx H1=>ty σ H1 (MD Q x)
inductive ME(D:Ends)(σ:St)(v:V)(x:V)(y:V)(H3:Hp):Prop|m:∀a H4,x=.ref a->MA H3 a y v H4->D.nx σ H4->ME D σ v x y H3
def U6(td ty tv:TE):TS:=λD σ H=>tv σ H λv H1=>td σ H1 λx H2=>ty σ H2 (ME D σ v x)
section
variable {i:bW}{ty:TE}
theorem U7(S:X.A.units+1<gC)(V:PE X o td)(hi:PE X i ty)(U:EU i):PE X (.Subscript o i pos) (U5 td ty):=by
 intro pins s c H Q I h;refine MC J7.lookup U (ba (V _ s c H _ I h) λu F ⟨x,H1,Y,J,O⟩=>ba (hi _ F c H1 _ Y O) λiv s2 ⟨y,H2,z,G,a,v,ex,g,L⟩=>?_);subst ex;obtain rfl:u=dH a:=J;exact#[U4 z g,U1 S z g G λb s3 W q=>#[v,H2,W,q,L]]
theorem MF(V:X.A.units+1<gC)(Y:PE X o td)(hi:PE X i ty)(U:PE X value tv)(W:pd value (aa (.Subscript o i pos')) pos.line X.env=pure az):
  PS X (.Assign [.Subscript o i pos'] value pos) (U6 td ty tv):=by
 intro pins s c H D I h;refine wpAny_Assign_Subscript (ba (U _ s c H _ I h) λr z ⟨v,H1,I1,J,S⟩=>ba (Y _ z c H1 _ I1 S) λu q ⟨x,H2,I2,G,O⟩=>ba (hi _ q c H2 _ I2 O) λiv s3 ⟨y,H3,I3,F,a,H4,ex,g,L⟩=>?_) W;subst ex;obtain rfl:u=dH a:=G;exact U3 V I3 g F J λs4 b=>#[c,H4,b,L]
end
theorem U8{P}{H}(h:aU)(q:jc<h.objs.size):dC P w H (h.push {cls:=.type "dict",data:=.dict #[]}) h.objs.size (.dK []):=
 #[c7 _,kz.mpr (bG (c6 q)),[],.nil,Kh h]
theorem U9{P}{H}(h:aU)(q:jc<h.objs.size):dC P w H (h.push {cls:=.type "dict",data:=.dict #[]}) h.objs.size (.dT []):=
 #[c7 _,kz.mpr (bG (c6 q)),[],.nil,_,_,0,cJ _ Z,#[Z,Z,Z],Z,Z,mi]
def U_:TE:=λx H Q=>∀p,H p=ae->Q (.ref p) (upd H p (.dK []))
def Va:TE:=λx H Q=>∀p,H p=ae->Q (.ref p) (upd H p (.dT []))
theorem Vb:PE X (.Dict [] [] pos) U_:=λpins s y H Q I h=>
 Je #[.ref _,_,I.laid (λx x q=>bq _ q) (bb _) (U8 _ I.big),Z,h _ (I.ax.fresh (bb _))]
theorem Vc:PE X (.Dict [] [] pos) Va:=λpins s y H Q I h=>
 Je #[.ref _,_,I.laid (λx x q=>bq _ q) (bb _) (U9 _ I.big),Z,h _ (I.ax.fresh (bb _))]
noncomputable def lC(kvs more:List (Key×V)):List (Key×V):=more.foldl (λacc q=>putK acc q.1 q.2) kvs
theorem KV.merge:∀{more}{z}{kvs}{vs},KV more z->KV kvs vs->KV (lC kvs more) (merged vs z):=by
 intro more z kvs vs r;induction r generalizing kvs vs with
 |nil=>intro q;exact q
 |@cons p q ps I h t G=>
  intro F;have e:KV (putK kvs p.1 p.2) (stored vs q.1 q.2):=by
   have:=F.put p.1 h.2;rwa[<-h.1]
  exact G e
theorem MG:∀more kvs,(lC kvs more).length<=kvs.length+more.length
 |[],kvs=>by show kvs.length<=kvs.length+0;simp
 |p::r,kvs=>by
  have h1:=MG r (putK kvs p.1 p.2);have h2:=ER kvs p.1 p.2;show(lC (putK ..) r).length<=_;rw[bP];lia
structure M2(X:Cx)(o:bW)(m:au)(apos:iJ)(e f:bW)(cpos:iJ):Prop where
 base:o8 o m X.env (bT o X.env)=bT o X.env
 few:((fA cpos (cq [e,f] X.env)).all (λx=>!x.1)&&(CS cpos (C6 [] X.env)).all (λx=>x.1.isSome)
  && decide (([e,f]:List bW).length+ ([]:List wC).length+ (if ([]:List wC).isEmpty then 0 else 1)<30))=ai
 line:(apos.endLine==cpos.line)=ai
 trees:fA cpos (cq [e,f] X.env)=[(az,bT e X.env),(az,bT f X.env)]
def IsD(H:Hp)(a:af):Prop:=(∃kvs,Rd H a (.dK kvs))\/∃kvs,Rd H a (.dT kvs)
theorem Vd{X:Cx}{pins:List (af×bN)}{σ:St}{H:Hp}{s:aT}{a:af}(I:Inv X pins σ H s)(d:IsD H a):
  s.TypeIs (.ref a) "dict"/\(∀b,dH a=.ref b->∃z,s.heap.get? b=aa z/\z.dict=ae)/\(a==jc)=az:=by
 rcases d with⟨kvs,e⟩|⟨kvs,e⟩
 .rcases xD I.ax e with⟨_,hd,vs,_,F⟩;refine#[F.typeIs,λb q=>?_,hd];cases q;rcases F with⟨z,_,_,h1,h2,_⟩;exact#[z,h1,h2.2.1]
 .rcases xE I.ax e with⟨_,hd,xs,_,F⟩;refine#[F.typeIs,λb q=>?_,hd];cases q;rcases F with⟨z,_,_,h1,h2,_⟩;exact#[z,h1,h2.2.1]
section
variable {d:V}{o:Option V}
theorem Ve{Q}(O:A.units+1<gC)(I:Inv X pins σ H s)(g:vC H a y o)(J:RelV y u)(L:RelV d r)(h:∀G s',Inv X pins σ H s'->RelV (o.getD d) G->Q G s'):
  aG (aH X.prog X.w) A (call (.builtin "dict.get") [.ref a,u,r]) Q E s:=by
 rcases g with⟨kvs,k,e,F,l⟩|⟨kvs,k,b,e,F,S,l⟩
 .subst F;rcases xD I.ax e with⟨z,hd,vs,rel,q⟩;refine IK DK q.typeIs JS (JM ..) (meets_dict_get_default _ a (Az J) hd r) #[_,q.mapOf,h _ _ (I.tok _) ?_];rw[l];exact(rel.val k).getD L
 .subst F;cases (J);rcases xE I.ax e with⟨z,hd,xs,rel,q⟩;refine IK DK q.typeIs JS (JM ..) (meetsH_dict_get_default _ a b hd r) #[Dk O,k,xs,AA I.ax S,q,h _ _ (I.tok _) ?_];rw[l];exact(rel.val k).getD L
end
inductive MH(ty:TE)(tx:TE)(σ:St)(Q:VK)(x:V)(H1:Hp):Prop|m:∀a,x=.ref a->IsD H1 a->(ty σ H1 λy H2=>tx σ H2 λz H3=>∃o,vC H3 a y o/\Q (o.getD z) H3)->MH ty tx σ Q x H1
def Vf(td ty tx:TE):TE:=λσ H Q=>td σ H (MH ty tx σ Q)
section
variable {f:bW}{ty:TE}
theorem MI(hu:X.A.units+1<gC)(ho:PE X o td)(he:PE X e ty)(hf:PE X f tx)(m:M2 X o "get" apos e f cpos):PE X (.Call (.Attribute o "get" apos) [e,f] [] cpos) (Vf td ty tx):=by
 intro pins s c H Q I h;refine Dm m.base m.few m.line PySem.F.plainAttrs_dict DK PySem.F.type_dict_get (ba (ho _ s c H _ I h) λu O ⟨x,H1,G,V,a,ex,d,b⟩=>?_);subst ex;obtain rfl:u=dH a:=V;rcases Vd G d with⟨t1,J,_⟩;exists t1,J;rw[m.trees];refine JH Z (JI (zD (ba (he _ O c H1 _ G b) λiv L ⟨y,H2,I2,U,Y⟩=>
  zD (ba (hf _ L c H2 _ I2 Y) λfv s3 ⟨z,H3,I3,S,ov,g,W⟩=>DJ ?_))))
 exact Ve hu I3 g U S λw' s4 I4 q=>#[_,H3,I4,q,W]
end
theorem MJ:wK table "dict.update.loop"=aa fi.«dict.update.loop»:=IT (by kernel_rfl)
theorem EV:plainId "dict.update.loop"=ai:=by decide +kernel
section
variable {w:aS}
end
theorem Inv.MK{t'}(I:Inv X pins σ H s)(k:∀b o,b∉ch->s.heap.get? b=aa o->h'.get? b=aa o)(G:∀b∈ch,il X pins H b):Inv X pins σ H {s with heap:=h',toks:=t'}:=by
 have J:∀b u,H b=aa u->b∉ch:=λb u e z=>by
  have q:=(G b z).1;rw[q] at e;cases e
 refine I.step (λb L=>#[(G b L).2.2.2.1,(G b L).2.1,(G b L).2.2.2.2.1,(G b L).2.2.2.2.2]) (λb o x x F e x=>k b o F e) (λb o x x F e x=>#[_,k b o F e])
  (λx x x x n=>n) (λb o F e=>#[o,k b o F e]) (λx x e=>e) (λx x x e=>e) (λb ps e=>#[#[],by rw[e];simp]) (λm S=>?_) (λb u e=>?_) I.bare
 .obtain⟨o,es,ep,O,r⟩:=S;exact#[o,es,ep,k _ o (λz=>(G _ z).2.1 Z) O,r]
 .refine(I.ax b u e).ij (λc v F q=>k c v ?_ q) (λx q=>q) λx x q=>q;obtain z|z:=F
  .rw[z];exact J b u e
  .exact J c _ z
theorem Inv.xF{t':Nat}{ch:List af}{T:af}{S:HO}(I:Inv X pins σ H s)(k:∀b o,b∉ch->s.heap.get? b=aa o->h'.get? b=aa o)(J:∀b∈ch,il X pins H b)(U:s.heap.objs.size<=T)(new:dC X.prog X.w (upd H T S) h' T S):Inv X pins σ (upd H T S) {s with heap:=h',toks:=t'}:=by
 have O:=I.ax.fresh U;have L:∀b u,H b=aa u->b∉ch:=λb u e z=>by
  have q:=(J b z).1;rw[q] at e;cases e
 refine I.step (λb G=>#[(J b G).2.2.2.1,(J b G).2.1,(J b G).2.2.2.2.1,(J b G).2.2.2.2.2]) (λb o x x F e x=>k b o F e) (λb o x x F e x=>#[_,k b o F e])
  (λb o x e n=>?_) (λb o F e=>#[o,k b o F e]) (λb xs e=>?_) (λb o u e=>?_) (λb ps e=>#[#[],?_]) (λm W=>?_) (λb u e=>?_) I.bare
 .rwa[aB (c6 (eW (bA e) U))]
 .rwa[aB (bc e O)]
 .rwa[aB (bc e O)]
 .rw[aB (bc e O),e];simp
 .obtain⟨o,es,ep,V,r⟩:=W;exact#[o,es,ep,k _ o (λz=>(J _ z).2.1 Z) V,r]
 .by_cases G:b=T
  .subst G;rw[aA] at e;cases e;exact new
  .rw[aB G] at e;refine(I.ax b u e).ij (λc v F q=>k c v ?_ q) (λc q=>by rwa[aB (bc q O)]) λc xs q=>by rwa[aB (bc q O)]
   obtain z|z:=F
   .rw[z];exact L b u e
   .exact L c _ z
theorem Inv.lock{d}{u}(I:Inv X pins σ H s)(h:H d=aa u)(F:rG (aa u)):∃od,Inv X pins σ (upd H d (.cE od u)) s:=by
 have x:=I.ax d u h;have ex:∃od,s.heap.get? d=aa od:=by
  cases u with
  |lst xs=>obtain⟨_,_,_,_,e⟩:=x;exact#[_,e]
  |dK kvs=>obtain⟨_,_,_,_,o,_,_,e,_⟩:=x;exact#[o,e]
  |dT kvs=>obtain⟨_,_,_,_,o,_,_,e,_⟩:=x;exact#[o,e]
  |set S n=>obtain⟨o,_,_,_,e,_⟩:=x;exact#[o,e]
  |ins C dx fs=>obtain⟨_,_,_,e,_⟩:=x;exact#[_,e]
  |ext φ=>obtain⟨_,⟨_,e⟩,_⟩:=x;exact#[_,e]
  |_=>exact False.elim F
 obtain⟨od,e⟩:=ex;have new:dC X.prog X.w (upd H d (.cE od u)) s.heap d (.cE od u):=by
  refine#[e,x.ij (λb v y q=>q) (λb q=>?_) λb xs q=>?_]
  .rwa[aB (λz=>by rw[z,h] at q;cases q;exact F)]
  .rwa[aB (λz=>by rw[z,h] at q;cases q;exact F)]
 exact#[od,I.write (by rwa[h]) (.inl Z) (λb v y q=>q) #[od,e] new]
theorem Inv.AB{d}{u}(I:Inv X pins σ H s)(h:H d=aa u)(F:rG (aa u)):∀o' z,X.H_0 d≠aa (.cE o' z):=λo' z e=>by
 have q:=I.base.iN d o' z e;rw[h] at q;cases q;exact F
theorem Inv.unlock{d}{u}(I:Inv X pins σ H s)(h:H d=aa (.cE od u))(S:∀o' G,X.H_0 d≠aa (.cE o' G)):Inv X pins σ (upd H d u) s:=by
 have F:∀b o,H b=aa o->(∀o' G,o≠.cE o' G)->b≠d:=λb o e J z=>by
  rw[z,h] at e;cases e;exact J _ _ Z
 have neN:∀b,H b=ae->b≠d:=λb e z=>by rw[z,h] at e;cases e
 refine#[I.ok,I.os,I.bare,#[I.base.keep,I.base.slot,λb o e n hx=>?_,I.base.there,λb xs e=>?_,λb o x e=>?_,λb ps e=>?_],I.loc,I.cell,?_,λx c e=>?_,λp O=>?_,λb o e=>?_,I.len]
 .rw[aB (neN b (I.base.free b o e n hx))];exact I.base.free b o e n hx
 .have q:=I.base.jM b xs e;rwa[aB (F b _ q (λy y z=>nomatch z))]
 .have q:=I.base.iN b o x e;rwa[aB (λz=>by rw[z] at e;exact S _ _ e)]
 .obtain⟨m,q⟩:=I.base.jN b ps e;exact#[m,by rwa[aB (F b _ q (λy y z=>nomatch z))]]
 .rw[aB (neN _ I.free)];exact I.free
 .rw[aB (neN c (I.fK x c e))];exact I.fK x c e
 .obtain⟨e,n,r⟩:=I.pin p O;exact#[e,by rwa[aB (neN _ n)],r]
 .by_cases L:b=d
  .rw[L,aA] at e;cases e;rw[L];obtain⟨_,x⟩:=I.ax d _ h;exact x.ij (λc v y q=>q) (λc q=>by rwa[aB (F c _ q (λy y z=>nomatch z))]) λc xs q=>by rwa[aB (F c _ q (λy y z=>nomatch z))]
  .rw[aB L] at e;exact(I.ax b o e).ij (λc v y q=>q) (λc q=>by rwa[aB (F c _ q (λy y z=>nomatch z))]) λc xs q=>by rwa[aB (F c _ q (λy y z=>nomatch z))]
def Vg(t:TS):TS:=λD σ H=>∃d u,H d=aa u/\rG (aa u)/\∀od,t #[λq H'=>H' d=aa (.cE od u)/\D.nx q (upd H' d u),λv H'=>H' d=aa (.cE od u)/\D.rt v (upd H' d u),λq H'=>H' d=aa (.cE od u)/\D.bk q (upd H' d u),λq H'=>H' d=aa (.cE od u)/\D.ct q (upd H' d u)] σ (upd H d (.cE od u))
theorem Vh{st}{t}(h:PS X st t):PS X st (Vg t):=by
 intro pins s y H D I hw;rcases hw with⟨d,u,hd,G,hw⟩;obtain⟨od,J⟩:=I.lock hd G;refine ba (h _ s y _ _ J (hw od)) λf L q=>?_;cases f with
 |next=>obtain⟨z,H',F,e,q⟩:=q;exact#[z,_,F.unlock e (I.AB hd G),q]
 |brk=>obtain⟨z,H',F,e,q⟩:=q;exact#[z,_,F.unlock e (I.AB hd G),q]
 |cont=>obtain⟨z,H',F,e,q⟩:=q;exact#[z,_,F.unlock e (I.AB hd G),q]
 |ret v=>obtain⟨x,z,H',F,r,e,q⟩:=q;exact#[x,z,_,F.unlock e (I.AB hd G),r,q]
theorem AD{tg}{R}{J}{z}{tk}(I:Inv X pins σ H s) o (T:Turn X.prog X.w X.K tg J [s.heap.objs.size] s.heap.objs.size z)(st:z 0 (s.heap.push o))(q:R J H):PIE X pins σ tg R (.ref s.heap.objs.size) {s with heap:=s.heap.push o,toks:=tk}:=by
 refine#[_,_,z,J,H,Z,I.kept λb G e=>bq _ e,T,st,λb F=>?_,q];have e:=by simpa using F
 subst e;exact I.lu (bb _) (I.ax.fresh (bb _))
noncomputable def Its(x:au):It:=#[λi y=>i<x.cps.size,λi H v H'=>H'=H/\∃c,x.cps[i]? =aa c/\v=.str #[(tAr [c])],λi y=>x.cps.size<=i]
theorem ML{P}{w}{K}{tg} it  x  t  ty (q:ty="str_ascii_iterator"\/ty="str_iterator"):
  Turn P w K tg (Its x) [it] it (λi h=>h.IsStrIter it ty x t i) where
 mem:=by simp
 obj:=λi h st b F=>by
  have e:=by simpa using F
  subst e;rcases st with⟨o,e,c,d⟩;exact#[o,e,λv z=>by rw[d] at z;cases z]
 keep:=λi h h' st k=>let ⟨o,ho,r⟩:=st;#[o,k it (by simp) o ho,r]
 item:=by
  intro X hP hw hK J i pins s y H E I L st hg;subst hP hw hK;rcases L it (by simp) with⟨Y,V,f2,U,S,O⟩
  have W:Walks X.prog X.w X.A it [it] [it] x.cps.size (SignAt x) (λi h=>h.IsStrIter it ty x t i):=by
   obtain e|e:=q
   .rw[e];exact Walks.strAscii (I.ok.hd J) it x t
   .rw[e];exact Walks.strWide (I.ok.hd J) it x t
  have a:["enumerate","zip","dict_itemiterator","dict_reverseitemiterator","odict_iterator","itertools.zip_longest","itertools.pairwise"].contains ty=az:=by
   obtain e|e:=q
   .rw[e];decide
   .rw[e];decide
  refine W.item i s _ _ hg st λv h' tk hv G kk=>?_;rcases hv with⟨c,u,hcx,rfl⟩;have I1:Inv X _ y H {s with heap:=h',toks:=tk}:=I.turned (λb o F e=>kk b o (by simpa using F) e) Y V U S O
  rcases id G with⟨oi,e,cc,dd⟩;exact#[_,Z,Al e cc dd a #[.str _,H,I1,#[u,Z],#[Z,c,hcx,Z],G,λb F=>(L b F).1]]
 done:=by
  intro X hP hw hK J i pins s y H E I L st hg;rcases L it (by simp) with⟨Y,V,f2,U,S,O⟩
  have hx:=uF hg;obtain e|e:=q
  .rw[e] at st;exact wpAny_pyNext_ascii_end (I.ok.hd J) st hx λh' eb=>#[Z,I.turned (λb o F e=>eb b o F e) Y V U S O]
  .rw[e] at st;exact wpAny_pyNext_wide_end (I.ok.hd J) st hx λh' eb=>#[Z,I.turned (λb o F e=>eb b o F e) Y V U S O]
 self:=λA i s Q E st h=>by
  obtain e|e:=q
  .rw[e] at st;exact wpAny_pyIter_striter_ascii st h
  .rw[e] at st;exact wpAny_pyIter_striter_wide st h
inductive MM(R:It->Hp->Prop)(v:V)(H1:Hp):Prop|m:∀x,v=.str x->R (Its x) H1->MM R v H1
def Vi(te:TE):TI:=λσ H R=>te σ H (MM R)
theorem Vj{X}{te}(L:PE X e te):PI X tg e (Vi te):=by
 intro pins s a H R I h;refine ba (L _ s a H _ I h) λv z ⟨y,H1,G,J,x,ex,q⟩=>?_;subst ex;obtain⟨t,rfl⟩:=J;cases F:x.cps.all _
 .exact wpAny_pyIter_wide F (AD G _ (ML _ x t _ (.inr Z)) #[_,cJ _ Z,Z,Z] q)
 .exact wpAny_pyIter_ascii F (AD G _ (ML _ x t _ (.inl Z)) #[_,cJ _ Z,Z,Z] q)
section
variable {w:aS}
end
theorem Vk{κ}{kvs}{vs}(h:KV kvs vs):∀{i:Nat}{k:κ}{v},kvs[i]? =aa (k,v)->∃u,vs[i]? =aa (k,u)/\RelV v u:=by
 induction h with
 |nil=>intro i k v e;simp at e
 |@cons a b q l₂ r t z=>
  intro i k v e;cases i with
  |zero=>
   simp only[Cr,uR] at e;subst e;refine#[_,?_,r.2];simp only[Cr];exact congrArg _ (Prod.ext r.1.symm Z)
  |succ j=>
   exact z e
theorem Vl{z F}{G}{q}{l₂:List F}(h:Paired G q l₂):∀{i:Nat}{a:z},q[i]? =aa a->∃b,l₂[i]? =aa b/\G a b:=by
 induction h with
 |nil=>intro i a e;simp at e
 |@cons a b q l₂ r t I=>
  intro i J e;cases i with
  |zero=>
   simp only[Cr,uR] at e;subst e;exact#[b,Z,r]
  |succ j=>
   exact I e
theorem Vm{k}{u}(h:mC k u=ai):RelV (kV k) u:=by
 obtain⟨i,t,rfl,rfl⟩|⟨x,t,rfl,rfl⟩:=nJ h
 .exact#[t,Z]
 .exact#[t,Z]
section
variable {o:bN}
theorem Inv.EW{kvs}(I:Inv X pins σ H s)(h:H d=aa (.cE o (.dK kvs))):
  (d==jc)=az/\s.heap.get? d=aa o/\o.ExactDict/\∃(es:Array _)(ep:Nat)(vs:List _),o.data=.dict es ep/\es.size=kvs.length/\KV kvs vs/\s.heap.DictAt (gH X.prog X.w) d vs ep:=by
 rcases I.ax d _ h with⟨hd,z,L,vs,F,o',es,ep,G,hx,q,r⟩;rw[hd] at G;cases G;refine#[L,hd,hx,es,ep,vs,q,?_,F,o,es,hd,hx,q,r];have J:=r.2.1.length;have O:=bS F;rw[fP] at J;simp_all
end
noncomputable def Iti(d:af)(o:bN)(kvs:List (Key×V)):It:=
 #[λi H=>H d=aa (.cE o (.dK kvs))/\i<kvs.length,λi H x H'=>∃T k v,kvs[i]? =aa (k,v)/\x=.ref T/\H T=ae/\H'=upd H T (.tup [kV k,v]),λi H=>H d=aa (.cE o (.dK kvs))/\kvs.length<=i]
theorem AE{o:bN}{es q}{ep z}(h:o.data=.dict es ep)(h':o.data=.dict q z):q=es/\z=ep:=by
 rw[h] at h';cases h';exact#[Z,Z]
section
variable {w:aS}{o:bN}{es:Array uT}
theorem Vn{kvs}{elts}{kk}{tpos} it (O:o.data=.dict es ep):
  Turn P w K (.Tuple elts kk tpos) (Iti d o kvs) [it] it (λi h=>∃ok J,uU h it d i kvs.length ep ok J) where
 mem:=by simp
 obj:=λi h st b q=>by
  have e:=by simpa using q
  subst e;obtain⟨ok,J,e⟩:=st;exact#[_,e,λv z=>nomatch z]
 keep:=λi h h' st k=>let ⟨ok,J,e⟩:=st;#[ok,J,k it (by simp) _ e]
 item:=by
  intro X hP hw hK hc i pins s x H E I hf st hg;subst hP hw hK;obtain⟨hd,hi⟩:=hg;rcases I.EW hd with⟨hs,hgd,hx,es',ep',vs,F,hsz,Y,hm⟩;obtain⟨rfl,rfl⟩:=AE O F;obtain⟨⟨k,v⟩,U⟩:∃p,kvs[i]? =aa p:=#[_,aY hi];obtain⟨u,hu,ru⟩:=Vk Y U;have a:=bS Y;obtain⟨ok,J,L⟩:=st;rw[a] at L;have S:=bA L;refine wpAny_pyNext_items_item L hm hu λkey h' W ho hT hz hk=>?_;refine#[_,Z,Jm ho λG he' sb=>?_]
  have hT2:=(sb.2 _ (fh S)).trans hT;have new:dC X.prog X.w (upd H s.heap.objs.size (.tup [kV k,v])) G _ (.tup _):=
   #[by show 2<=bp;decide,_,.cons (Vm (W)) (.cons ru .nil),_,hT2,Z,_,Z]
  have I1:=
   I.xF (t':=s.toks) (λb ob q e=>(sb.2 b (by simpa using q)).trans (hk b ob (by simpa using q) e)) hf (bb _) new
  refine#[.ref _,_,I1,Z,#[_,k,v,U,Z,I.ax.fresh (bb _),Z],#[key,u,?_],λb q=>?_]
  .rwa[a]
  .have e:=by simpa using q
   rw[e,aB (c6 S)];exact(hf it (by simp)).1
 done:=by
  intro X hP hw hK hc i pins s x H E I hf st hg;subst hP hw hK;obtain⟨hd⟩:=hg;obtain⟨f0,f1,f2,f3,f4,f5⟩:=hf it (by simp)
  rcases I.EW hd with⟨hs,hgd,hx,es',ep',vs,F,hsz,Y,hm⟩;obtain⟨rfl,rfl⟩:=AE O F;have a:=bS Y;obtain⟨ok,J,L⟩:=st;rw[a] at L;exact wpAny_pyNext_items_end (I.ok.hd hc) L hm (fz (by simp_all)) λh' eb=>#[Z,I.turned (λb ob q e=>eb b ob q e) f0 f1 f3 f4 f5]
 self:=λA i s Q E st h=>let ⟨_,_,e⟩:=st;KN e h
end
inductive MN(R:It->Hp->Prop)(x:V)(H1:Hp):Prop|m:∀d o kvs,x=.ref d->H1 d=aa (.cE o (.dK kvs))->R (Iti d o kvs) H1->MN R x H1
def Vo(td:TE):TI:=λσ H R=>td σ H (MN R)
theorem Vp{elts:List bW}{kk:Nat}{tpos:iJ}(Z:PE X e td)(G:o8 e "items" X.env (bT e X.env)=bT e X.env:=by rfl)(F:(apos.endLine==cpos.line)=ai:=by rfl):
  PI X (.Tuple elts kk tpos) (.Call (.Attribute e "items" apos) [] [] cpos) (Vo td):=by
 intro pins s y H R I h;refine Dm   G rfl F JZ zG Kb (ba (Z _ s y H _ I h) λu z ⟨x,H1,O,S,d,o,_,ex,hd,q⟩=>?_);subst ex;obtain rfl:u=dH d:=S;rcases O.EW hd with⟨V,Y,hx,es,ep,vs,L,hsz,U,J⟩;have W:=bS U;exists J.dictOf.typeIs,J.dictOf.mapOf.noDict;have I2:Inv X _ y H1 {z with heap:=z.heap.push {cls:=.type "dict_items",data:=.fields (tAr [.ref d])}}:=O.kept  λb ob q=>bq _ q
 have fin:aG (aH X.prog X.w) X.A (pb (.ref z.heap.objs.size)) (PIE X pins y (.Tuple elts kk tpos) R) X.xe {z with heap:=z.heap.push {cls:=.type "dict_items",data:=.fields (tAr [.ref d])}}:=by
  refine wpAny_pyIter_items #[_,cJ _ rfl,rfl,rfl] (J.push _) (AD I2 _ (Vn _ L) #[.none,.none,?_] q);rw[W];exact cJ _ rfl
 exact Jb zG JU rfl (IV #[rfl,J.dictOf.typeIs,JO _,_,meets_dict_items _ d V,#[vs,J.dictOf],fin])
noncomputable def Ite(K:aP)(a:af):It:=
 #[λi H=>∃(xs:List V)(x:V),ao K H a xs/\xs[i]? =aa x,λi H v H'=>∃T x,v=.ref T/\H T=ae/\H'=upd H T (.tup [.int (i:Nat),x])/\∀xs,ao K H a xs->xs[i]? =aa x,λi H=>∃xs:List V,ao K H a xs/\xs.length<=i]
theorem Vq{P}{K}{tpos} a e it :
  Turn P w K (.Tuple elts kk tpos) (Ite K a) [e,it] e (λi h=>(∃old,IsEnum h e it ((i:Nat)) old)/\h.IsListIter it a i/\e≠it) where
 mem:=by simp
 obj:=λi h st b J=>by
  rcases st with⟨⟨old,G⟩,⟨o,c,hc,hd⟩,_⟩;have e':=by simpa using J
  obtain z|z:=e'
  .rw[z];exact#[_,G,λv q=>nomatch q]
  .rw[z];exact#[o,c,λv q=>by rw[hd] at q;cases q]
 keep:=λi h h' st k=>let ⟨⟨old,G⟩,hi,F⟩:=st;#[#[_,k e (by simp) _ G],hi.at λo q=>k it (by simp) o q,F]
 item:=by
  intro X hP hw hK hc i pins s y H E I V st hg;subst hP hw hK;rcases st with⟨⟨old,G⟩,hit,F⟩;rcases hg with⟨xs,x,U,hx⟩;rcases I.list U with⟨its,Y,p,hz⟩;rcases Y.get hx with⟨u,hu,ru⟩;have S:=bA G;have hil:it<s.heap.objs.size:=by obtain⟨_,q,_⟩:=hit;exact bA q
  refine wpAny_pyNext_enum_item G hit p.isList (by simpa using hu) F λh' c O hT hsz hk=>?_
  refine#[_,Z,wpAny_letOwnedTupleGo_enum c λL he' W=>?_]
  have hT2:=(W.2 _ (fh S)).trans hT;have new:dC X.prog X.w (upd H s.heap.objs.size (.tup [.int i,x])) L _ (.tup [.int i,x]):=
   #[by show 2<=bp;decide,_,.cons #[_,Z] (.cons ru .nil),_,hT2,Z,_,Z]
  have I1:Inv X _ y _ {s with heap:=L,toks:=s.toks+1}:=
   I.xF (λb ob J q=>(W.2 b (λz=>J (by simp[z]))).trans (hk b ob (λz=>J (by simp[z])) (λz=>J (by simp[z])) q)) V (bb _) new
  refine#[.ref _,_,I1,Z,#[_,x,Z,I.ax.fresh (bb _),Z,λys hy=>by rwa[I.xj hy U]],#[#[u,?_],O.at λo q=>(W.2 it (bG F)).trans q,F],λb J=>?_]
  .have e1:((i+1:Nat))=i+1:=by rfl
   rwa[e1]
  .have hb':b<s.heap.objs.size:=by
    have e':=by simpa using J
    obtain z|z:=e'
    .rwa[z]
    .rwa[z]
   rw[aB (c6 hb')];exact(V b J).1
 done:=by
  intro X hP hw hK hc i pins s y H E I V st hg;subst hP hw hK;rcases st with⟨⟨old,G⟩,hit,F⟩;rcases hg with⟨xs,U,hx⟩;rcases I.list U with⟨its,Y,p,hz⟩;rcases V it (by simp) with⟨f0,f1,f2,f3,f4,f5⟩
  have hl:=Y.length;exact wpAny_pyNext_enum_end (I.ok.hd hc) G hit p.isList (by simp;simp_all) λh' eb=>#[Z,I.turned (λb o J q=>eb b o J q) f0 f1 f3 f4 f5]
 self:=λA i s Q E st h=>let ⟨⟨_,G⟩,_⟩:=st;Jr G h
inductive MO(K:aP)(R:It->Hp->Prop)(vs:List V)(H1:Hp):Prop|m:∀a xs,vs=[.ref a]->ao K H1 a xs->R (Ite K a) H1->MO K R vs H1
def Vr(K:aP)(ta:TA):TI:=λσ H R=>ta σ H (MO K R)
theorem rV{X:Cx}{e:bW}{ta:TA}{p pos tpos:iJ}{elts:List bW}{kk:Nat}(hg:Gl X "enumerate")(Z:X.mg "enumerate"=ae)(ha:PA X [e] ta)(W:cq [e] X.env=[(az,bT e X.env)]:=by rfl):
  PI X (.Tuple elts kk tpos) (.Call (.Name "enumerate" p) [e] [] pos) (Vr X.K ta):=by
 intro pins s x H R I h;refine Call_ (rK I hg Z boot_enumerate (tJ (ba (ha _ _ s x H _ I h) λus F ⟨vs,H1,J,S,U⟩=>?_) W rfl));obtain⟨a,xs,ex,Y,q⟩:=U;subst ex;cases S with
 |cons r O=>
  cases O;cases r;obtain⟨its,rv,V,hz⟩:=J.list Y;refine call_enumerate_list V.isList λh' L hit hsz hk=>Jr L ?_;have I2:=J.kept (t':=F.toks) hk
  refine#[_,_,_,_,H1,rfl,I2,Vq a ..,#[#[_,L],hit,Nat.succ_ne_self _],λb hb=>?_,q];have e':=by simpa using hb
  have G:F.heap.objs.size<=b:=by
   obtain z|z:=e'
   .rw[z];exact kZ ..
   .rw[z];exact bb _
  exact J.lu G (J.ax.fresh G)
theorem EY:hA "zip"=aa (.type "zip"):=by decide +kernel
noncomputable def Itz(K:aP)(a b:af):It:=
 #[λi H=>∃(xs ys:List V)(x y:V),ao K H a xs/\ao K H b ys/\xs[i]? =aa x/\ys[i]? =aa y,
  λi H v H'=>∃T x y,v=.ref T/\H T=ae/\H'=upd H T (.tup [x,y])/\(∀xs,ao K H a xs->xs[i]? =aa x)/\∀ys,ao K H b ys->ys[i]? =aa y,
  λi H=>∃xs ys:List V,ao K H a xs/\ao K H b ys/\(xs.length<=i\/ys.length<=i)]
theorem MP{P}{w}{a b z TI TO i1 O}(D:nz z TI TO i1 O a b):
  Turn P w K (.Tuple elts kk tpos) (Itz K a b) [z,TI,TO,i1,O] z (λi h=>jI h z TI TO .none/\d8 h TI (.ref i1) (.ref O)/\(∃x y,d8 h TO x y)/\h.IsListIter i1 a i/\h.IsListIter O b i) where
 mem:=by simp
 obj:=λi h st c hc=>by
  rcases st with⟨hz,F,⟨x,y,J⟩,⟨o1,e1,_,d1⟩,⟨o2,e2,_,d2⟩⟩;have e':=by simpa using hc
  obtain q|q|q|q|q:=e'
  .rw[q];exact#[_,hz,λv q=>nomatch q]
  .rw[q];exact#[_,F,λv q=>nomatch q]
  .rw[q];exact#[_,J,λv q=>nomatch q]
  .rw[q];exact#[o1,e1,λv q=>by rw[d1] at q;cases q]
  .rw[q];exact#[o2,e2,λv q=>by rw[d2] at q;cases q]
 keep:=λi h h' st k=>by
  rcases st with⟨hz,F,⟨x,y,J⟩,h1,h2⟩;exact#[k z (by simp) _ hz,k TI (by simp) _ F,#[x,y,k TO (by simp) _ J],h1.at λo q=>k i1 (by simp) o q,h2.at λo q=>k O (by simp) o q]
 item:=by
  intro X hP hw hK hc i pins s t H E I hf st hg;subst hP hw hK;rcases st with⟨hz,F,⟨x0,y0,J⟩,h1,h2⟩;rcases hg with⟨xs,ys,x,y,U,S,hx,hy⟩;rcases I.list U with⟨its,rv,p,_⟩;rcases I.list S with⟨V,W,p2,_⟩;rcases rv.get hx with⟨u,hu,ru⟩;rcases W.get hy with⟨u2,hu2,ru2⟩;have hzl:=bA hz;refine Jt D hz F J h1 h2 p.isList p2.isList (by simpa using hu) (by simpa using hu2) λh' z' TO' h1' h2' hT hsz hk=>?_
  refine#[_,Z,Jn z' λY z'' d=>?_]
  have hT2:=(d.2 _ (fh hzl)).trans hT;have new:dC X.prog X.w (upd H s.heap.objs.size (.tup [x,y])) Y _ (.tup _):=
   #[by show 2<=bp;decide,_,.cons ru (.cons ru2 .nil),_,hT2,Z,_,Z]
  have I1:=
   I.xF (t':=s.toks) (λc o L q=>(d.2 c (λG=>L (by simp[G]))).trans (hk c o (λG=>L (by simp[G])) (λG=>L (by simp[G])) (λG=>L (by simp[G])) (λG=>L (by simp[G])) q)) hf (bb _) new
  refine#[.ref _,_,I1,Z,#[_,x,y,Z,I.ax.fresh (bb _),Z,λl hl=>by rwa[I.xj hl U],λl hl=>by rwa[I.xj hl S]],#[z'',?_,#[u,u2,?_],?_,?_],λc hcm=>?_]
  .exact(d.2 _ D.TIz).trans (hk _ _ D.TIz D.TITO D.TIi1 D.TIi2 F)
  .exact(d.2 _ D.TOz).trans TO'
  .exact h1'.at λo q=>(d.2 _ D.i1z).trans q
  .exact h2'.at λo q=>(d.2 _ D.i2z).trans q
  .have hlt:c<s.heap.objs.size:=by
    have e':=by simpa using hcm
    obtain q|q|q|q|q:=e'
    .rwa[q]
    .rw[q];exact bA F
    .rw[q];exact bA J
    .rw[q];obtain⟨_,e1,_⟩:=h1;exact bA e1
    .rw[q];obtain⟨_,e2,_⟩:=h2;exact bA e2
   rw[aB (c6 hlt)];exact(hf c hcm).1
 done:=by
  intro X hP hw hK hc i pins s t H E I hf st hg;subst hP hw hK;rcases st with⟨hz,F,⟨x0,y0,J⟩,h1,h2⟩;rcases hg with⟨xs,ys,U,S,hend⟩;rcases I.list U with⟨its,rv,p,_⟩;rcases I.list S with⟨V,W,p2,_⟩;have l1:=rv.length;have l2:=W.length;have he:its.toArray[i]? =ae\/V.toArray[i]? =ae:=by
   obtain q|q:=hend
   .exact .inl (by simp;simp_all)
   .exact .inr (by simp;simp_all)
  exact Js (I.ok.hd hc) D hz F J h1 h2 p.isList p2.isList he λh' hk=>#[Z,I.MK (λc o L q=>
   hk c o (λG=>L (by simp[G])) (λG=>L (by simp[G])) (λG=>L (by simp[G])) (λG=>L (by simp[G])) q) hf]
 self:=λA i s Q E st h=>va st.1 h
inductive MQ(K:aP)(R:It->Hp->Prop)(vs:List V)(H1:Hp):Prop|m:∀a b xs ys,vs=[.ref a,.ref b]->ao K H1 a xs->ao K H1 b ys->R (Itz K a b) H1->MQ K R vs H1
def MR(K:aP)(ta:TA):TI:=λσ H R=>ta σ H (MQ K R)
theorem vD{X:Cx}{e J:bW}{ta:TA}{p pos tpos:iJ}{elts:List bW}{kk:Nat}(hg:Gl X "zip")(hm:X.mg "zip"=ae)(ha:PA X [e,J] ta)(hs:cq [e,J] X.env=(az,bT e X.env)::cq [J] X.env:=by rfl)(bC:(fA pos (cq [J] X.env)).any (·.1)=az:=by rfl):
  PI X (.Tuple elts kk tpos) (.Call (.Name "zip" p) [e,J] [] pos) (MR X.K ta):=by
 intro pins s x H R I h;refine Call_ (rK I hg hm EY (tJ (ba (ha _ _ s x H _ I h) λus F ⟨vs,H1,L,r1,q1⟩=>?_) hs bC));obtain⟨a,b,xs,ys,ex,U,S,q⟩:=q1;subst ex;cases r1 with
 |cons r O=>
  cases O with
  |cons r' O=>
   cases O;cases r;cases r';obtain⟨its,rv,d,_⟩:=L.list U;obtain⟨its2,rv2,p2,_⟩:=L.list S;have la:=d.lt;have lb:=p2.lt;refine CV d.isList p2.isList λh' hz Y W h1 h2 hsz hk=>va hz ?_;have I2:=L.kept (t':=F.toks) hk
   refine#[_,_,_,_,H1,Z,I2,MP (zS _ a b la lb),#[hz,Y,#[_,_,W],h1,h2],λc V=>?_,q];have e':=by simpa using V
   have G:F.heap.objs.size<=c:=by
    obtain z|z|z|z|z:=e'
    .rw[z];exact kZ ..
    .rw[z];exact kZ ..
    .rw[z];exact kZ ..
    .rw[z];exact bb _
    .rw[z];exact kZ ..
   exact L.lu G (L.ax.fresh G)
section
variable {Q:VK}
end
noncomputable def inClass(s:f_)(j:Nat):f_:=match s with
 |.ClassDef _ _ _ body _ _ _ _ _ _ _=>body.getD j (.Pass #[0,0,0,0])
 |_=>.Pass #[0,0,0,0]
noncomputable def t9(s:f_):Arguments:=match s with
 |.FunctionDef _ a _ _ _ _ _ _ _ _=>a
 |_=>{posonlyargs:=[],args:=[],vararg:=ae,kwonlyargs:=[],kw_defaults:=[],kwarg:=ae,defaults:=[]}
noncomputable def pO(s:f_):List f_:=match s with
 |.FunctionDef _ _ b _ _ _ _ _ _ _=>b
 |_=>[]
noncomputable def gK(s:f_):fS:=match s with
 |.FunctionDef _ _ _ _ _ _ q _ _ _=>q
 |_=>{kind:=.function,names:=[],isGenerator:=az,isCoroutine:=az}
abbrev bo:mI:=λx x x x x x=>False
abbrev E0:XK:=λx x x=>False
theorem iT:Passes bo X E0:=λx x x x x x x h=>h.elim
structure AF(K:aP)(x qual:au)(st:f_)(f:af)(fd:kl):Prop where
 ex:∃(oc:aE)(od:Option af)(kV doc pm:aE)(an:Option af)(cdv ct:aE)(osl:Array (Option aE)),
  fd=pj x qual (t9 st) (pO st) (gK st) .none kV doc pm an cdv ct/\K.lookup f=aa #[oc,od,.func fd,osl]/\zQ K cdv qual=ai
 kp:nE K (.ref f)=ai
structure nR(K:aP)(M:Prop)(x q:au)(N:List au)(i:Nat)(st:f_)(f:af)(fd:kl):Prop where
 m:M
 g:AF K x q st f fd
 s:vw N (N.take i) (gK st)
 b:Binds K fd (N.take i) []
section
variable {w:aS}{base:aU}
theorem nR.ok{M}(F:nR K M x qual N i st f fd)(len:∀vs H Q E,sp vs H Q E->vs.length=(N.take i).length)(G:N.Nodup->∀z A outer s H vs Q E,dn k (A.deeper (jH qual (gK st) s.heap.objs.size f z))->sp vs H Q E->
   ∃t,fE (pJ bo P w K mg base N qual (gK st) f z A outer s H E).nox (pO st) t/\t {nx:=λy H'=>Q .bB H',rt:=Q} (start N vs) H):aV P w K mg base bo (k+1) f fd (N.take i) sp:=by
 rcases F.g.ex with⟨U,od,kV,doc,S,W,z,ct,L,rfl,lk,J⟩;refine LY lk J F.s len λA outer s H vs Q E O I=>?_;obtain⟨t,h,q⟩:=G F.s.nd z A _ s H vs Q E O I;exact#[t,h.nox,q]
theorem AF.binds(F:AF K x qual st f fd)(h:∀kV doc z G q ct us,us.length=ps.length->CT (pj x qual (t9 st) (pO st) (gK st) .none kV doc z G q ct) #[us,[]]=pure (ps.zip us)):Binds K fd ps []:=by
 obtain⟨L,od,kV,doc,z,G,q,ct,I,rfl,lk⟩:=F.ex;exact .all (h kV _ z G q ct)
theorem MS{I}{od G}{z}{kV doc F q ct}(l:K.lookup f=aa #[I,od,.func (pj x qual (t9 st) (pO st) (gK st) .none kV doc F G q ct),z])(c:zQ K q qual=ai)(k:nE K (.ref f)=ai):AF K x qual st f (pj x qual (t9 st) (pO st) (gK st) .none kV doc F G q ct):=#[#[I,od,kV,_,F,G,q,ct,z,Z,l,c],k]
end
theorem xG(q:dn k A):A.units+1<gC:=tE (Nat.add_le_add_left (by decide) _) q.units
theorem pv(i:Nat)(F:X.N[i]? =aa x:=by rfl)(z:Vis X.env.scope x:=by first|exact zg Z|exact wA (zg Z)|exact wA (wA Z))(hd:(x==("__debug__":au))=az:=by decide)(q:(x==("__classdict__":au))=az:=by decide):PE X (.Name x pos) (fF i):=TK F z hd q
theorem br{A}(h:B):if az=ai then A else B:=by
 rwa[aw cZ]
theorem bu{A}(h:A):if ai=ai then A else B:=by
 rwa[aC Z]
theorem Vt{c A}[Decidable c](q:c)(h:B):if (!decide c)=ai then A else B:=by
 rwa[bX q]
def ag(H H':Hp):Prop:=∀b o,H b=aa o->H' b=aa o
theorem ag.refl H:ag H H:=λx x h=>h
theorem ag.trans(a:ag H H1)(b:ag H1 H2):ag H H2:=λc o h=>b c o (a c o h)
theorem ag.free(e:ag H H')(h:H' l=Iv):H l=Iv:=by
 cases q:H l with
 |none=>rfl
 |some o=>
  rw[e l o q] at h;cases h
theorem ag.seq(e:ag H H')(h:ao K H a xs):ao K H' a xs:=by
 rcases h with(h|⟨o,h⟩)|h
 .exact .inl (.inl (e _ _ h))
 .exact .inl (.inr #[o,e _ _ h])
 .exact .inr h
section
variable {κ:Type}[DecidableEq κ]
end
end L2
end
section
open PySem PySem.Spec PyProof.Rows
namespace L2
open PySem PySem.Spec PyProof.Rows
open PySem.W (WData Codec OpenSpec Well WellAll ReadsW ReadsAllW)
variable {X:Cx}{s s':aT}{A:iI}{E Q:aE->aT->Prop}{P prog:gB}{C C' C0 I L N N' S T a b d fI i1 i2 it l l1 l2 z:af}{H:Hp}{apos cpos hpos hpos' p p' pos pos' tpos:iJ}{h h':aU}{K:aP}{pins:List (af×bN)}{o oT ox:bN}{ep i j k kk m n nT slot:Nat}{f name nm nm' q q' x x':au}{t:SetTable}{e e1 e2 value:bW}{ab ab' expr hdct hdct' led:Bool}{ps sn sn':List au}{col col':Option Bool}{dd dd' od:Option af}{j0 j1 j2 j3 j5 k0 k1 k2 k3 k5:Option aE}{es:Array (Int×aE)}{M:Model}{b₀ b₀' st:f_}{body suite suite':List f_}{env:eN}{ts ts':TS}{CX:mI}{fd:kl}{items vs xs ys:Array aE}{mg:au->Option aE}{R:wG->aT->Prop}{g:Array IC}{os:IE}{sl:Array (Option aE)}{ta td te tn tv:TE}{newId newId':String}{cls u v y:aE}{sp:Sp}{D:Ends}{ds:List hX}{outer:List eN}{scope:fS}{rest:List IB}{tb:XK->TS}{c:TT}{bm bs' sub':List aE}{elts:List bW}{r:R2}{EX:XK}{own:List (au×Nat)}{ns:List Int}
mutual
inductive Dw(K:aP)(H:Hp):V->hX->Prop
 |bB:Dw K H .bB .none
 |bl (b:Bool):Dw K H (.bl b) (.bool b)
 |int (i:Int):Dw K H (.int i) (.int i)
 |str (x:au):Dw K H (.str x) (.str x)
 |gI (b:Array UInt8):Dw K H (.gI b) (.bytes b.toList)
 |lst {a:af} {xs:List V} {ds:List hX}:ao K H a xs->lD K H xs ds->Dw K H (.ref a) (.list ds)
 |tup {a:af} {xs:List V} {ds:List hX}:cM K H a xs->lD K H xs ds->Dw K H (.ref a) (.tuple ds)
inductive lD(K:aP)(H:Hp):List V->List hX->Prop
 |nil:lD K H [] []
 |cons {v:V} {vs:List V} {d:hX} {ds:List hX}:Dw K H v d->lD K H vs ds->lD K H (v::vs) (d::ds)
end
theorem MT{K}{H}:∀ns:List _,lD K H (ns.map V.int) (ns.map KW)
 |[]=>.nil
 |n::r=>.cons (.int n) (MT r)
theorem MU{K}{H}:∀(ns:List _) xs,lD K H xs (ns.map KW)->xs=ns.map V.int
 |[],xs,h=>by
  cases h;rfl
 |n::r,xs,h=>by
  cases h with
  |cons F B=>
   cases F;rw[MU r _ B]<;>rfl
section
variable {w:aS}{R:Tj}{cl:au->Option af}
theorem Vu{a}{xs}(ax:cW P w H h)(J:K.In h)(q:ao K H a xs):∃(B:List _)(o:bN)(n:Nat),Vals xs B/\h.get? a=aa o/\o.cls=.type "list"/\o.data=.seq B.toArray n:=by
 rcases q with q|⟨o,B,n,e,G,_,hd,_,F⟩
 .rcases(q.ok ax) with⟨_,B,n,F,e⟩;exact#[B,_,n,F,e,Z,Z]
 .exact#[_,o,n,F,J _ _ e,G,by simp[hd]]
theorem Vv{a}{xs}(ax:cW P w H h)(J:K.In h)(q:cM K H a xs):∃(B:List _)(o:bN)(n:Nat),Vals xs B/\h.get? a=aa o/\o.cls=.type "tuple"/\o.data=.seq B.toArray n:=by
 rcases q with q|⟨o,B,n,e,G,hd,_,F⟩
 .rcases(q.ok ax) with⟨_,B,F,o,e,G,n,hd⟩;exact#[B,o,n,F,e,G,hd]
 .exact#[_,o,n,F,J _ _ e,G,by simp[hd]]
mutual
theorem Dw.reads(ax:cW P w H h)(F:K.In h):∀(d:hX)(v:V)(u:aE),Dw K H v d->RelV v u->∃Z,ph R cl h u d Z
 |.none,_,_,x,r=>by
  cases x;cases r;exact#[_,ph.none]
 |.bool b,_,_,x,r=>by
  cases x;cases r;exact#[_,ph.bool b]
 |.int i,_,_,x,r=>by
  cases x;obtain⟨t,rfl⟩:=r;exact#[_,ph.int i t]
 |.str s,_,_,x,r=>by
  cases x;obtain⟨t,rfl⟩:=r;exact#[_,ph.str s t]
 |.bytes b,_,_,x,r=>by
  cases x;obtain⟨t,rfl⟩:=r;exact#[_,ph.bytes _ t]
 |.list ds,_,_,x,r=>by
  cases x with
  |lst J Y=>
   cases r;obtain⟨B,o,n,G,U,W,hd⟩:=Vu ax F J;obtain⟨Z,O⟩:=Dw.readsAll ax F ds _ B Y G;exact#[_,ph.list U W hd O]
 |.tuple ds,_,_,x,r=>by
  cases x with
  |tup J Y=>
   cases r;obtain⟨B,o,n,G,U,W,hd⟩:=Vv ax F J;obtain⟨Z,O⟩:=Dw.readsAll ax F ds _ B Y G;exact#[_,ph.tuple U W hd O]
 |.float _,_,_,x,_=>by cases x
 |.dict _,_,_,x,_=>by cases x
 |.bytearray _,_,_,x,_=>by cases x
 |.set _,_,_,x,_=>by cases x
 |.frozenset _,_,_,x,_=>by cases x
 |.obj _ _,_,_,x,_=>by cases x
theorem Dw.readsAll(ax:cW P w H h)(F:K.In h):∀(ds:List hX)(vs:List V)(us:List aE),lD K H vs ds->Vals vs us->∃B,DR R cl h us ds B
 |[],_,_,x,r=>by
  cases x;cases r;exact#[_,DR.nil]
 |d::ds,_,_,x,r=>by
  cases x with
  |cons Y W=>
   cases r with
   |cons J G=>
    obtain⟨B,U⟩:=Dw.reads ax F d _ _ Y J;obtain⟨bs,O⟩:=Dw.readsAll ax F ds _ _ W G;exact#[_,DR.cons U O]
end
end
mutual
noncomputable def jU:hX->Bool
 |.none=>ai
 |.bool _=>ai
 |.int _=>ai
 |.str _=>ai
 |.bytes _=>ai
 |.list xs=>lE xs
 |.tuple xs=>lE xs
 |_=>az
noncomputable def lE:List hX->Bool
 |[]=>ai
 |x::r=>jU x&&lE r
end
theorem MV{B:Type}{f}(h:∀a,jU (f a)=ai):∀l:List B,lE (l.map f)=ai
 |[]=>Z
 |x::r=>by
  show(jU _&&lE _)=ai;rw[h x,MV h r]<;>rfl
theorem rW:∀(c:KD) a,jU (c.enc a)=ai
 |.unit,_=>Z
 |.bool,_=>Z
 |.int ..,_=>Z
 |.nat ..,_=>Z
 |.u8,_=>Z
 |.bytes ..,_=>Z
 |.text ..,_=>Z
 |.list _ _ c,a=>MV (λx=>rW c x) a
 |.pair c d,a=>by
  show(jU _&&(jU _&&ai))=ai;rw[rW c _,rW d _]<;>rfl
 |.triple c d e,a=>by
  show(jU _&&(jU _&&(jU _&&ai)))=ai;rw[rW c _,rW d _,rW e _]<;>rfl
 |.option c,ae=>Z
 |.option c,aa x=>rW c x
theorem MW:∀B a,lE (w9 B a)=ai
 |[],_=>Z
 |c::B,a=>by
  show(jU _&&lE _)=ai;rw[rW c _,MW B _]<;>rfl
theorem EZ:∀{xs}{d},d∈xs->d.weight<=zW xs
 |[],d,h=>absurd h (by simp)
 |x::r,d,h=>by
  show d.weight<=x.weight+1+zW r;obtain e|m:=bM.mp h
  .rw[e];lia
  .have z:=EZ m;lia
noncomputable def toV:aE->V
 |.none=>.bB
 |.bool b=>.bl b
 |.int i _=>.int i
 |.str x _=>.str x
 |.bytes b _=>.gI b
 |.ref a=>.ref a
 |_=>.bB
def kD(A:List af):aE->Prop
 |.none=>True
 |.bool _=>True
 |.int _ _=>True
 |.str _ _=>True
 |.bytes _ _=>True
 |.ref a=>a∈A
 |_=>False
theorem kD.mono{A B}(h:∀a∈A,a∈B):∀{u},kD A u->kD B u:=λ{u} x=>by
 cases u with
 |ref a=>exact h a x
 |none=>trivial
 |bool b=>trivial
 |int i t=>trivial
 |str s t=>trivial
 |bytes b t=>trivial
 |_=>exact False.elim x
theorem Vw{A}{u}(x:kD A u):RelV (toV u) u:=by
 cases u with
 |ref a=>rfl
 |none=>rfl
 |bool b=>rfl
 |int i t=>exact#[t,Z]
 |str s t=>exact#[t,Z]
 |bytes b t=>exact#[t,Z]
 |_=>exact False.elim x
theorem vE{A}:∀{vs},(∀u∈vs,kD A u)->Vals (vs.map toV) vs
 |[],_=>.nil
 |u::r,h=>.cons (Vw (h u (bH ..))) (vE λx hx=>h x (bI _ hx))
def lF(h:aU)(A:List af)(a:af):Prop:=∃vs:List aE,vs.length<=bp/\(∀u∈vs,kD A u)/\
 (h.get? a=aa {cls:=.type "list",data:=.seq vs.toArray}\/h.get? a=aa {cls:=.type "tuple",data:=.seq vs.toArray})
theorem lF.mono{h}{A B}{a}(k:∀a∈A,a∈B)(x:lF h A a):lF h B a:=by
 obtain⟨vs,O,J,G⟩:=x;exact#[vs,O,λu F=>(J u F).mono k,G]
theorem AG{P}{h}:∀{vs}{ds},rr P h vs ds->vs.length=ds.length
 |_,_,.nil=>Z
 |_,_,.cons _ b=>by
  show _+1=_+1;rw[AG b]
theorem MX{P}{h}{v}{ds}(x:Well P h v (.list ds)):∃(a:af)(vs:List _),v=.ref a/\h.get? a=aa {cls:=.type "list",data:=.seq vs.toArray}/\rr P h vs ds:=by
 cases x with
 |list F B=>exact#[_,_,Z,F,B]
theorem MY{P}{h}{v}{ds}(x:Well P h v (.tuple ds)):∃(a:af)(vs:List _),v=.ref a/\h.get? a=aa {cls:=.type "tuple",data:=.seq vs.toArray}/\rr P h vs ds:=by
 cases x with
 |tuple F B=>exact#[_,_,Z,F,B]
theorem MZ{P}{d}{ds}(x:rr P h us (d::ds)):∃(v:aE)(vs:List _),us=v::vs/\Well P h v d/\rr P h vs ds:=by
 cases x with
 |cons a b=>exact#[_,_,Z,a,b]
theorem M0{n}(h:n<=1048576):n<=bp:=bF h (by decide)
section
variable {P:wF}
mutual
theorem Vx:∀(d:hX)(v:aE),Well P h v d->jU d=ai->d.weight<=1048576->∃A:List af,kD A v/\∀a∈A,lF h A a
 |.none,_,x,_,_=>by
  cases x;exact#[[],trivial,λa m=>absurd m (by simp)]
 |.bool b,_,x,_,_=>by
  cases x;exact#[[],trivial,λa m=>absurd m (by simp)]
 |.int i,_,x,_,_=>by
  cases x;exact#[[],trivial,λa m=>absurd m (by simp)]
 |.str s,_,x,_,_=>by
  cases x;exact#[[],trivial,λa m=>absurd m (by simp)]
 |.bytes b,_,x,_,_=>by
  cases x;exact#[[],trivial,λa m=>absurd m (by simp)]
 |.list ds,_,x,p,z=>by
  obtain⟨a,vs,rfl,O,B⟩:=MX x;have G:zW ds<=1048576:=z;obtain⟨A,V,U⟩:=AH ds _ B p λd hd=>bF (EZ hd) G;have k:∀b∈A,b∈a::A:=λb F=>bI _ F;refine#[a::A,bH ..,λb F=>?_];obtain e|m:=bM.mp F
  .rw[e];exact#[vs,M0 (by rw[AG B];exact bF (KO ds) G),λu J=>(V u J).mono k,.inl O]
  .exact(U b m).mono k
 |.tuple ds,_,x,p,z=>by
  obtain⟨a,vs,rfl,O,B⟩:=MY x;have G:zW ds<=1048576:=z;obtain⟨A,V,U⟩:=AH ds _ B p λd hd=>bF (EZ hd) G;have k:∀b∈A,b∈a::A:=λb F=>bI _ F;refine#[a::A,bH ..,λb F=>?_];obtain e|m:=bM.mp F
  .rw[e];exact#[vs,M0 (by rw[AG B];exact bF (KO ds) G),λu J=>(V u J).mono k,.inr O]
  .exact(U b m).mono k
 |.float _,_,_,p,_=>ke (show az=ai from p)
 |.dict _,_,_,p,_=>ke (show az=ai from p)
 |.bytearray _,_,_,p,_=>ke (show az=ai from p)
 |.set _,_,_,p,_=>ke (show az=ai from p)
 |.frozenset _,_,_,p,_=>ke (show az=ai from p)
 |.obj _ _,_,_,p,_=>ke (show az=ai from p)
theorem AH:∀(ds:List hX)(vs:List aE),rr P h vs ds->lE ds=ai->(∀d∈ds,d.weight<=1048576)->∃A:List af,(∀u∈vs,kD A u)/\∀a∈A,lF h A a
 |[],_,x,_,_=>by
  cases x;exact#[[],λu m=>absurd m (by simp),λa m=>absurd m (by simp)]
 |d::ds,_,x,p,z=>by
  obtain⟨v,vs,rfl,U,O⟩:=MZ x;have q:jU d=ai/\lE ds=ai:=B9.mp p;obtain⟨A,a1,a2⟩:=Vx d v U q.1 (z d (bH ..));obtain⟨B,Z,Y⟩:=AH ds vs O q.2 λe W=>z e (bI _ W);have J:∀b∈A,b∈A ++B:=λb F=>df.mpr (.inl F);have G:∀b∈B,b∈A ++B:=λb F=>df.mpr (.inr F);refine#[A ++B,λu V=>?_,λb F=>?_]
  .obtain e|m:=bM.mp V
   .rw[e];exact a1.mono J
   .exact(Z u m).mono G
  .obtain m|m:=df.mp F
   .exact(a2 b m).mono J
   .exact(Y b m).mono G
end
end
noncomputable def AI(o:bN):Option HO:=match o.data with
 |.seq vs _=>if (o.cls==rq "list")=ai then aa (.cE o (.lst (vs.toList.map toV))) else aa (.cE o (.tup (vs.toList.map toV)))
 |_=>ae
noncomputable def fX(K:aP)(h:aU)(A:List af):Hp:=λb=>if b∈A then(if (K.lookup b).isNone=ai then(h.get? b).bind AI else ae) else ae
def xH(H:Hp):Prop:=∀b,H b=ae\/∃o u,H b=aa (.cE o u)
theorem M1(vs:List _):AI {cls:=.type "list",data:=.seq vs.toArray}=aa (.cE {cls:=.type "list",data:=.seq vs.toArray} (.lst (vs.map toV))):=by
 show(if (rq "list"==rq "list")=ai then aa _ else aa (HO.cE {cls:=.type "list",data:=.seq vs.toArray} (.tup (vs.toArray.toList.map toV))))=_
 rw[aC (Li _)]
theorem M3(vs:List _):AI {cls:=.type "tuple",data:=.seq vs.toArray}=aa (.cE {cls:=.type "tuple",data:=.seq vs.toArray} (.tup (vs.map toV))):=by
 show(if (rq "tuple"==rq "list")=ai then aa (HO.cE {cls:=.type "tuple",data:=.seq vs.toArray} (.lst (vs.toArray.toList.map toV))) else aa _)=_
 rw[aw (by decide)]
section
variable {w:aS}{A:List af}
theorem AJ{b}{o}(F:b∈A)(B:K.lookup b=ae)(e:h.get? b=aa o):fX K h A b=AI o:=by
 delta fX;rw[aC F,B,aC _,e]<;>rfl
theorem Vy{b}{u}(q:fX K h A b=aa u):b∈A/\K.lookup b=ae:=by
 delta fX at q;by_cases B:b∈A
 .rw[aC B] at q;cases F:K.lookup b with
  |none=>exact#[B,Z]
  |some o=>
   rw[F,aw (by simp)] at q
   cases q
 .rw[aw B] at q;cases q
theorem xI(U:∀a∈A,lF h A a){b}{u}(q:fX K h A b=aa u):K.lookup b=ae/\∃vs:List _,vs.length<=bp/\(∀u∈vs,kD A u)/\
  ((h.get? b=aa {cls:=.type "list",data:=.seq vs.toArray}/\u=.cE {cls:=.type "list",data:=.seq vs.toArray} (.lst (vs.map toV)))\/
   (h.get? b=aa {cls:=.type "tuple",data:=.seq vs.toArray}/\u=.cE {cls:=.type "tuple",data:=.seq vs.toArray} (.tup (vs.map toV)))):=by
 obtain⟨F,B⟩:=Vy q;rcases U b F with⟨vs,O,J,G⟩;exists B,vs,O,J;obtain e|e:=G
 .rw[AJ F B e,M1] at q;exact .inl #[e,(bf q).symm]
 .rw[AJ F B e,M3] at q;exact .inr #[e,(bf q).symm]
theorem Vz(B:∀a∈A,lF h A a):xH (fX K h A):=λb=>by
 cases q:fX K h A b with
 |none=>exact .inl Z
 |some u=>
  rcases xI B q with⟨_,vs,_,_,⟨_,e⟩|⟨_,e⟩⟩
  .exact .inr #[_,_,by rw[e]]
  .exact .inr #[_,_,by rw[e]]
theorem VA(G:∀a∈A,lF h A a):cW P w (fX K h A) h:=λb u q=>by
 obtain⟨_,vs,F,B,⟨e,rfl⟩|⟨e,rfl⟩⟩:=xI G q
 .exact#[e,by rwa[aJ],vs,_,vE B,e]
 .exact#[e,by rwa[aJ],vs,vE B,_,e,Z,_,Z]
theorem AK{c B}{vs us:List _}(e:(aa {cls:=c,data:=.seq vs.toArray}:Option bN)=aa {cls:=B,data:=.seq us.toArray}):c=B/\vs=us:=by
 have e1:=bf e;have e2:=congrArg bN.cls e1;have J:=congrArg bN.data e1;injection J with G
 exists e2;have F:=congrArg B8 G;simpa using F
theorem VB(W:K.In h)(V:∀a∈A,lF h A a){a}{vs:List _}(F:a∈A)(e:h.get? a=aa {cls:=.type "list",data:=.seq vs.toArray}):(∀u∈vs,kD A u)/\ao K (fX K h A) a (vs.map toV):=by
 obtain⟨us,U,G,O⟩:=V a F;have J:us=vs:=by
  obtain q|q:=O
  .rw[e] at q;exact(AK q).2.symm
  .rw[e] at q;exact absurd (KC (AK q).1) (by decide)
 subst J;exists G;cases B:K.lookup a with
 |none=>exact .inl (.inr #[_,by rw[AJ F B e,M1]])
 |some o=>
  have e2:=W a o B;rw[e] at e2;obtain rfl:=bf e2;exact .inr #[_,_,_,B,Z,Z,Z,by rwa[dG],by simpa using vE G]
theorem VC(W:K.In h)(V:∀a∈A,lF h A a){a}{vs:List _}(F:a∈A)(e:h.get? a=aa {cls:=.type "tuple",data:=.seq vs.toArray}):(∀u∈vs,kD A u)/\cM K (fX K h A) a (vs.map toV):=by
 obtain⟨us,U,G,O⟩:=V a F;have J:us=vs:=by
  obtain q|q:=O
  .rw[e] at q;exact absurd (KC (AK q).1) (by decide)
  .rw[e] at q;exact(AK q).2.symm
 subst J;exists G;cases B:K.lookup a with
 |none=>exact .inl (.inr #[_,by rw[AJ F B e,M3]])
 |some o=>
  have e2:=W a o B;rw[e] at e2;obtain rfl:=bf e2;exact .inr #[_,_,_,B,Z,Z,by rwa[dG],by simpa using vE G]
mutual
theorem VD{W:wF}(G:K.In h)(F:∀a∈A,lF h A a):∀(d:hX)(v:aE),Well W h v d->jU d=ai->kD A v->Dw K (fX K h A) (toV v) d
 |.none,_,x,_,_=>by
  cases x;exact .bB
 |.bool b,_,x,_,_=>by
  cases x;exact .bl b
 |.int i,_,x,_,_=>by
  cases x;exact .int i
 |.str s,_,x,_,_=>by
  cases x;exact .str s
 |.bytes b,_,x,_,_=>by
  cases x;have z:=Dw.gI (K:=K) (H:=fX K h A) b.toArray;exact z
 |.list ds,_,x,p,J=>by
  obtain⟨a,vs,rfl,U,B⟩:=MX x;obtain⟨V,O⟩:=VB G F J U;exact .lst O (AL G F ds _ B p V)
 |.tuple ds,_,x,p,J=>by
  obtain⟨a,vs,rfl,U,B⟩:=MY x;obtain⟨V,O⟩:=VC G F J U;exact .tup O (AL G F ds _ B p V)
 |.float _,_,_,p,_=>ke (show az=ai from p)
 |.dict _,_,_,p,_=>ke (show az=ai from p)
 |.bytearray _,_,_,p,_=>ke (show az=ai from p)
 |.set _,_,_,p,_=>ke (show az=ai from p)
 |.frozenset _,_,_,p,_=>ke (show az=ai from p)
 |.obj _ _,_,_,p,_=>ke (show az=ai from p)
theorem AL{U:wF}(G:K.In h)(F:∀a∈A,lF h A a):∀(ds:List hX)(vs:List aE),rr U h vs ds->lE ds=ai->(∀u∈vs,kD A u)->lD K (fX K h A) (vs.map toV) ds
 |[],_,x,_,_=>by
  cases x;exact .nil
 |d::ds,_,x,p,B=>by
  obtain⟨v,vs,rfl,O,J⟩:=MZ x;have q:jU d=ai/\lE ds=ai:=B9.mp p;exact .cons (VD G F d v O q.1 (B _ (bH ..))) (AL G F ds vs J q.2 λu m=>B u (bI _ m))
end
end
theorem VE{P}{w}{mg mb}{ps}{B}{R}{cl}(KX:K.In B.heap)(hns:B.heap.Ns o_ mg)(hb:B.heap.Ns zm mb)(hbb:∀x:au,x≠"__name__"->mb x=hA x)(hlim:B.heap.NoLimit)(Y:B.heap.NoSeer)(hg:B.gens=#[])(W:rr w.params B.heap vals ds)(bC:lE ds=ai)(hwt:∀d∈ds,d.weight<=1048576)(hr:dn k wI)(F:∀base,K.In base->base.Ns o_ mg->aV P w K mg base CX k fa fd ps sp)(V:∀ s   us ,us.length=ps.length->wB s fd #[us,[]] (ps.zip us))(hlen:ds.length=ps.length)(hsp:∀ H   xs ,xH H->lD K H xs ds->sp xs H (λv H'=>Dw K H' v d0) λy y y=>False)(hCX:∀H e s',CX [] H B (λy y y=>False) e s'->False):
  gD (aH P w) wI (.call (.ref fa) #[vals,[]]) (λr s'=>∃u as,r=.ok (.ret u)/\ph R cl s'.heap u d0 as/\OldK B.heap s'.heap/\s'.os=B.os/\qU s'.gens) B:=by
 rcases AH ds _ W bC hwt with⟨A,ho,ar⟩;have hO:xH (fX K _ A):=Vz ar;have ax:cW P w (fX K _ A) _:=VA ar;have hS:=AL KX ar ds _ W bC ho;have hV:=vE ho;have hK:∀b u,fX K _ A b=aa u->K.lookup b=ae:=λb u q=>(xI ar q).1;have noA:∀{b}{o}{es}{ep},B.heap.get? b=aa o->o.data=.dict es ep->fX K _ A b=ae:=λ{b o es ep} e d=>by
  cases q:fX K _ A b with
  |none=>rfl
  |some u=>
   obtain⟨_,vs,_,_,⟨e2,_⟩|⟨e2,_⟩⟩:=xI ar q
   .rw[e2] at e;cases e;have d':JL ..=JK es ep:=d;cases d'
   .rw[e2] at e;cases e;have d':JL ..=JK es ep:=d;cases d'
 have noM:∀{b}{o O}{u},fX K _ A b=aa (.cE o u)->B.heap.get? b=aa O->O.cls=.type _\/O.cls=.type _:=λq e=>by
  rcases xI ar q with⟨_,vs,_,_,⟨e2,_⟩|⟨e2,_⟩⟩
  .rw[e2] at e;cases e;exact .inl Z
  .rw[e2] at e;cases e;exact .inr Z
 generalize fX K _ A=H at hO ax hS hK noA noM;have G:∀{b}{o},B.heap.get? b=aa o->H b=ae->(tX _ H).get? b=aa o:=λe n=>TC e n;have J:∀{b}{m},B.heap.Ns b m->(tX _ H).Ns b m:=λ⟨o,es,ep,e,d,r⟩=>#[o,es,ep,G e (noA e d),d,r];have nK:∀b o,K.lookup b=aa o->H b=ae:=λb o e=>by
  cases q:H b with
  |none=>rfl
  |some u=>
   rw[hK b u q] at e;cases e
 have hKb:=λb o e=>G (KX b o e) (nK b o e);have hSe:(tX B.heap H).NoSeer:=by
  rcases Y with⟨⟨m1,a1,b1⟩,⟨m2,a2,b2⟩,⟨m3,a3,b3⟩,⟨m4,bm,O,a4,b4,c4,d4,e4⟩⟩;refine#[#[m1,J a1,b1],#[m2,J a2,b2],#[m3,J a3,b3],m4,bm,O,J a4,b4,G c4 ?_,d4,e4];obtain z|⟨o',u,z⟩:=hO bm
  .exact z
  .exact absurd (noM z c4) (by rw[d4];simp)
 have hM:Mod K mg _:=#[hKb,J hns,#[mb,J hb,hbb],let ⟨mc,h1,h2⟩:=hlim;#[mc,J h1,h2],hSe];have e0:rP P w K mg _ wI [] B H:=#[Z,hM,λb o e=>TF e,oY (TB ..),trivial,λb hb=>absurd (show b∈([]) from hb) (by simp),ax,.of_eq hg]
 have hl:vals.length=ps.length:=by rwa[AG W]
 refine o9 ((F _ hKb (J hns)).run _ [] B H _ _ _ _ _ hr e0 (V B _ hl) hV (hsp H _ hO hS)) λr s' x=>?_;cases r with
 |error e=>exact(hCX H e s' x).elim
 |ok fl=>
  cases fl with
  |next=>exact False.elim x
  |brk=>exact False.elim x
  |cont=>exact False.elim x
  |ret u=>
   rcases x with⟨v,H',os,bare,un,U,r',q⟩;have kept:=λb o e=>by
    cases q2:H b with
    |none=>exact un.keep b o e q2 (λz=>absurd (show b∈([]) from z) (by simp)) (by simp)
    |some u2=>
     obtain z|⟨O,u3,z⟩:=hO b
     .rw[q2] at z;cases z
     .have z2:=un.iN b O _ z;obtain⟨e1⟩:=ax b _ z;obtain⟨e2⟩:=U b _ z2;rw[e] at e1;cases e1;exact e2
   have KX':=λb o e=>kept b o (KX b o e);obtain⟨as,hrd⟩:=Dw.reads U KX' d0 v u q r';exact#[u,as,Z,hrd,OldK.of_keep kept,os,bare]
theorem VF{ds}(h:hX.layableAll ds=ai):∀d∈ds,d.weight<=1048576:=λd hd=>
 (PySem.W.layableW_iff.mp (jE.mp h d hd)).2.2
theorem M4:∀B a,(w9 B a).length=B.length
 |[],_=>Z
 |c::B,a=>by
  show(w9 B _).length+1=B.length+1;rw[M4 B _]
theorem VG{r}{q}{loose}{d}{K:wF->aP}{CX:aS->mI}{ps}{sp:aS->Sp}(himp:Iy q=ai)(B:r.wellSaid=ai)(hdf:d.params.defaults=[])(V:r.args.length=ps.length)(hr:dn k wI)(hY:∀w h,YP w h->(K w.params).In h)(F:∀w mg fa h,YP w h->(K w.params).In h->h.Ns o_ mg->mg d.name=aa (.ref fa)->
   ∃fd:kl,(∀s us,us.length=ps.length->wB s fd #[us,[]] (ps.zip us))/\
    ∀base,(K w.params).In base->base.Ns o_ mg->aV r.prog w (K w.params) mg base (CX w) k fa fd ps (sp w))(hsp:∀w H xs a,xH H->KU _ a=ai->zV _ r.asked a=ai->lD (K w.params) H xs (w9 _ a)->
   sp w xs H (λv H'=>Dw (K w.params) H' v (r.ret.enc (zV _ r.f a))) λx x x=>False)(hCX:∀w H s e s',CX w [] H s (λx x x=>False) e s'->False):
  KH q loose XP YP r d [] (λf vs=>IG f vs):=by
 intro w fj J mg mb G Y fa o pm cd doc dV kV ho hd hcd hD hmg hg args vals as U hlay hrd hwl hlo;obtain⟨a,e1,e2⟩:=PySem.W.os_pre_some U;obtain⟨e3,O⟩:=KD.encAll_of_decAll _ _ a e1;subst e3;have KX:=hY w _ Y;obtain⟨fd,hb,hF⟩:=F w mg fa _ Y KX G.T.g hmg;refine PySem.W.enter_call (o9 (VE (R:=[]) (cl:=classAt fj.heap) KX G.T.g G.T.b G.T.builtins G.T.nolimit (G.T.seer himp) hg hwl (MW ..) (VF hlay) hr hF hb (by rwa[M4])
  (λH xs hO hS=>hsp w H xs a hO O e2 hS) λH e s'=>hCX w H J e s') λr' s' hq=>?_)
 obtain⟨u,as',rfl,h1,h2,h3,h4⟩:=hq;exact#[.inl #[u,_,_,Z,λx=>Z,h1,(Ti.post_iff B O ..).mpr Z,λz=>ke (z)],h2,h3,h4]
theorem VH{r}{q}{loose}{d}{K:wF->aP}{ps}{sp:aP->Sp}(himp:Iy q=ai)(B:r.wellSaid=ai)(O:d.params.defaults=[])(G:r.args.length=ps.length)(V:dn k wI)(hY:∀w h,W w h->(K w.params).In h)(F:∀w mg Y h,W w h->(K w.params).In h->h.Ns o_ mg->mg d.name=aa (.ref Y)->
   ∃fd:kl,(∀s us,us.length=ps.length->wB s fd #[us,[]] (ps.zip us))/\
    ∀base,(K w.params).In base->base.Ns o_ mg->aV r.prog w (K w.params) mg base CX k Y fd ps (sp (K w.params)))(J:∀K H xs a,xH H->KU _ a=ai->zV _ r.asked a=ai->lD K H xs (w9 _ a)->
   sp K xs H (λv H'=>Dw K H' v (r.ret.enc (zV _ r.f a))) λx x x=>False)(U:∀H s e s',CX [] H s (λx x x=>False) e s'->False):
  KH q loose XP W r d [] (λf vs=>IG f vs):=
 VG himp B O G V hY F (λw H xs a h1 h2 h3 h4=>J _ H xs a h1 h2 h3 h4) λx H s e s'=>U H s e s'
end L2
variable {X:L2.Cx}{s s':aT}{A:iI}{E Q:aE->aT->Prop}{P prog:gB}{C C' C0 I L N N' S T a b d fI i1 i2 it l l1 l2 z:af}{H:L2.Hp}{apos cpos hpos hpos' p p' pos pos' tpos:iJ}{h h':aU}{K:aP}{pins:List (af×bN)}{o oT ox:bN}{ep i j k kk m n nT slot:Nat}{f name nm nm' q q' x x':au}{t:SetTable}{e e1 e2 value:bW}{ab ab' expr hdct hdct' led:Bool}{ps sn sn':List au}{col col':Option Bool}{dd dd' od:Option af}{j0 j1 j2 j3 j5 k0 k1 k2 k3 k5:Option aE}{es:Array (Int×aE)}{M:Model}{b₀ b₀' st:f_}{body suite suite':List f_}{env:eN}{ts ts':L2.TS}{CX:L2.mI}{fd:kl}{items vs xs ys:Array aE}{mg:au->Option aE}{R:wG->aT->Prop}{g:Array IC}{os:IE}{sl:Array (Option aE)}{ta td te tn tv:L2.TE}{newId newId':String}{cls u v y:aE}{sp:L2.Sp}{D:L2.Ends}{ds:List hX}{outer:List eN}{scope:fS}{rest:List IB}{tb:L2.XK->L2.TS}{c:L2.TT}{bm bs' sub':List aE}{elts:List bW}{r:L2.R2}{EX:L2.XK}{own:List (au×Nat)}{ns:List Int}
namespace XA
open PySem.W PySem.Calls
section
variable {w:aS}{K:Frag}{x:af}{od:Option bN}
theorem VI(X:K.In s.heap)(I:InstAt s.heap x ox C od)(W:fU K (.ref C) "__getattribute__"=aa (aa (.builtin "BaseException.__getattribute__")))(V:fU K (.ref C) "__getattr__"=aa ae)(hb:mroIn K C (.type "BaseException")=aa ai)(hf:findObj K C od name=aa (.value v))(hh:handedIn v=ai)(h:Q v {s with toks:=s.toks+1}):aG (aH prog w) A (wL (.ref x) name expr) Q E s:=by
 obtain⟨U,g⟩:=s;have Y:=I.type (M:=aH prog w);have L1:=w8 (M:=aH prog w) X W;have L2:=w8 (M:=aH prog w) X V;have L3:=looks_find (M:=aH prog w) X I hf;have sub:Looks (aH prog w) U (uY ..) _:=I.type.andThen (KP X hb);refine aj (wpAny_mkText (gE (aj (Y.at (aj (L1.at ?_))))));have O:(Jd (dH C)&&zO "BaseException.__getattribute__"==zO "object.__getattribute__")=az:=by rfl
 dsimp only;have G:(expr&&Jd (zO "BaseException.__getattribute__"))=az:=by cases expr<;>rfl
 delta getAttrByItsOwn hookBefore callGetattribute;refine aj (L2.at ?_);rw[aw (by rw[G];decide)]
 delta boundAndCalled;refine aj (mu (gE ?_));have a:builtinKind "BaseException.__getattribute__"=aa .slot:=by decide +kernel
 have B:splitId "BaseException.__getattribute__"=aa ("BaseException","__getattribute__"):=by decide +kernel
 refine aj (aL (rf (zo S_.ga.plain PySem.F.entry_bexc_ga (@check_slot _ _ _ _ _ _ _ _ _ [] _ a B sub (PySem.F.args_bexc_ga ..) (aj (aL (aj (aL (aj (Y.at (aj (L3.at ?_))))))))))));apply aL;show aG _ _ (handedOut v) ..;rw[handedOut_of hh];exact aL h
end
noncomputable def xJ(K:Frag)(C:af):Bool:=(clsIn K C).any λB=>B.mro==[.ref C,.type "Exception",.type "BaseException",.type "object"]
section
variable {w:aS}{K:Frag}{x:af}
theorem M5{od:Option bN}{tk:Tok}{r:Option aE}(X:K.In s.heap)(I:InstAt s.heap x ox C od)(W:xJ K C=ai)(V:vg K C name=aa r)(h:∀b,aG (aH prog w) A.in1 (match r with|some a=>fi.ObjectAttr.setByDescriptor a (.ref x) v|none=>fi.ObjectAttr.storeInOwnDict (.ref x) (.ref C) (.str name tk) name v b)
   (λfin s'=>match fin with|.done f=>R (.ok f) s'|.again U=>U.quiet=ai/\gD (aH prog w) A U R s') (λe s'=>R (.error e) s') s):
  gD (aH prog w) A (.call (.builtin "object.__setattr__") #[[.ref x,.str name tk,v],[]]) R s:=by
 have B:=PySem.F.store_object;obtain⟨cd,O,G⟩:=DS W;have G:=eq_of_beq G;have sub:Looks (aH prog w) _ (uY _ (.type "object")) ai:=I.type.andThen (KP X (by delta mroIn;rw[O,Im,G];simp))
 refine zo B.slot.plain B.entry (@check_slot _ _ _ s _ _ _ _ _ [] _ B.kind B.split sub (B.args _ _ v) ?_);rcases Option.bind_eq_some_iff.mp V with⟨attr,ha,J⟩;have Y:Looks (aH prog w) _ (mroOf (.ref C)) _:=(looks_clsIn X O).andThen .now;have L3:Looks (aH prog w) s.heap (fi.ObjectAttr.storeTaker? attr) r:=by
  cases attr with
  |none=>cases J;exact .now
  |some a=>
   obtain⟨b,c,rfl⟩:=Iu.mp J;apply (looks_takesIn X c).andThen;cases b<;>exact .now
 rw[osa_eq,refuse_eq];refine aj (aj (I.type.here (aj (Y.here ?_))));rw[G,refuseLoop_ref,PySem.F.store_Exception.passes];exact aL (aj (I.type.here (aj ((w8 X ha).here (aj (L3.here (h _)))))))
theorem VJ{Q}(X:K.In s.heap)(hx:s.heap.get? x=aa #[.ref C,ae,.fields vs,sl])(hs:fU K (.ref C) "__setattr__"=aa (aa (.builtin "object.__setattr__")))(hp:xJ K C=ai)(ht:vg K C name=aa ae)(hh:tS K C=ai)(h:∀h',h'.get? x=aa #[.ref C,aa s.heap.objs.size,.fields vs,sl]->h'.Ns1 s.heap.objs.size (λy=>if y=name then aa v else ae)->
   (∀b o,b≠x->s.heap.get? b=aa o->h'.get? b=aa o)->Q () {s with heap:=h',toks:=s.toks+2}):
  aG (aH prog w) A (u5 (.ref x) name v) Q E s:=by
 have J:InstAt _ x _ C ae:=#[hx,Z,Z,trivial];refine set_plain X J hs (M5 X J hp ht λb=>?_)
 rcases DS hh with⟨cd,hc,W⟩;refine aj (aL (aj (aj (Dy hx (aj (DX (DV X hc) ?_))))))
 rw[W];have B:=bq ve hx;have e1:(s.heap.push _).get? _=aa ve:=cJ _ Z;have nx:=fh (bA hx);refine aj (Dr (aj (wpAny_update (B) (aL (aj (aL (aj ?_)))))));have O:((s.heap.push _).update x λo=>{cls:=o.cls,dict:=aa _,data:=o.data,slots:=o.slots}).get? x=aa #[_,aa s.heap.objs.size,_,sl]:=ko _ B Z;have e2:((s.heap.push _).update x λo=>{cls:=o.cls,dict:=aa s.heap.objs.size,data:=o.data,slots:=o.slots}).get? _=aa _:=(jK _ _ (bG nx)).trans e1;have e3:((s.heap.push _).update x _).Ns ..:=#[_,_,_,e2,Z,(λe he=>absurd he (by simp)),λz=>Z]
 refine DC (Ki e3) λh' G F=>?_;rcases G.count (DY _ v (ns:=[]) (λy hy=>absurd Z hy)) with⟨oD,esD,epD,U,V,Y⟩;refine aj (Dz U (by rw[V];exact Dc (bF Y (by simp))) (aL (h _ ((F.2 _ (bG nx)).trans O) G λb o hb e=>?_)));have a:=c6 (bA e);rw[F.2 _ a,jK _ _ (bG hb)];exact bq _ e
theorem VL{Q}{B}{V}{ns}(X:K.In s.heap)(hx:s.heap.get? x=aa #[.ref C,aa B,.fields vs,sl])(hN:s.heap.Ns1 B V)(Y:B≠x)(hs:fU K (.ref C) "__setattr__"=aa (aa (.builtin "object.__setattr__")))(hp:xJ K C=ai)(ht:vg K C name=aa ae)(hh:tS K C=ai)(hw:uV V ns)(hsz:ns.length<=1000)(h:∀h',h'.get? x=aa #[.ref C,aa B,.fields vs,sl]->h'.Ns1 B (λy=>if y=name then aa v else V y)->
   jJ B s.heap h'->Q () {s with heap:=h',toks:=s.toks+2}):
  aG (aH prog w) A (u5 (.ref x) name v) Q E s:=by
 obtain⟨U,_,_,G,_⟩:=id hN;have J:InstAt _ x _ C (aa U):=#[hx,Z,Z,G];refine set_plain X J hs (M5 X J hp ht λb=>?_)
 obtain⟨cd,hc,hd'⟩:=DS hh;refine aj (aL (aj (aj (Dy hx (aj (DX (DV X hc) ?_))))))
 rw[hd'];refine aL (aj (aL (aj (DC hN λh' O F=>?_))))
 obtain⟨oD,esD,epD,W,a,hcD⟩:=O.count (DY _ v hw);exact aj (Dz W (by rw[a];exact Dc (bF hcD (by rw[bP,bQ];lia))) (aL (h _ ((F.2 _ (bG Y)).trans hx) O F)))
end
noncomputable abbrev iq:List aE:=[.type "Exception",.type "BaseException",.type "object"]
noncomputable abbrev nS(C:af)(t:af):bN:={cls:=.ref C,data:=.fields (tAr [.ref t,.none,.none,.none,.bool az,.none])}
section
variable {w:aS}{d:Drawn}{t:Nat}{K:Frag}
variable {bs:List aE}{sub:List aE}
theorem VM{rest:List aE}{f:af}(X:K.In h)(F:h.get? C=aa (qX nm q C N bs iq hdct sn sub ab col dd k0 k1 k2 k3 k5 "Exception.__new__"))(V:fU K (.ref C) "__init__"=aa (aa (.ref f)))(W:typeIn K (.ref f)=aa (.type "function"))(U:gD (aH prog w) (A.under (.builtin "type.__call__" #[.ref C::rest,[]])) (.call (.ref f) #[.ref (h.objs.size+1)::rest,[]]) (InitBack (h.objs.size+1) R)
   #[(h.push {cls:=.type "tuple",data:=.seq rest.toArray}).push (nS C h.objs.size),g,d,t,os])(G:rest.length<=bp:=by size_fits):
  gD (aH prog w) A (.call (.ref C) #[rest,[]]) R #[h,g,d,t,os]:=by
 have FB:=JY;have T:OwnTail h iq iq:=.base;have f1:=tc_lookup;have f2:=tc_bind (.ref C);have a:(#[h,g,d,t,os]:aT).TypeIs (.ref C) "type":=#[_,F,Z];refine zq ?_;show aG _ _ (CU (.ref C) _) _ _ _
 repeat (any_goals (first|assumption|with_reducible refine k8 F ?_|wp_step))
 refine#[Z,IL (wY _ (by decide +kernel)) IU (Jh F ?_)]
 repeat (first|with_reducible refine k8 F ?_|with_reducible refine Jo F ?_|wp_step)
 refine IM (wY _ FB.quiet) (Jg FB T F (IQ FB T F ?_ G));show aG _ _ _ _ _ _;have J:=bq (nS C h.objs.size)
  (bq {cls:=.type "tuple",data:=.seq rest.toArray} F)
 have B:=by heap_get
 have O:(dH C::iq).contains (.ref C)=ai:=by simp
 have k:∀b o,h.get? b=aa o->((h.push {cls:=.type "tuple",data:=.seq rest.toArray}).push (nS C h.objs.size)).get? b=aa o:=λb o e=>bq _ (bq _ e);have Y:=(w8 (M:=aH prog w) X V).keeps k;have L2:=(bind_fn (M:=aH prog w) X (.ref (h.objs.size+1)) W).keeps k;delta uY IH specialOf
 repeat (first|with_reducible refine k8 B ?_|wp_step)
 refine wV J ?_;rw[O]
 repeat (first|with_reducible refine k8 B ?_|wp_step)
 refine Y.here  (gE (aj (L2.here (s:=#[(h.push {cls:=.type "tuple",data:=.seq rest.toArray}).push (nS C h.objs.size),g,d,t,os]) (aj (rf (o9 U λr s' z=>?_))))));rcases r with e|(v|_|_|_)<;>first|exact z|exact z.elim|skip
 obtain⟨rfl,z⟩:=z;exact aL (aL z)
end
def nU(n:Nat)(h:aU)(a:af)(vs:Array aE)(T:Option af):Prop:=match T with
 |none=>vs[1]? =aa .none
 |some T=>vs[1]? =aa (.ref T)/\n<=T/\T≠a/\∃oT ts,h.get? T=aa oT/\oT.data=.fields ts/\ts[3]? =aa .none
structure xK(fs:List af)(a:af)(T:Option af)(h h':aU):Prop where
 keep:∀b o,h.get? b=aa o->b≠a->aa b≠T->b∉fs->h'.get? b=aa o
 slot:∀b o,h.get? b=aa o->b≠a->aa b≠T->∃sl,h'.get? b=aa {o with slots:=sl}
 size:h.objs.size<=h'.objs.size
def rX(n:Nat)(h:aU)(a:af)(vs:Array aE)(T:Option af):Prop:=match T with
 |none=>vs[1]? =aa .none
 |some T=>vs[1]? =aa (.ref T)/\n<=T/\T≠a/\∃oT ts z,h.get? T=aa oT/\oT.data=.fields ts/\ts[3]? =aa z
theorem nU.w{T:Option af}(t:nU n h a vs T):rX n h a vs T:=by
 cases T with
 |none=>exact t
 |some T=>
  obtain⟨G,F,B,oT,ts,e,d,f⟩:=t;exact#[G,F,B,oT,ts,_,e,d,f]
theorem M6{base}{head}{O}{Q}(hfr:A.frames=aa (env::outer))(hl:s.heap.FunFrames base (env::outer))(hf:env.frame=aa L)(he:s.heap.get? a=aa #[cls,od,.fields vs,sl])(hsz:1<vs.size)(h:∀h' T,s.heap.objs.size<=T->xK ((env::outer).filterMap (·.frame)) a ae s.heap h'->h'.get? a=aa #[cls,od,.fields (vs.setIfInBounds 1 (.ref T)),sl]->
   (∃oT ts z,h'.get? T=aa oT/\oT.data=.fields ts/\ts[3]? =aa z)->T≠a->Q () {s with heap:=h'}):
  aG M A (do let a'<-frameOf env;let pl<-entryPlaceOf L O;let b<-SY head a' .none (fB L) .none pl;Dg (.ref a) 1 b) Q E s:=by
 have Y:a∉(env::outer).filterMap _:=λhm=>by
  obtain⟨_,o,ho,hnf⟩:=hl.mem hm;rw[he] at ho;injection ho with ho;subst ho;exact hnf vs Z
 refine aj (wpAny_frameOf_fun hfr hl hf λw B=>aj (wpAny_entryPlaceOf λpl bC=>?_));refine aj (jd ?_ (bC.sizeOk5 ..));have G:=(B.2.1 a Y).trans he;have F:=bq  {cls:=.type "traceback",dict:=ae,data:=.fields ([head,.ref L,.none,fB L,.none]++(if pl.isEmpty then cR 6 jL else pl)).toArray} G
 have hTe:=fh (bA G);have V:=jg (o:=#[cls,od,.fields vs,sl]) Z (·.setIfInBounds 1 (dH w.objs.size));have U:=ko _ F (tQ V);have W:=(jK (w.push {cls:=.type "traceback",dict:=ae,data:=.fields ([head,.ref L,.none,fB L,.none]++(if pl.isEmpty then cR 6 jL else pl)).toArray})
  (tR (·.setIfInBounds 1 (dH w.objs.size))) (bG hTe)).trans (cJ w Z)
 refine k9 F Z hsz (h _ _ (oY B.1.symm) ?_ U #[_,_,fB L,W,Z,by simp] hTe)
 have keep:∀b o,b≠a->w.get? b=aa o->
  ((w.push {cls:=.type "traceback",dict:=ae,data:=.fields ([head,.ref L,.none,fB L,.none]++(if pl.isEmpty then cR 6 jL else pl)).toArray}).update a (tR (·.setIfInBounds 1 (dH w.objs.size)))).get? b=aa o:=λb o J c=>by
  rw[jK _ _ (bG J)];exact bq _ c
 exists λb o c J x hbf=>keep b o J ((B.2.1 b hbf).trans c),λb o c J x=>?_
 .obtain⟨sl,hs⟩:=B.2.2 b o c;exact#[sl,keep b _ J hs]
 .rw[zJ,dS,B.1];exact qO _
theorem M7{base}{T}{Q}(Y:A.frames=aa (env::outer))(hl:s.heap.FunFrames base (env::outer))(hf:env.frame=aa L)(Z:s.heap.get? a=aa #[cls,od,.fields vs,sl])(ht:rX n s.heap a vs T)(hn:n<=s.heap.objs.size)(h:∀h' U W,xK ((env::outer).filterMap (·.frame)) a T s.heap h'->(s.heap.objs.size<=U\/T=aa U)->h'.get? a=aa #[cls,od,.fields W,sl]->rX n h' a W (aa U)->Q () {s with heap:=h'}):
  aG M A (qZ (.ref a) env) Q E s:=by
 cases T with
 |none=>
  have G:=ht;have hsz:=(nj.mp G).1;delta qZ;simp only[hf];exact aj (eC Z rfl G (M6 Y hl hf Z hsz λh' U F N e1 e2 e3=>h h' U _ N (.inl F) e1 #[by simp[hsz],bF hn F,e3,e2]))
 |some T=>
  rcases ht with⟨G,hnT,hTe,oT,ts,z,hT,J,h3⟩;have hsz:=(nj.mp G).1;delta qZ;simp only[hf];refine aj (eC Z rfl G (aj (eC hT J h3 ?_)));by_cases hz:(z==fB L)=ai
  .rw[aC hz];exact aL (h _ T vs #[λb o w x x x=>w,λb o w x x=>#[_,w],bb _] (.inr rfl) Z #[G,hnT,hTe,oT,ts,z,hT,J,h3])
  rw[aw hz];refine aj (k9 hT J (nj.mp h3).1 ?_);have other:∀b,b≠T->(s.heap.update T (tR (·.setIfInBounds 3 jL))).get? b=s.heap.get? b:=λb w=>jK _ _ (bG w);have B:∀b o,s.heap.get? b=aa o->(∀vs,o.data≠.fields vs)->b≠T:=λb o w V q=>by
   rw[q,hT] at w;injection w with w;subst w;exact V ts J
  refine M6 Y (hl.of_keeps λb o w V=>#[o,(other b (B b o w V)).trans w,rfl]) hf ((other a (bG hTe)).trans Z) hsz
   λh' U F N e1 e2 e3=>?_
  have O:s.heap.objs.size<=U:=by rw[zJ] at F;omega
  refine h h' U _ #[λb o w G h2 h3=>N.keep b o ((other b λq=>h2 (by rw[q])).trans w) G (by simp) h3,λb o w G h2=>N.slot b o ((other b λq=>h2 (by rw[q])).trans w) G (by simp),?_] (.inl O) e1 #[by simp[hsz],bF hn O,e3,e2]
  have:=N.size;rw[zJ] at this;omega
theorem M8{f}{Q}(O:s.heap.get? a=aa #[cls,od,.fields vs,sl])(G:rX n s.heap a vs (aa T))(h:∀h',(∀b,b≠T->h'.get? b=s.heap.get? b)->h'.objs.size=s.heap.objs.size->(∃oT ts,h'.get? T=aa oT/\oT.data=.fields ts/\ts[3]? =aa (f.elim .none λf=>fB f))->Q () {s with heap:=h'}):
  aG M A (zv (.ref a) f) Q E s:=by
 rcases G with⟨Y,J,V,oT,ts,z,F,w,W⟩;have B:=(nj.mp W).1;exact aj (eC O Z Y (k9 F w B (h _ (λb U=>jK _ _ (bG U)) (by rw[zJ]) #[_,_,ko _ F (tQ (jg w _)),jg w _,by simp[B]])))
theorem E1{base:aU}{T:Option af}{Q:Unit->aT->Prop}(U:A.frames=aa (env::outer))(hl:s.heap.FunFrames base (env::outer))(hf:env.frame=aa L)(he:s.heap.get? a=aa #[cls,od,.fields vs,sl])(Y:rX n s.heap a vs T)(Z:n<=s.heap.objs.size)(h:∀h' J w,xK ((env::outer).filterMap (·.frame)) a T s.heap h'->(s.heap.objs.size<=J\/T=aa J)->h'.get? a=aa #[cls,od,.fields w,sl]->nU n h' a w (aa J)->Q () {s with heap:=h'}):
  aG M A (qZ (.ref a) env) (λx s'=>aG M A (zv (.ref a) ae) Q E s') E s:=by
 refine M7 U hl hf he Y Z λh' J w N o e t=>M8 e t λW k sz ⟨oT,ts,e2,d2,f2⟩=>?_
 have O:=t.2.2.1;have ne:∀b B,s.heap.get? b=aa B->aa b≠T->b≠J:=λb B G F=>by
  obtain o|o:=o
  .exact c6 (eW (bA G) o)
  .intro z;rw[z,o] at F;exact F rfl
 refine h W J w #[λb B G V F h3=>?_,λb B G V F=>?_,?_] o ((k a (bG O)).trans e) #[t.1,t.2.1,O,oT,ts,e2,d2,f2]
 .exact(k b (ne b B G F)).trans (N.keep b B G V F h3)
 .obtain⟨sl,q⟩:=N.slot b B G V F;exact#[sl,(k b (ne b B G F)).trans q]
 .rw[sz];exact N.size
theorem VN{base:aU}{T:Option af}{Q:Unit->aT->Prop}(B:A.frames=aa (env::outer))(O:s.heap.FunFrames base (env::outer))(U:env.frame=aa L)(V:s.heap.get? a=aa #[cls,od,.fields vs,sl])(G:rX n s.heap a vs T)(J:n<=s.heap.objs.size)(h:∀h' F w,xK ((env::outer).filterMap (·.frame)) a T s.heap h'->(s.heap.objs.size<=F\/T=aa F)->h'.get? a=aa #[cls,od,.fields w,sl]->nU n h' a w (aa F)->Q () {s with heap:=h'}):aG M A (leaving env (.ref a)) Q E s:=
 aj (E1 B O U V G J h)
end XA
namespace L2
structure Fly(n:Nat)(C:af)(od:Option af)(a:af)(H:Hp)(h:aU):Prop where
 ex:∃vs sl T,h.get? a=aa #[.ref C,od,.fields vs,sl]/\XA.rX n h a vs T/\(∀t,T=aa t->H t=ae)
 young:n<=a
 free:H a=ae
theorem Fly.mono(F:Fly n C od a H h)(B:m<=n):Fly m C od a H h:=by
 obtain⟨⟨vs,sl,T,e,t,f⟩,y,fr⟩:=F;refine#[#[vs,sl,T,e,?_,f],bF B y,fr];cases T with
 |none=>exact t
 |some T=>exact#[t.1,bF B t.2.1,t.2.2]
inductive e9(P:gB)(w:aS)(C:af)(outer:List eN)(H:Hp)(s:aT)(E:XK)(e:aE)(s':aT):Prop|m:∀a od H',e=.ref a->s'.os=s.os->qU s'.gens->Un (jO outer) [] H H' s.heap s'.heap->cW P w H' s'.heap->Fly s.heap.objs.size C od a H' s'.heap->E (.ref C) od H'->e9 P w C outer H s E e s'
structure Old(X:Cx)(pins:List (af×bN))(m:Nat):Prop where
 entry:X.fj.heap.objs.size<=m
 pins:∀p∈X.pn ++pins,p.1<m
 loc:X.env.locals<m
 cells:∀x c,X.env.cells.lookup x=aa c->c<m
theorem Inv.old{B:St}(I:Inv X pins B H s):Old X pins s.heap.objs.size:=
 #[I.sz,λp F=>bA (I.pin p F).1,I.lt,λx c e=>by obtain⟨_,o,G,_⟩:=I.cell x c e;exact bA G]
def XW(X:Cx)(C:af)(E:XK):Prop:=∀pins B H s a od m,Inv X pins B H s->Old X pins m->Fly m C od a H s.heap->E (.ref C) od H->X.xe (.ref a) s
theorem ej{E}(W:XW X C E):Passes (e9 X.prog X.w C) X E:=λpins B H s e s' I ⟨a,dx,F,V,O,Y,G,ax,U,c⟩=>by
 subst V;have J:=I.tY O G ax Y (λb h=>absurd h (by simp))
 exact W _ B F s' a dx _ J I.old U c
theorem cW.AM{w}{T}(ok:cW P w H h)(N:XA.xK fs a T h h')(J:H a=ae)(O:∀t,T=aa t->H t=ae)(G:∀b∈fs,H b=ae):cW P w H h':=λb o e=>
 (ok b o e).ij (λc u F q=>by
  have B:H c≠ae:=by
   obtain rfl|F:=F
   .rw[e];intro z;cases z
   .rw[F];intro z;cases z
  exact N.keep c u q (λz=>B (z▸J)) (λz=>B (O c z.symm)) (λz=>B (G c z))) (λx q=>q) λx x q=>q
section
variable {w:aS}{base:aU}
theorem VO{N}{f}{cd}{E}:
  XW (pJ (e9 P w C) P w K mg base N qual scope f cd A outer s H E) C E:=λpins x H' s' a dx m I O F hE=>by
 obtain⟨⟨vs,sl,T,he,ht,W⟩,c,V⟩:=F.mono O.entry;have hst:=I.stack;have U:=I.ok.frames;refine XA.VN U hst Z he ht I.sz λh' T' vs' Nt hT' e1 t1=>?_;have hfs:=I.vp;have Y:=hT'.elim I.ax.fresh (W T');have G:∀t,T=aa t->s.heap.objs.size<=t:=λt z=>by
  subst z;exact ht.2.1
 have Lb:=I.ok.above;refine#[a,dx,H',Z,I.os,I.bare,#[λb o q n hb hx=>?_,λb o q n hb hx=>?_,I.base.free,λb o q hx=>?_,I.base.jM,I.base.iN,I.base.jN],I.ax.AM Nt V W hfs,#[#[_,sl,_,e1,t1.w,λt z=>by cases z;exact Y],c,V],hE]
 .have B:=bA q;refine Nt.keep b o (I.base.keep b o q n hb hx) (λz=>by subst z;exact absurd B (f9.mpr c)) (λz=>absurd B (f9.mpr (G b z.symm))) (λz=>?_)
  obtain z|z:=bM.mp (I.Ah b z)
  .subst z;exact absurd B (f9.mpr Lb)
  .exact hb z
 .have B:=bA q;obtain⟨sl1,q1⟩:=I.base.slot b o q n hb hx;obtain⟨J,q2⟩:=Nt.slot b _ q1 (λz=>by subst z;exact absurd B (f9.mpr c)) (λz=>absurd B (f9.mpr (G b z.symm)))
  exact#[J,q2]
 .have B:=bA q;obtain⟨o1,q1⟩:=I.base.there b o q hx;obtain⟨J,q2⟩:=Nt.slot b _ q1 (λz=>by subst z;exact absurd B (f9.mpr c)) (λz=>absurd B (f9.mpr (G b z.symm)))
  exact#[_,q2]
end
noncomputable def nW(a C t:af)(od:Option af):HO:=.ext λh=>h.get? a=aa #[.ref C,od,.fields (tAr [.ref t,.none,.none,.none,.bool az,.none]),#[]]
noncomputable def kE(d:af)(fs:List (au×V)):HO:=.ext λh=>∃B,h.Ns1 d B/\(∀f,fW (fs.lookup f) (B f))/\uV B (fs.map (·.1))
noncomputable def ExF(a C B:af):HO:=.ext λh=>∃vs sl,h.get? a=aa #[.ref C,aa B,.fields vs,sl]
section
variable {w:aS}{t:af}{fs:List (au×V)}
theorem M9(e:h.get? a=aa #[.ref C,od,.fields (tAr [.ref t,.none,.none,.none,.bool az,.none]),#[]]):dC P w H h a (nW a C t od):=#[e,#[_,e],λx x q k=>k _ q]
theorem M_{B}(n:h.Ns1 d B)(r:∀f,fW (fs.lookup f) (B f))(F:uV B (fs.map (·.1))):dC P w H h d (kE d fs):=by
 obtain⟨o,x⟩:=id n;exact#[#[B,n,r,F],#[o,x.choose_spec.choose_spec.1],λy y ⟨m,q,r,F⟩ k=>#[m,q.at k,r,F]]
theorem VP(e:h.get? a=aa #[.ref C,aa d,.fields vs,sl]):dC P w H h a (ExF a C d):=#[#[vs,sl,e],#[_,e],λx x ⟨vs,sl,q⟩ k=>#[vs,sl,k _ q]]
end
section
variable {σ:St}
theorem Inv.two{G od}{t'}(I:Inv X pins σ H s)(W:∃φ,H a=aa (.ext φ))(hd:s.heap.objs.size<=d)(k:∀b u,b≠a->s.heap.get? b=aa u->h'.get? b=aa u)(ha:∃u,h'.get? a=aa u)(na:dC X.prog X.w (upd (upd H d od) a G) h' a G)(nd:dC X.prog X.w (upd (upd H d od) a G) h' d od):Inv X pins σ (upd (upd H d od) a G) {s with heap:=h',toks:=t'}:=by
 obtain⟨φ,B⟩:=W;have V:=I.ax.fresh hd;have J:∀b o,H b=aa o->(∀φ,o≠.ext φ)->(upd (upd H d od) a G) b=aa o:=λb o e U=>by
  have F:b≠a:=λz=>by subst z;rw[B] at e;exact U φ (bf e).symm
  rwa[aB F,aB (bc e V)]
 refine I.un #[λb o q n f hx=>k b o (λz=>by subst z;rw[B] at n;cases n) q,λb o q n f hx=>#[_,k b o (λz=>by subst z;rw[B] at n;cases n) q],λb o q n hx=>?_,λb o q hx=>?_,
  λb xs e=>J b _ e (λx z=>by cases z),λb o u e=>J b _ e (λx z=>by cases z),λb ps e=>#[_,by rw[yG];exact J b _ e (λx z=>by cases z)]] ?_
 .have F:b≠a:=λz=>by subst z;rw[B] at n;cases n
  have O:b≠d:=λz=>by subst z;exact absurd (bA q) (f9.mpr hd)
  rwa[aB F,aB O]
 .by_cases z:b=a
  .subst z;exact ha
  .exact#[o,k b o z q]
 .intro b o e;by_cases F:b=a
  .subst F;rw[aA] at e;cases e;exact na
  .rw[aB F] at e;by_cases O:b=d
   .subst O;rw[aA] at e;cases e;exact nd
   .rw[aB O] at e;refine(I.ax b o e).ij (λc u Y q=>k c u (λz=>?_) q) (λc q=>J c _ q (λx z=>by cases z)) (λc xs q=>J c _ q (λx z=>by cases z))
    subst z;obtain z|z:=Y
    .exact F z.symm
    .rw[B] at z;cases z
theorem Inv.VQ{φ}(I:Inv X pins σ H s)(G:H a=aa (.ext φ)):Inv X pins σ (λb=>if b=a then ae else H b) s:=by
 have F:∀b,H b=ae->(λb=>if b=a then ae else H b) b=ae:=λb n=>by
  dsimp;by_cases z:b=a
  .rw[aC z]
  .rwa[aw z]
 have B:∀b o,H b=aa o->(∀φ,o≠.ext φ)->(λb=>if b=a then ae else H b) b=aa o:=λb o e J=>by
  have U:b≠a:=λz=>by subst z;rw[G] at e;exact J φ (bf e).symm
  dsimp;rwa[if_neg U]
 refine#[I.ok,I.os,I.bare,#[I.base.keep,I.base.slot,λb o q n hx=>F b (I.base.free b o q n hx),I.base.there,λb xs e=>B b _ (I.base.jM b xs e) (λy z=>by cases z),λb o u e=>B b _ (I.base.iN b o u e) (λy z=>by cases z),λb ps e=>?_],
  I.loc,I.cell,F _ I.free,λx c e=>F _ (I.fK x c e),λp O=>?_,λb o e=>?_,I.len]
 .obtain⟨more,q⟩:=I.base.jN b ps e;exact#[_,B b _ q (λy z=>by cases z)]
 .obtain⟨e,n,r⟩:=I.pin p O;exact#[e,F _ n,r]
 .by_cases z:b=a
  .rw[aC z] at e;cases e
  .rw[aw z] at e;exact(I.ax b o e).ij (λc u y q=>q) (λc q=>B c _ q (λy z=>by cases z)) (λc xs q=>B c _ q (λy z=>by cases z))
theorem Inv.VR{φ}(I:Inv X pins σ H s)(O:H a=ae)(G:X.fj.heap.objs.size<=a)(U:a≠X.env.locals)(V:∀x c,X.env.cells.lookup x=aa c->c≠a)(J:∀p∈X.pn ++pins,p.1≠a)(new:dC X.prog X.w (upd H a (.ext φ)) s.heap a (.ext φ)):Inv X pins σ (upd H a (.ext φ)) s:=by
 have B:∀b o,H b=aa o->upd H a (.ext φ) b=aa o:=λb o e=>by rwa[aB (bc e O)]
 refine#[I.ok,I.os,I.bare,#[I.base.keep,I.base.slot,λb o q n hx=>?_,I.base.there,λb xs e=>B b _ (I.base.jM b xs e),λb o u e=>B b _ (I.base.iN b o u e),λb ps e=>?_],
  I.loc,I.cell,by rw[aB (bG U)];exact I.free,λx c e=>by rw[aB (V x c e)];exact I.fK x c e,λp F=>?_,λb o e=>?_,I.len]
 .rw[aB (λz=>by subst z;exact absurd (bA q) (f9.mpr G))];exact I.base.free b o q n hx
 .obtain⟨more,q⟩:=I.base.jN b ps e;exact#[_,B b _ q]
 .obtain⟨e,n,r⟩:=I.pin p F;exact#[e,by rwa[aB (J p F)],r]
 .by_cases z:b=a
  .subst z;rw[aA] at e;cases e;exact new
  .rw[aB z] at e;exact(I.ax b o e).ij (λc u y q=>q) (λc q=>B c _ q) (λc xs q=>B c _ q)
end
structure jm(K:aP)(C fI:af):Prop where
 look:∃nm q N bs sn sub ab col dd k0 k1 k2 k3 k5,K.lookup C=aa (qX nm q C N bs XA.iq ai sn sub ab col dd k0 k1 k2 k3 k5 "Exception.__new__")
 init:fU K (.ref C) "__init__"=aa (aa (.ref fI))
 fn:zR K (.ref fI)=ai
 kp:nE K (.ref C)=ai
 ga:fU K (.ref C) "__getattribute__"=aa (aa (.builtin "BaseException.__getattribute__"))
 gt:fU K (.ref C) "__getattr__"=aa ae
 sa:fU K (.ref C) "__setattr__"=aa (aa (.builtin "object.__setattr__"))
theorem jm.over(T:jm K C fI):XA.xJ K C=ai:=by
 rcases T.look with⟨_,_,_,_,_,_,_,_,_,_,_,_,_,_,e⟩;delta XA.xJ DU;rw[e];simp
theorem jm.E2(T:jm K C fI):tS K C=ai:=by
 rcases T.look with⟨_,_,_,_,_,_,_,_,_,_,_,_,_,_,e⟩;delta tS DU;rw[e];rfl
theorem jm.base(T:jm K C fI):KR K C (.type "BaseException")=aa ai:=by
 rcases T.look with⟨_,_,_,_,_,_,_,_,_,_,_,_,_,_,e⟩;delta KR DU;rw[e];simp
section
variable {σ:St}{t:af}
theorem VS{y}{Q}(I:Inv X pins σ H s)(e:H a=aa (nW a C t ae))(T:jm X.K C fI)(n:cP X.K C f)(F:RelV y u)(h:∀d s',H d=ae->Inv X pins σ (upd (upd H d (kE d [(f,y)])) a (nW a C t (aa d))) s'->Q () s'):aG (aH X.prog X.w) A (u5 (.ref a) f u) Q E s:=by
 have hx:=(I.ax a _ e).1;refine XA.VJ I.dN hx T.sa T.over n.EB T.E2 λh' B U O=>h _ _ I.fresh (I.two #[_,e] (bb _) (λb u J q=>O b u J q) #[_,B] (M9 B) (M_ U (λg=>?_) ?_))
 .by_cases z:g=f
  .subst z;simp[mh,Li];exact F
  .rw[aw z];simp[mh,kz.mpr z];trivial
 .intro g G;by_cases z:g=f
  .subst z;simp
  .exact absurd (aw z) G
theorem VT{y:V}{fs:List (au×V)}{Q:Unit->aT->Prop}(I:Inv X pins σ H s)(e:H a=aa (nW a C t (aa d)))(O:H d=aa (kE d fs))(B:d≠a)(hl:fs.length<1000)(T:jm X.K C fI)(n:cP X.K C f)(U:RelV y u)(h:∀s',Inv X pins σ (upd H d (kE d (b_ f y fs))) s'->Q () s'):aG (aH X.prog X.w) A (u5 (.ref a) f u) Q E s:=by
 have hx:s.heap.get? a=aa #[.ref C,aa d,.fields (tAr [.ref t,.none,.none,.none,.bool az,.none]),#[]]:=(I.ax a _ e).1;obtain⟨F,c,hR,G⟩:=(I.ax d _ O).1;refine XA.VL I.dN hx c B T.sa T.over n.EB T.E2 G (by rw[aJ];exact Nat.le_of_lt ‹_›) λh' h1 J h3=>h _ (I.write (x:=d) (e:=d) (t':=s.toks+2) (by rw[O];trivial) (.inl Z) (λb u Y q=>(h3.2 b Y).trans q) (let ⟨o,x⟩:=id J;#[o,x.choose_spec.choose_spec.1]) (M_ J (λg=>?_) ?_))
 .rw[Ez];show fW _ (if g=f then aa u else F g)
  by_cases z:g=f
  .subst z;rw[aC Z,aC Z];exact U
  .rw[aw z,aw z];exact hR g
 .intro g W;by_cases z:g=f
  .subst z;exact(xq g y fs).1
  .exact(xq f y fs).2 g (G g (λq=>W (by show(if g=f then aa u else F g)=ae;rw[aw z];exact q)))
theorem VU{v}{B}{fs}{b}(I:Inv X pins σ H s)(e:H a=aa (ExF a C B))(Y:H B=aa (kE B fs))(T:jm X.K C fI)(n:cP X.K C f)(l:fs.lookup f=aa v)(h:∀u s',Inv X pins σ H s'->RelV v u->Q u s'):aG (aH X.prog X.w) A (wL (.ref a) f b) Q E s:=by
 obtain⟨vs,sl,hx⟩:=(I.ax a _ e).1;obtain⟨c,W,hR,hW⟩:=(I.ax B _ Y).1;have r:=hR f;rw[l] at r;obtain⟨u,G,F⟩:=r.some_of;obtain⟨od,O,U⟩:=LJ W;have J:KG _ a _ C (aa od):=#[hx,Z,Z,O];exact XA.VI I.dN J T.ga T.gt T.base (KJ T.E2 n Z (by rw[U,G])) (LL F) (h u _ (I.tok _) F)
end
inductive Na(K:aP)(f:au)(D:Ends)(σ:St)(y:V)(x:V)(H2:Hp):Prop|m:∀a C t,x=.ref a->H2 a=aa (nW a C t ae)->(∃fI,jm K C fI)->cP K C f->(∀d,H2 d=ae->D.nx σ (upd (upd H2 d (kE d [(f,y)])) a (nW a C t (aa d))))->Na K f D σ y x H2
def VV(K:aP)(ta tv:TE)(f:au):TS:=λD w H=>tv w H λy H1=>ta w H1 (Na K f D w y)
inductive Nb(K:aP)(f:au)(D:Ends)(σ:St)(y:V)(x:V)(H2:Hp):Prop|m:∀a C t d fs,x=.ref a->H2 a=aa (nW a C t (aa d))->H2 d=aa (kE d fs)->d≠a->fs.length<1000->(∃fI,jm K C fI)->cP K C f->D.nx σ (upd H2 d (kE d (b_ f y fs)))->Nb K f D σ y x H2
def VW(K:aP)(ta tv:TE)(f:au):TS:=λD w H=>tv w H λy H1=>ta w H1 (Nb K f D w y)
inductive Nc(K:aP)(f:au)(Q:VK)(x:V)(H1:Hp):Prop|m:∀a C dx fs v,x=.ref a->H1 a=aa (ExF a C dx)->H1 dx=aa (kE dx fs)->(∃fI,jm K C fI)->cP K C f->fs.lookup f=aa v->Q v H1->Nc K f Q x H1
def Nd(K:aP)(ta:TE)(f:au):TE:=λw H Q=>ta w H (Nc K f Q)
section
variable {o:bW}
theorem VX(W:PE X o ta)(U:PE X value tv)(V:pd value (aa (.Attribute o f pos')) pos.line X.env=pure az):PS X (.Assign [.Attribute o f pos'] value pos) (VV X.K ta tv f):=by
 intro pins s w H D I h;refine Dd (ba (U _ s w H _ I h) λu B ⟨y,H1,I1,F,q⟩=>ba (W _ B w H1 _ I1 q) λO s2 ⟨x,H2,I2,G,a,C,t,ex,Y,⟨fI,T⟩,n,J⟩=>?_) V;subst ex;obtain rfl:O=dH a:=G;exact VS I2 Y T n F λd s3 hd b=>#[w,_,b,J d hd]
theorem VY(Z:PE X o ta)(V:PE X value tv)(W:pd value (aa (.Attribute o f pos')) pos.line X.env=pure az):PS X (.Assign [.Attribute o f pos'] value pos) (VW X.K ta tv f):=by
 intro pins s w H D I h;refine Dd (ba (V _ s w H _ I h) λu F ⟨y,H1,I1,G,q⟩=>ba (Z _ F w H1 _ I1 q) λU s2 ⟨x,H2,I2,J,a,C,t,d,fs,ex,ea,ed,B,Y,⟨fI,T⟩,n,O⟩=>?_) W;subst ex;obtain rfl:U=dH a:=J;exact VT I2 ea ed B Y T n G λs3 I3=>#[w,_,I3,O]
theorem VZ(G:PE X e ta)(J:o8 e f X.env (bT e X.env)=bT e X.env):PE X (.Attribute e f pos) (Nd X.K ta f):=by
 intro pins s w H Q I h;refine LM J (ba (G _ s w H _ I h) λu s1 ⟨x,H1,W,B,a,C,dx,fs,v,ex,U,O,⟨fI,T⟩,n,l,q⟩=>?_);subst ex;obtain rfl:u=dH a:=B;exact VU W U O T n l λY b V F=>#[v,H1,V,F,q]
end
noncomputable def fcp(c p:Int):List (au×V):=[("code",.int c),("place",.int p)]
inductive E3(C:af)(vs:List V)(H:Hp)(Q:VK)(x_0:XK):Prop|m:∀(a t:af)(c p:Int),vs=[.ref a,.int c,.int p]->H a=aa (nW a C t ae)->(∀(H':Hp)(d:af),(∀b o,H b=aa o->b≠a->H' b=aa o)->H' a=aa (nW a C t (aa d))->H' d=aa (kE d (fcp c p))->d≠a->Q .bB H')->E3 C vs H Q x_0
def FX(E:XK)(C:af)(c p:Int)(H:Hp):Prop:=∀(B:Hp)(w:af),ag H B->B w=aa (kE w (fcp c p))->E (.ref C) (aa w) B
inductive Nf(C:af)(E:XK)(vs:List V)(H1:Hp):Prop|m:∀c p,vs=[.int c,.int p]->FX E C c p H1->Nf C E vs H1
def Ng(C:af)(E:XK)(t:TA):TS:=λx w H=>t w H (Nf C E)
section
variable {bs:List aE}{sub:List aE}
theorem Nh{x}{Q}(O:A.handled=ae)(h:aG M A x (λv w=>∃e od G nm q N bs sn sub ab col dd k0 k1 k2 k3 k5,v=.ref e/\w.heap.get? C=aa (qX nm q C N bs XA.iq ai sn sub ab col dd k0 k1 k2 k3 k5 "Exception.__new__")/\
   w.heap.get? e=aa #[.ref C,od,.fields (tAr [.ref G,.none,.none,.none,.bool az,.none]),#[]]/\E (.ref e) w) E s):
  aG M A (raiseStmt env (aa x) ae) Q E s:=by
 refine aj (eD h (λv w B=>?_) λy y x=>x);rcases B with⟨e,od,G,nm,q,N,bs,sn,sub,ab,col,dd,k0,k1,k2,k3,k5,rfl,J,U,V⟩;have F:(dH C::XA.iq).contains (.type "BaseException")=ai:=by simp
 repeat (first|with_reducible refine k8 U ?_|with_reducible refine k8 J ?_|(with_reducible refine wV J ?_)|wp_step)
 exact wpAny_raiseNew_none O V
end
section
variable {t:TA}{E:XK}
theorem jn(T:jm X.K C fI)(G:aV X.prog X.w X.K X.mg X.base bo k fI fd ["self","code","place"] (E3 C))(b:Binds X.K fd ["self","code","place"] [])(hr:dn (k+1) X.A)(hc:X.calm=ai)(W:XW X C E)(hg:Gl X "Fault")(hm:X.mg "Fault"=aa (.ref C))(ha:PA X [e1,e2] t)(he:cq [e1,e2] X.env=(az,bT e1 X.env)::cq [e2] X.env:=by rfl)(bC:(fA cpos (cq [e2] X.env)).any (·.1)=az:=by rfl):
  PS X (.Raise (aa (.Call (.Name "Fault" p) [e1,e2] [] cpos)) ae pos) (Ng C E t):=by
 intro pins s i H D I h;rcases T.look with⟨nm,q,N,bs,sn,sub,ab,col,dd,k0,k1,k2,k3,k5,lkC⟩;refine aj (tP (Nh (C:=C) (I.ok.hd hc) ?_));refine aj (eD ?_ (λv s₃ h₃=>aj (tP (aL h₃))) λy y x=>x)
 refine q_ (pF I hg hm ?_ (by decide))
 refine zP  I.ok.mod.kin T.kp (ba (ha _ _ s i H _ I h) λus B ⟨vs,H1,I1,r,c,p',ev,fx⟩=>#[I1.dN,?_]) he bC;subst ev;have hCs:=I1.dN _ _ lkC;rcases Vals.two r with⟨O,J,rfl,r1,r2⟩;have I2:Inv X _ i H1 {B with heap:=B.heap.push {cls:=.type "tuple",data:=.seq [O,J].toArray}}:=I1.kept  λb u q=>bq _ q
 have szp:(B.heap.push {cls:=.type "tuple",data:=.seq [O,J].toArray}).objs.size=B.heap.objs.size+1:=dS ..;have e0:=by
  have:=cJ (B.heap.push {cls:=.type "tuple",data:=.seq [O,J].toArray}) (o:=XA.nS C B.heap.objs.size) Z
  rwa [szp] at this
 have I3:=
  I2.laid (t':=B.toks) (λb u q=>bq _ q) (oY szp) (M9 e0)
 have n1:=I2.ax.fresh (oY szp);obtain⟨F,g⟩:=B;refine rf (XA.VM I1.dN hCs T.init (fJ.mp T.fn) (o9 (G.run _ _ _ _ _ _ (V.ref _::[V.int c,V.int p']) (λv H2=>∃d,v=.bB/\ag H1 (λb=>if b=F.objs.size+1 then ae else H2 b)/\H2 (F.objs.size+1)=aa (nW (F.objs.size+1) C F.objs.size (aa d))/\H2 d=aa (kE d (fcp c p'))/\d≠F.objs.size+1) E0 (hr.make C _ [])
  (I3.EC.make C _ []) (b _ _ I3.dN Z) (.cons Z (.cons r1 (.cons r2 .nil))) ?_) λr s' Y=>?_) (by show 2<=bp;decide))
 .refine#[_,_,c,p',Z,aA,λH' d h1 h2 h3 h4=>#[d,Z,λb o e=>?_,h2,h3,h4]];have hb:=bc e n1;dsimp;rw[aw hb];exact h1 b o (by rwa[aB hb]) hb
 .cases r with
  |error e=>exact Y.elim
  |ok fl=>
   cases fl with
   |ret u=>
    rcases I3.after Y with⟨v,H2,I4,rv,d,ev,hS,ha2,hd2,hne⟩;subst ev;have a:=(I4.ax _ _ ha2).1;exists rv,_,_,_,nm,q,N,bs,sn,_,ab,_,dd,k0,k1,k2,k3,k5,Z,I4.dN _ _ lkC,a;have I5:=I4.VQ ha2;exact W _ i _ s' _ _ F.objs.size I5 I1.old #[#[_,_,ae,a,Z,λt z=>by cases z],qO _,aC Z] (fx _ d hS ((aw hne).trans hd2))
   |next=>exact False.elim Y
   |brk=>exact False.elim Y
   |cont=>exact False.elim Y
end
section
variable {w:aS}{base:aU}
theorem nR.gL{M}{qual}{f}{N}(F:nR K M x qual N i st f fd)(len:∀vs H Q E,sp vs H Q E->vs.length=(N.take i).length)(G:N.Nodup->∀B A outer s H vs Q E,dn k (A.deeper (jH qual (gK st) s.heap.objs.size f B))->XW (pJ (e9 P w C) P w K mg base N qual (gK st) f B A outer s H E) C E->sp vs H Q E->
   ∃t,fE (pJ (e9 P w C) P w K mg base N qual (gK st) f B A outer s H E) (pO st) t/\t {nx:=λy Y=>Q .bB Y,rt:=Q} (start N vs) H):aV P w K mg base (e9 P w C) (k+1) f fd (N.take i) sp:=by
 rcases F.g.ex with⟨oc,od,kV,doc,a,an,B,ct,U,rfl,lk,O⟩;exact LY lk O F.s len λA outer s H vs Q E W J=>G F.s.nd B A _ s H vs Q E W VO J
end
section
variable {w:aS}
theorem V0{e}{t}{n}{Q}(h:aG (aH prog w) (A.mark (aa (.ref e))) (bT t env) (λc B=>c=.ref C/\(∃nm q N bs sn sub ab col dd k0 k1 k2 k3 k5,B.heap.get? C=aa (qX nm q C N bs XA.iq ai sn sub ab col dd k0 k1 k2 k3 k5 "Exception.__new__"))/\
   (∃oe,B.heap.get? e=aa oe/\oe.cls=.ref C)/\
   aG (aH prog w) (A.mark (aa (.ref e))) (zv (.ref e) ae) (λx J=>
     aG (aH prog w) (A.mark (aa (.ref e))) (Dj env n (.ref e)) (λx G=>
      aG (aH prog w) (A.mark (aa (.ref e))) (execs (b₀::suite) env)
       (λf F=>aG (aH prog w) A (do bindName env n .none;unbindBehindTheSuite env n pos) (λx O=>Q f O) E F) (λx x=>False) G) (λx x=>False) J) (λx x=>False) B) (λx x=>False) s):
  aG (aH prog w) A (handleBy (.ref e) env (.ExceptHandler (aa t) (aa n) (b₀::suite) pos::rest)) Q E s:=by
 refine Du (CW (eD h (λc B Y=>?_) λx x y=>y.elim)) (by intro q;cases q)
 rcases Y with⟨rfl,⟨nm,q,N,bs,sn,sub,ab,col,dd,k0,k1,k2,k3,k5,hC⟩,⟨oe,he,a⟩,hk⟩;refine Jj hC he a (by simp) (codeAny_handlers_suite_as (eD hk (λx J W=>?_) λx x y=>y.elim));exact eD W (λx G V=>eD V (λf F U=>U) λx x y=>y.elim) λx x y=>y.elim
end
section
variable {σ:St}
theorem Inv.E4(I:Inv X pins σ H s):Inv {X with xe:=E,pn:=X.pn ++pins} [] σ H s:=
 #[#[I.ok.mod,I.ok.kind,I.ok.glob,I.ok.blt,I.ok.above,I.ok.inj,I.ok.has,I.ok.nL,I.ok.hd,I.ok.frames,I.ok.pE,I.ok.mD,I.ok.bs,I.ok.jj,I.ok.nM,I.ok.mE,I.ok.gd,I.ok.jP],I.os,I.bare,I.base,I.loc,I.cell,I.free,I.fK,λp B=>I.pin p (by simpa using B),I.ax,I.len]
theorem Inv.nX{B}(I:Inv {X with xe:=E,pn:=X.pn ++pins} B σ H s):Inv X pins σ H s:=
 #[#[I.ok.mod,I.ok.kind,I.ok.glob,I.ok.blt,I.ok.above,I.ok.inj,I.ok.has,I.ok.nL,I.ok.hd,I.ok.frames,I.ok.pE,I.ok.mD,I.ok.bs,I.ok.jj,I.ok.nM,I.ok.mE,I.ok.gd,I.ok.jP],I.os,I.bare,I.base,I.loc,I.cell,I.free,I.fK,λp F=>I.pin p (kg _ F),I.ax,I.len]
noncomputable abbrev Cx.jV(X:Cx)(e:aE):Cx:={X with A:=X.A.mark (aa e),calm:=az,xe:=λx x=>False}
theorem Inv.jV(I:Inv X pins σ H s) e:Inv (X.jV e) pins σ H s:=
 #[#[I.ok.mod,I.ok.kind,I.ok.glob,I.ok.blt,I.ok.above,I.ok.inj,I.ok.has,I.ok.nL,λz=>(cZ z).elim,I.ok.frames,I.ok.pE,I.ok.mD,I.ok.bs,I.ok.jj,I.ok.nM,I.ok.mE,I.ok.gd,I.ok.jP],I.os,I.bare,I.base,I.loc,I.cell,I.free,I.fK,I.pin,I.ax,I.len]
theorem Inv.uncaught{e}(I:Inv (X.jV e) pins σ H s)(hd:X.calm=ai->X.A.handled=ae):Inv X pins σ H s:=
 #[#[I.ok.mod,I.ok.kind,I.ok.glob,I.ok.blt,I.ok.above,I.ok.inj,I.ok.has,I.ok.nL,hd,I.ok.frames,I.ok.pE,I.ok.mD,I.ok.bs,I.ok.jj,I.ok.nM,I.ok.mE,I.ok.gd,I.ok.jP],I.os,I.bare,I.base,I.loc,I.cell,I.free,I.fK,I.pin,I.ax,I.len]
theorem Inv.forget{J}{t'}(I:Inv X pins σ H s)(V:h'.Ns X.env.locals J)(B:jJ X.env.locals s.heap h'):Inv X pins (cR X.N.length ae) H {s with heap:=h',toks:=t'}:=by
 have old:∀b o,X.fj.heap.get? b=aa o->b≠X.env.locals:=λb o e=>c6 (eW (bA e) I.ok.above);refine#[I.ok,I.os,I.bare,#[λb o q n G hx=>(B.2 b (old b o q)).trans (I.base.keep b o q n G hx),λb o q n G hx=>?_,I.base.free,λb o q hx=>?_,I.base.jM,I.base.iN,I.base.jN],#[J,V,λi x v e1 e2 y=>?_],λx c e=>?_,I.free,I.fK,λp U=>?_,λb o e=>?_,by simp]
 .obtain⟨sl,F⟩:=I.base.slot b o q n G hx;exact#[sl,(B.2 b (old b o q)).trans F]
 .obtain⟨O,F⟩:=I.base.there b o q hx;exact#[O,(B.2 b (old b o q)).trans F]
 .rw[Hz] at e2
  split at e2<;>cases e2
 .obtain⟨v,z⟩:=I.cell x c e;exact#[v,z.sameBut B (I.rH x c e)]
 .obtain⟨e,n,ne,r⟩:=I.pin p U;exact#[(B.2 _ ne).trans e,n,ne,r]
 .refine(I.ax b o e).ij (λc u W q=>(B.2 c λz=>?_).trans q) (λy q=>q) λy y q=>q;subst z;obtain z|z:=W
  .rw[<-z,I.free] at e;cases e
  .rw[I.free] at z;cases z
end
inductive Ni(N:List au)(i:Nat)(C:af)(tb:XK->TS)(ts:TS)(D:Ends)(σ:St)(H:Hp):Prop|m:∀EX:XK,(∀od H',EX (.ref C) od H'->∃dx,od=aa dx)->(∀dx H',EX (.ref C) (aa dx) H'->∀(σ':St)(a:af),σ'.length=N.length->H' a=ae->ts {nx:=λ_ _=>False,rt:=D.rt} (σ'.set i (aa (.ref a))) (upd H' a (ExF a C dx)))->tb EX D σ H->Ni N i C tb ts D σ H
section
variable {n:au}
theorem V1(T:jm X.K C fI)(hc:X.calm=ai)(Z:X.stack=X.env::X.outer)(hfr:X.env.frame=aa X.env.locals)(hN:X.N.Nodup)(hi:X.N[i]? =aa n)(W:X.env.scope.names.lookup n=aa .local)(hg:Gl X "Fault")(hm:X.mg "Fault"=aa (.ref C))(hb:∀ E   pn   EX ,XW {X with xe:=E,pn:=pn} C EX->fE {X with xe:=E,pn:=pn} body (tb EX))(hs:∀e,fE (X.jV e) (b₀::suite) ts):PS X (.Try body [.ExceptHandler (aa (.Name "Fault" p)) (aa n) (b₀::suite) hpos] [] [] pos) (Ni X.N i C tb ts):=by
 intro pins s w H D I h;rcases h with⟨EX,h0,h1,h2⟩;rcases T.look with⟨nm,q,N,bs,sn,sub,ab,col,dd,k0,k1,k2,k3,k5,lkC⟩;apply Dq;refine eD (hb _ (X.pn ++pins) EX ?_ [] s w H D (I.E4) h2) (λf s₁ G=>?_) λe s₁ G=>G
 .intro pins' B Y s1 a od m I1 O F hE;have J:=I1.nX;rcases h0 _ _ hE with⟨dx,rfl⟩;rcases F with⟨⟨vs,sl,Tb,he,ht,hTf⟩,hy,U⟩;have hstk:=J.stack;rw[Z] at hstk;have hfrm:=J.ok.frames;rw[Z] at hfrm;have hloc1:=bF hy (tD (bA he));refine XA.E1 hfrm hstk hfr he ht hloc1 λh' T' vs' Nt hT' e1 t1=>?_;have hTy:∀t,Tb=aa t->m<=t:=λt z=>by subst z;exact ht.2.1
  have young:∀b,(b=a\/aa b=Tb)->m<=b/\Y b=ae:=λb hb=>by
   obtain rfl|hb:=hb
   .exact#[hy,U]
   .exact#[hTy b hb.symm,hTf b hb.symm]
  have J1:Inv X pins B Y {s1 with heap:=h'}:=by
   refine J.tY (ch:=a::Tb.toList) rfl #[λb o q n hbf V=>?_,λb o q n hbf V=>?_,λy y y n y=>n,λb o q V=>?_,λy y q=>q,λy y y q=>q,λy ps q=>#[_,by rwa[yG]]] (J.ax.AM Nt U hTf (by have:=J.vp;rwa[Z] at this)) J.bare (λb hb=>?_)
   .rw[Z] at hbf;exact Nt.keep b o q (λz=>V (by rw[z];exact bH)) (λz=>V (by rw[<-z];simp)) hbf
   .exact Nt.slot b o q (λz=>V (by rw[z];exact bH)) (λz=>V (by rw[<-z];simp))
   .obtain⟨sl,q1⟩:=Nt.slot b o q (λz=>V (by rw[z];exact bH)) (λz=>V (by rw[<-z];simp))
    exact#[_,q1]
   .have yb:=(young b (by
     obtain z|z:=bM.mp hb
     .exact .inl z
     .exact .inr (by cases Tb with|none=>simp at z|some t=>simp at z;rw[z]))).1
    refine#[.inr (bF O.entry yb),λz=>absurd O.loc (by rw[<-z];exact f9.mpr yb),λx c e z=>absurd (O.cells x c e) (by rw[z];exact f9.mpr yb),λp hp z=>absurd (O.pins p (kg _ hp)) (by rw[z];exact f9.mpr yb)]
  refine V0 (pF (J1.jV _) hg hm #[rfl,#[nm,q,N,bs,sn,_,ab,_,dd,k0,k1,k2,k3,k5,J1.dN _ _ lkC],#[_,e1,rfl],?_] (by decide))
  rcases t1 with⟨t1a,t1b,t1c,oT,ts',eT,dT,d3⟩;apply Jv e1 rfl t1a eT dT (nj.mp d3).1;rw[Kg h' T' oT _ 3 _ eT dT d3];have J2:=J1.VR U (bF O.entry hy) (λz=>absurd O.loc (by rw[<-z];exact f9.mpr hy)) (λx c e z=>absurd (O.cells x c e) (by rw[z];exact f9.mpr hy)) (λp hp z=>absurd (O.pins p (kg _ hp)) (by rw[z];exact f9.mpr hy)) (VP e1)
  have J3:=J2.jV (.ref a);refine En (X:=X.jV _) (v:=.ref a) J3 hN hi (.inl W) rfl (λs3 J4=>eD (hs _ _ s3 _ _ _ J4 (h1 dx Y hE B a J1.len U)) (λf s4 h4=>?_) λy y z=>z) (.inr W);cases f with
  |next=>rcases h4 with⟨_,_,_,z⟩;exact z.elim
  |brk=>rcases h4 with⟨_,_,_,z⟩;exact z.elim
  |cont=>rcases h4 with⟨_,_,_,z⟩;exact z.elim
  |ret u=>
   rcases h4 with⟨v,σ4,H4,J5,rv,hD⟩;have J6:=J5.uncaught I.ok.hd;rcases J6.loc with⟨mm,hmm,_⟩;exact wpAny_nameGoes W hmm (by rw[J6.ok.kind];rfl) λh6 m6 hn6 hs6=>#[v,_,H4,J6.forget hn6 hs6,rv,hD]
 .cases f with
  |next=>
   rcases G with⟨B,Y,J,hD⟩;exact u9 #[B,Y,J.nX,hD]
  |brk=>rcases G with⟨B,Y,J,hD⟩;exact#[B,Y,J.nX,hD]
  |cont=>rcases G with⟨B,Y,J,hD⟩;exact#[B,Y,J.nX,hD]
  |ret u=>rcases G with⟨v,B,Y,J,rv,hD⟩;exact#[v,B,Y,J.nX,rv,hD]
end
end L2
namespace XA
open PySem.W PySem.Calls
section
variable {w:aS}{d:Drawn}{t:Nat}{K:Frag}
variable {bs:List aE}{sub:List aE}
theorem V2(X:K.In h)(G:h.get? C=aa (qX nm q C N bs iq hdct sn sub ab col dd k0 k1 k2 k3 k5 "Exception.__new__"))(Y:fU K (.ref C) "__init__"=aa (aa (.builtin "Exception.__init__")))(W:∀h' e V,(∀b o,h.get? b=aa o->h'.get? b=aa o)->h.objs.size<=e->h'.get? e=aa (nS C V)->Q (.ref e) #[h',g,d,t,os]):aG (aH prog w) A (call (.ref C) []) Q E #[h,g,d,t,os]:=by
 have FB:=JY;have T:OwnTail h iq iq:=.base;have f1:=tc_lookup;have f2:=tc_bind (.ref C);have hT:(#[h,g,d,t,os]:aT).TypeIs (.ref C) "type":=#[_,G,Z];refine rf (zq ?_);show aG _ _ (CU (.ref C) _) _ _ _
 repeat (any_goals (first|assumption|with_reducible refine k8 G ?_|wp_step))
 refine#[Z,IL (wY _ (by decide +kernel)) IU (Jh G ?_)]
 repeat (first|with_reducible refine k8 G ?_|with_reducible refine Jo G ?_|wp_step)
 refine IM (wY _ FB.quiet) (Jg FB T G (IQ FB T G ?_ (by simp)))
 show aG _ _ _ _ _ _;have F:=bq (nS C h.objs.size) (bq {cls:=.type "tuple",data:=.seq ([]).toArray} G);have B:((h.push {cls:=.type "tuple",data:=.seq ([]).toArray}).push (nS C h.objs.size)).get? (h.objs.size+1)=aa (nS C h.objs.size):=by heap_get
 have O:(dH C::iq).contains (.ref C)=ai:=by simp
 have k:∀b o,h.get? b=aa o->((h.push {cls:=.type "tuple",data:=.seq ([]).toArray}).push (nS C h.objs.size)).get? b=aa o:=λb o e=>bq _ (bq _ e);have a:=(w8 (M:=aH prog w) X Y).keeps k;have J:=T.keeps k;delta uY IH specialOf
 repeat (first|with_reducible refine k8 B ?_|wp_step)
 refine wV F ?_;rw[O]
 repeat (first|with_reducible refine k8 B ?_|wp_step)
 refine a.here (gE (aj (wW (FB.init.bind _) ?_)));refine aj (rf (zo FB.init.plain FB.initEntry (wpAny_check_init_subT FB J F B Z ?_)))
 wp_walk
 refine W _ _ (h.objs.size+2) (λb o U=>?_) (qO _) ?_
 .rw[jK _ _ (fh (ki (bA U)))];exact bq _ (k _ _ U)
 .rw[ko _ (bq _ B) Z];simp only[dS];rfl
end
section
variable {bs:List aE}{sub:List aE}
theorem V3{d}{t}{e}{U}{Q}(Y:h.get? C=aa (qX nm q C N bs iq hdct sn sub ab col dd k0 k1 k2 k3 k5 newId))(F:h.get? C'=aa (qX nm' q' C' N' bs' iq hdct' sn' sub' ab' col' dd' j0 j1 j2 j3 j5 newId'))(G:C≠C')(W:h.get? e=aa U)(B:U.cls=.ref C)(V:Q az #[h,g,d,t,os]):aG M A (excMatches (.ref e) (.ref C')) Q E #[h,g,d,t,os]:=by
 have O:(dH C'::iq).contains (.type "BaseException")=ai:=by simp
 have J:(dH C::iq).contains (.ref C')=az:=by simp[bG G]
 have f:=tc_notTuple;delta excMatches
 repeat (first|(with_reducible apply k8 W;rw[B])|with_reducible apply k8 F|(with_reducible apply wV F;rw[O])|(with_reducible apply wV Y;rw[J])|wp_step)
 exact V
end
end XA
namespace L2
structure t_(K:aP)(C:af):Prop where
 look:∃nm q N bs sn sub ab col dd k0 k1 k2 k3 k5,K.lookup C=aa (qX nm q C N bs XA.iq ai sn sub ab col dd k0 k1 k2 k3 k5 "Exception.__new__")
 init:fU K (.ref C) "__init__"=aa (aa (.builtin "Exception.__init__"))
 kp:nE K (.ref C)=ai
def V4(C:af)(E:XK):TS:=λx x H=>E (.ref C) ae H
section
variable {E:XK}
theorem Nj(T:t_ X.K C)(hc:X.calm=ai)(W:XW X C E)(hg:Gl X x)(hm:X.mg x=aa (.ref C))(hdb:(x==("__debug__":au))=az:=by decide):PS X (.Raise (aa (.Call (.Name x p) [] [] cpos)) ae pos) (V4 C E):=by
 intro pins s b H D I h;rcases T.look with⟨nm,q,N,bs,sn,sub,ab,col,dd,k0,k1,k2,k3,k5,a⟩;refine aj (tP (Nh (C:=C) (I.ok.hd hc) (aj (eD ?_ (λv s₃ G=>aj (tP (aL G))) λy y x=>x))))
 refine q_ (pF I hg hm ?_ hdb);apply DT I.dN T.kp;have U:=I.dN _ _ a;have O:=I.old;have F:∀e,s.heap.objs.size<=e->H e=ae:=λe V=>I.ax.fresh V;rcases s with⟨hh,g,d,tk⟩;refine XA.V2 I.dN U T.init λh' e Y hk J V=>?_;have I2:=I.kept (t':=tk) hk;exact#[e,_,Y,nm,q,N,bs,sn,_,ab,_,dd,k0,k1,k2,k3,k5,Z,hk _ _ U,V,W _ b H _ e _ hh.objs.size I2 O #[#[_,_,ae,V,Z,λt z=>by cases z],J,F e J] h]
end
inductive Nk(N:List au)(C:af)(tb:XK->TS)(ts:TS)(D:Ends)(σ:St)(H:Hp):Prop|m:∀EX:XK,(∀od H',EX (.ref C) od H'->∀σ':St,σ'.length=N.length->ts {nx:=λ_ _=>False,rt:=D.rt} σ' H')->tb EX D σ H->Nk N C tb ts D σ H
inductive Nl(N:List au)(C:af)(C':af)(tb:XK->XK->TS)(ts:TS)(ts':TS)(D:Ends)(σ:St)(H:Hp):Prop|m:∀EX EX':XK,(∀od H',EX (.ref C) od H'->∀σ':St,σ'.length=N.length->ts {nx:=λ_ _=>False,rt:=D.rt} σ' H')->(∀od H',EX' (.ref C') od H'->∀σ':St,σ'.length=N.length->ts' {nx:=λ_ _=>False,rt:=D.rt} σ' H')->tb EX EX' D σ H->Nl N C C' tb ts ts' D σ H
theorem E5{W:St}{G:bN}{T':af}(T:t_ X.K C)(hg:Gl X x)(hm:X.mg x=aa (.ref C))(O:(x==("__debug__":au))=az)(hs:∀e,fE (X.jV e) (b₀::suite) ts)(I:Inv X pins W H s)(Y:s.heap.get? a=aa G)(hc:G.cls=.ref C)(hd:G.data=.fields vs)(ht:XA.nU m s.heap a vs (aa T'))(U:ts {nx:=λy y=>False,rt:=D.rt} W H):aG (aH X.prog X.w) X.A (handleBy (.ref a) X.env (.ExceptHandler (aa (.Name x p)) ae (b₀::suite) hpos::rest)) (SP X pins D) X.xe s:=by
 rcases T.look with⟨nm,q,N,bs,sn,sub,ab,col,dd,k0,k1,k2,k3,k5,J⟩;refine Du (CW (pF (I.jV _) hg hm ?_ O)) (by intro q;cases q)
 have V:=I.dN _ _ J;obtain⟨hh,g⟩:=s;refine Jj V Y hc (by simp) (codeAny_handlers_suite ?_)
 rcases ht with⟨F,t1b,t1c,oT,ts',b,dT,d3⟩;apply Jv Y hd F b dT (nj.mp d3).1;rw[Kg hh T' oT _ 3 _ b dT d3];refine eD (hs _ _ _ _ _ _ (I.jV _) U) (λf s4 B=>?_) λy y z=>z.elim;cases f with
 |next=>obtain⟨_,_,_,z⟩:=B;exact z.elim
 |brk=>obtain⟨_,_,_,z⟩:=B;exact z.elim
 |cont=>obtain⟨_,_,_,z⟩:=B;exact z.elim
 |ret u=>
  rcases B with⟨v,σ4,H4,J5,rv,U⟩;exact#[v,_,H4,J5.uncaught I.ok.hd,rv,U]
theorem E6{G:List (af×bN)}{σ:St}{V:aT}{E0:aE->aT->Prop}{Q:Unit->aT->Prop}(U:X.stack=X.env::X.outer)(hfr:X.env.frame=aa X.env.locals)(I1:Inv {X with xe:=E0,pn:=X.pn ++pins} G σ H V)(O:Old {X with xe:=E0,pn:=X.pn ++pins} G m)(F:Fly m C od a H V.heap)(k:∀h' T' vs sl,Inv X pins σ H {V with heap:=h'}->h'.get? a=aa #[.ref C,od,.fields vs,sl]->XA.nU m h' a vs (aa T')->Q () {V with heap:=h'}):
  aG (aH X.prog X.w) X.A (qZ (.ref a) X.env) (λy s2=>aG (aH X.prog X.w) X.A (zv (.ref a) ae) Q E s2) E V:=by
 have J:=I1.nX;rcases F with⟨⟨vs,sl,Tb,he,ht,hTf⟩,hy,d⟩;have W:=J.stack;rw[U] at W;have Y:=J.ok.frames;rw[U] at Y;have hm1:=bF hy (tD (bA he));refine XA.E1 Y W hfr he ht hm1 λh' T' vs' Nt hT' e1 t1=>?_;have young:∀b,(b=a\/aa b=Tb)->m<=b:=λb hb=>by
  obtain rfl|hb:=hb
  .exact hy
  .subst hb;exact ht.2.1
 have J1:Inv X pins σ H {V with heap:=h'}:=by
  refine J.tY (ch:=a::Tb.toList) Z #[λb o q n hbf B=>?_,λb o q n hbf B=>?_,λy y y n y=>n,λb o q B=>?_,λy y q=>q,λy y y q=>q,λy ps q=>#[_,by rwa[yG]]] (J.ax.AM Nt d hTf (by have:=J.vp;rwa[U] at this)) J.bare (λb hb=>?_)
  .rw[U] at hbf;exact Nt.keep b o q (λz=>B (by rw[z];exact bH)) (λz=>B (by rw[<-z];simp)) hbf
  .exact Nt.slot b o q (λz=>B (by rw[z];exact bH)) (λz=>B (by rw[<-z];simp))
  .obtain⟨sl,q1⟩:=Nt.slot b o q (λz=>B (by rw[z];exact bH)) (λz=>B (by rw[<-z];simp))
   exact#[_,q1]
  .have yb:=young b (by
    obtain z|z:=bM.mp hb
    .exact .inl z
    .exact .inr (by cases Tb with|none=>simp at z|some t=>simp at z;rw[z]))
   exact#[.inr (bF O.entry yb),λz=>absurd O.loc (by rw[<-z];exact f9.mpr yb),λx c e z=>absurd (O.cells x c e) (by rw[z];exact f9.mpr yb),λp hp z=>absurd (O.pins p (kg _ hp)) (by rw[z];exact f9.mpr yb)]
 exact k h' T' _ sl J1 e1 t1
theorem Nm{pins:List (af×bN)}{E0:aE->aT->Prop}{D:Ends}{f:Flow}{s:aT}(h:SP {X with xe:=E0,pn:=X.pn ++pins} [] D f s):match f with
  |.next=>aG (aH X.prog X.w) X.A (execs [] X.env) (SP X pins D) X.xe s
  |f=>SP X pins D f s:=by
 cases f with
 |next=>
  obtain⟨B,G,J,F⟩:=h;exact u9 #[B,G,J.nX,F]
 |brk=>obtain⟨B,G,J,F⟩:=h;exact#[B,G,J.nX,F]
 |cont=>obtain⟨B,G,J,F⟩:=h;exact#[B,G,J.nX,F]
 |ret u=>obtain⟨v,B,G,J,O,F⟩:=h;exact#[v,B,G,J.nX,O,F]
theorem V5(T:t_ X.K C)(W:X.stack=X.env::X.outer)(Y:X.env.frame=aa X.env.locals)(hg:Gl X x)(hm:X.mg x=aa (.ref C))(hb:∀(E:aE->aT->Prop)(pn:List (af×bN))(EX:XK),XW {X with xe:=E,pn:=pn} C EX->fE {X with xe:=E,pn:=pn} body (tb EX))(hs:∀e,fE (X.jV e) (b₀::suite) ts)(Z:(x==("__debug__":au))=az:=by decide):
  PS X (.Try body [.ExceptHandler (aa (.Name x p)) ae (b₀::suite) hpos] [] [] pos) (Nk X.N C tb ts):=by
 intro pins s y H D I h;obtain⟨EX,h1,h2⟩:=h;refine Dq (eD (hb _ (X.pn ++pins) EX ?_ [] s y H D (I.E4) h2) (λf G B=>by have z:=Nm B;cases f<;>exact z) λe G B=>B)
 intro V U H' s1 a od m I1 O F hE;exact E6 W Y I1 O F λh' T' vs sl J e1 t1=>E5 T hg hm Z hs J e1 rfl rfl t1 (h1 od H' hE U J.len)
theorem V6{tb:XK->XK->TS}(T:t_ X.K C)(T':t_ X.K C')(hne:C≠C')(Z:X.stack=X.env::X.outer)(hfr:X.env.frame=aa X.env.locals)(hg:Gl X x)(hm:X.mg x=aa (.ref C))(hg':Gl X x')(hm':X.mg x'=aa (.ref C'))(hb:∀(E:aE->aT->Prop)(pn:List (af×bN))(EX G:XK),XW {X with xe:=E,pn:=pn} C EX->XW {X with xe:=E,pn:=pn} C' G->fE {X with xe:=E,pn:=pn} body (tb EX G))(hs:∀e,fE (X.jV e) (b₀::suite) ts)(hs':∀e,fE (X.jV e) (b₀'::suite') ts')(hdb:(x==("__debug__":au))=az:=by decide)(hdb':(x'==("__debug__":au))=az:=by decide):
  PS X (.Try body [.ExceptHandler (aa (.Name x p)) ae (b₀::suite) hpos,.ExceptHandler (aa (.Name x' p')) ae (b₀'::suite') hpos'] [] [] pos) (Nl X.N C C' tb ts ts'):=by
 intro pins s y H D I h;obtain⟨EX,G,h1,h1',h2⟩:=h;refine Dq (eD (hb _ (X.pn ++pins) EX G ?_ ?_ [] s y H D (I.E4) h2) (λf W B=>by have z:=Nm B;cases f<;>exact z) λe W B=>B)
 .intro V U H' s1 a od m I1 O F hE;exact E6 Z hfr I1 O F λh' T' vs sl J e1 t1=>E5 T hg hm hdb hs J e1 rfl rfl t1 (h1 od H' hE U J.len)
 .intro V U H' s1 a od m I1 O F hE;refine E6 Z hfr I1 O F λh' Tb vs sl J e1 t1=>?_;rcases T.look with⟨nm,q,N,bs,sn,sub,ab,col,dd,k0,k1,k2,k3,k5,lkC⟩;rcases T'.look with⟨nm',q',N',bs',sn',sub',ab',col',dd',j0,j1,j2,j3,j5,Y⟩;refine Du (CW (pF (J.jV _) hg hm ?_ hdb)) (by intro q;cases q)
  have c1:=J.dN _ _ lkC;have c2:=J.dN _ _ Y;exact XA.V3 c2 c1 (bG hne) e1 rfl (E5 T' hg' hm' hdb' hs' J e1 rfl rfl t1 (h1' od H' hE U J.len))
noncomputable abbrev Cx.jo(X:Cx)(s:aT)(H:Hp)(scope:fS)(cenv:eN)(fp:List af)(E:aE->aT->Prop):Cx:={X.c9 s H scope cenv fp with xe:=E}
abbrev ua(X:Cx)(ce:eN)(use:Option (aE->Sem Unit))(Qf:aE->aT->Prop)(D C:af):aE->aT->Prop:=tM (aH X.prog X.w) X.A ce λe s'=>wJ (aH X.prog X.w) X.A X.xe use Qf (.ref D) C (.error e) s'
theorem Inv.toX{w:St}(I:Inv X pins w H s):Inv {X with xe:=E} pins w H s:=
 #[#[I.ok.mod,I.ok.kind,I.ok.glob,I.ok.blt,I.ok.above,I.ok.inj,I.ok.has,I.ok.nL,I.ok.hd,I.ok.frames,I.ok.pE,I.ok.mD,I.ok.bs,I.ok.jj,I.ok.nM,I.ok.mE,I.ok.gd,I.ok.jP],I.os,I.bare,I.base,I.loc,I.cell,I.free,I.fK,I.pin,I.ax,I.len]
theorem V7{σ:St}{H3:Hp}{B:aT}{ce:eN}{fp:List af}{use:Option (aE->Sem Unit)}{Qf:aE->aT->Prop}{D:af}(W:XW X C0 EX)(hst:X.stack=X.env::X.outer)(hfr0:X.env.frame=aa X.env.locals)(I3:Inv X pins σ H3 B)(f3:∀b∈fp,il X pins H3 b/\b<B.heap.objs.size)(cL:ce.locals=B.heap.objs.size)(cF:ce.frame=X.env.frame):
  XW (X.jo B H3 scope ce fp (ua X ce use Qf D B.heap.objs.size)) C0 EX:=by
 intro pins' σ' c s' a od m I' O F hE;have J:=I3.tY (ch:=fp) I'.os I'.base I'.ax I'.bare λb U=>#[(f3 b U).1.2.2.2.1,(f3 b U).1.2.1,(f3 b U).1.2.2.2.2.1,(f3 b U).1.2.2.2.2.2];obtain⟨⟨vs,sl,T,he,ht,hTf⟩,hy,V⟩:=F;have hstk:=J.stack;rw[hst] at hstk;have hfrm:=J.ok.frames;rw[hst] at hfrm;have hm3:B.heap.objs.size<=m:=O.entry;have hm1:=bF hy (tD (bA he));have hCm:=O.loc;rw[cL] at hCm;have en:qZ (.ref a) ce=qZ (.ref a) X.env:=by delta qZ PySem.frameOf;rw[cF]
 show aG _ _ _ _ _ s';rw[en];refine XA.M7 hfrm hstk hfr0 he ht hm1 λh' T' vs' Nt hT' e1 t1=>?_;have young:∀b,(b=a\/aa b=T)->m<=b:=λb U=>by
  obtain rfl|U:=U
  .exact hy
  .subst U;exact ht.2.1
 have fpo:∀b,m<=b->c b=ae->il X _ c b:=λb U hn=>I3.lu (bF hm3 U) hn;have J1:Inv X pins σ c {s' with heap:=h'}:=by
  refine J.tY (ch:=a::T.toList) Z #[λb o q n hbf G=>?_,λb o q n hbf G=>?_,λx x x n x=>n,λb o q G=>?_,λx x q=>q,λx x x q=>q,λx ps q=>#[_,by rwa[yG]]] (J.ax.AM Nt V hTf (by have:=J.vp;rwa[hst] at this)) J.bare (λb U=>?_)
  .rw[hst] at hbf;exact Nt.keep b o q (λz=>G (by rw[z];exact bH)) (λz=>G (by rw[<-z];simp)) hbf
  .exact Nt.slot b o q (λz=>G (by rw[z];exact bH)) (λz=>G (by rw[<-z];simp))
  .obtain⟨sl,q1⟩:=Nt.slot b o q (λz=>G (by rw[z];exact bH)) (λz=>G (by rw[<-z];simp))
   exact#[_,q1]
  .have hz:b=a\/aa b=T:=by
    obtain z|z:=bM.mp U
    .exact .inl z
    .exact .inr (by cases T with|none=>simp at z|some t=>simp at z;rw[z])
   have hn:c b=ae:=by
    obtain z|z:=hz
    .rwa[z]
    .exact hTf b z.symm
   have f:=fpo b (young b hz) hn;exact#[f.2.2.2.1,f.2.1,f.2.2.2.2.1,f.2.2.2.2.2]
 have nC:=by
  have z:=I'.free;rwa[cL] at z
 have fC:=I3.lu (bb _) nC;obtain⟨mm,hn,_⟩:=I'.loc;rw[cL] at hn;obtain⟨o,es,ep,ho,r⟩:=hn;have hCa:=c6 (eW hCm hy);have hC':=Nt.keep _ o ho hCa (λz=>absurd hCm (f9.mpr (young _ (.inr z)))) (λz=>by
  have z:B.heap.objs.size∈jO X.stack:=by rwa[hst]
  obtain⟨_,o2,ho2,_⟩:=I'.ok.gd.mem z;exact absurd (bA ho2) (i_ _))
 have err:∃m,h'.Ns B.heap.objs.size m/\∀Y,jJ B.heap.objs.size h' Y->∀cenv,cenv.locals=B.heap.objs.size->aG (aH X.prog X.w) X.A (SK "comprehension.variables-let-go" (.ref a) cenv:Sem aE) (λx x=>False) X.xe {s' with heap:=Y}:=by
  refine#[mm,#[o,es,ep,hC',r],λY sb cenv x=>?_];have J2:=J1.turned (t':=s'.toks) (λb o U e=>(sb.2 b U).trans e) fC.1 fC.2.1 fC.2.2.2.1 fC.2.2.2.2.1 fC.2.2.2.2.2
  have e2:=(sb.2 a (bG hCa)).trans e1;rcases t1 with⟨t1a,t1b,t1c,oT,ts,z,eT,dT,d3⟩;have hTC:=fh (eW hCm t1b);have t2:XA.rX m Y a _ (aa T'):=#[t1a,t1b,t1c,oT,ts,z,(sb.2 T' hTC).trans eT,dT,d3];refine aj (eC e2 Z t1a (aj (XA.M8 e2 t2 λh3 k sz ⟨oT',ts',eT',dT',d3'⟩=>zA ?_)))
  have hT'n:=hT'.elim J.ax.fresh (hTf T');have fT:=fpo T' t1b hT'n;have J3:=J2.turned (t':=s'.toks) (λb o U e=>(k b U).trans e) fT.1 fT.2.1 fT.2.2.2.1 fT.2.2.2.2.1 fT.2.2.2.2.2
  exact W _ σ c _ a od _ J3 I3.old #[#[_,sl,aa T',(k a (bG t1c)).trans e2,#[t1a,bF hm3 t1b,t1c,_,_,_,eT',dT',d3'],λt z=>by cases z;exact hT'n],bF hm3 hy,V] hE
 cases use<;>exact err
theorem V8(WX:XW X C0 EX)(hst:X.stack=X.env::X.outer)(hfr0:X.env.frame=aa X.env.locals){Z:St}{Q:VK}{elt tg iter:bW}{ifs:List bW}{wi:TI}{g:TG}{tt:TT}{use:Option (aE->Sem Unit)}{Qf:aE->aT->Prop}(hc:X.calm=ai)(hN:X.N.Nodup)(I:Inv X pins Z H s)(hi:PI X tg iter wi)(ok:t7 X.N X.env.scope scope own)(hg:∀(s:aT)(H:Hp)(C:af)(cl:List (au×af))(F:List af)(E0:aE->aT->Prop),PG (X.jo s H scope (eB scope cl C X.env) F E0) tg g)(ht:∀(s:aT)(H:Hp)(C:af)(cl:List (au×af))(F:List af)(E0:aE->aT->Prop),PTs (X.jo s H scope (eB scope cl C X.env) F E0) ifs tt)(he:∀(s:aT)(H:Hp)(C:af)(cl:List (au×af))(F:List af)(E0:aE->aT->Prop),XW (X.jo s H scope (eB scope cl C X.env) F E0) C0 EX->PE (X.jo s H scope (eB scope cl C X.env) F E0) elt te)(hs:∀x,uW iter X.env x=pure x)(h:t8 wi g tt te (own.map (·.2)) Z H Q)(hRR:∀D C s' m O,Inv X pins Z O s'->Q (.ref D) O->s'.heap.Ns C m->il X pins O C->wJ (aH X.prog X.w) X.A X.xe use Qf (.ref D) C (.ok .next) s'):
  aG (aH X.prog X.w) X.A (IS (.ListComp elt [#[tg,iter,ifs,0]] scope pos) scope X.env pos' (C8 []) az (bT iter X.env) use) Qf X.xe s:=by
 have hfree:∀y∈scope.names,y.2=.free->∃c,X.env.cells.lookup y.1=aa c:=λy hy e=>by
  obtain k|k:=ok.free y hy e
  .exact I.ok.has _ (.inl k)
  .exact I.ok.has _ (.inr k)
 refine Ji rfl hs (Mp hfree) ok.kind (λy hy e=>by rw[ok.uniq y hy,e])
  (ba (hi _ s Z H _ I h) λxv s1 hx=>ba hx λitv s2 h2=>?_)
 rcases h2 with⟨it,F,tn,J,H2,e,I2,T,st2,f2,q⟩;subst e;refine jd (Mq ?_) (by show 0<=bp;decide)
 generalize hD:s2.heap.objs.size=D;have hDn:=I2.ax.fresh (oY hD);rcases q D hDn with⟨W,⟨m0,w0⟩,turn⟩;generalize hs3:({s2 with heap:=s2.heap.push _})=B
 have I3:Inv X pins Z (upd H2 D (.lst [])) B:=by
  rw[<-hs3];refine I2.laid (λb o e=>bq _ e) (oY hD) #[c7 _,[],0,.nil,?_];rw[<-hD];exact cJ _ rfl
 have h3:B.heap=s2.heap.push {cls:=.type "list",data:=.seq ([]).toArray}:=by rw[<-hs3]
 have sz:∀b∈F,b<s2.heap.objs.size:=λb G=>by
  obtain⟨o,e,_⟩:=T.obj _ _ st2 b G;exact bA e
 have f3:∀b∈F,il X _ (upd H2 D (.lst [])) b/\b<B.heap.objs.size:=λb G=>by
  have hlt:=sz b G;refine#[#[?_,(f2 b G).2],by rw[h3,dS];exact ki hlt]
  rw[aB (by rw[<-hD];exact c6 hlt)]
  exact(f2 b G).1
 have st3:tn 0 B.heap:=T.keep _ _ _ st2 λb a o e=>by rw[h3];exact bq _ e
 have I4:=(Mr I3 ok hN f3).toX (E:=(ua X (eB scope (eH (B.heap.objs.size+1) scope.names (fk X.env.cells scope.names [])) B.heap.objs.size X.env) use Qf D B.heap.objs.size));have pg:=hg B (upd H2 D (.lst [])) B.heap.objs.size (eH (B.heap.objs.size+1) scope.names (fk X.env.cells scope.names [])) F (ua X (eB scope (eH (B.heap.objs.size+1) scope.names (fk X.env.cells scope.names [])) B.heap.objs.size X.env) use Qf D B.heap.objs.size);have pt:=ht B (upd H2 D (.lst [])) B.heap.objs.size (eH (B.heap.objs.size+1) scope.names (fk X.env.cells scope.names [])) F (ua X (eB scope (eH (B.heap.objs.size+1) scope.names (fk X.env.cells scope.names [])) B.heap.objs.size X.env) use Qf D B.heap.objs.size);have pe:=he B _ _ _ F (ua X (eB _ (eH (B.heap.objs.size+1) scope.names (fk X.env.cells scope.names [])) ..) use Qf D _) (V7 WX hst hfr0 I3 f3 rfl rfl);show gD _ _ (.compStart _ 0 _ _ (eB _ (eH ..) B.heap.objs.size _)) ..
 have nfp:=λb G=>(f3 b G).1.1;generalize hce:eB ..=U at I4 pg pt pe⊢;have cL:U.locals=B.heap.objs.size:=by subst hce;rfl
 generalize hH3:upd H2 D _=H3 at I3 I4 pg pt pe w0 nfp f3;generalize hs4:({B with heap:=q7 ..})=s4 at I4⊢
 have st4:tn 0 s4.heap:=T.keep _ _ _ st3 λb a o e=>by rw[<-hs4];exact wN _ _ _ _ (bq _ e)
 have V:∀{σ'}{O}{s'},Inv _ [] σ' O s'->(∀b∈F,O b=ae)->∀b∈F,il (X.jo B H3 scope U F (ua X U use Qf D B.heap.objs.size)) [] O b:=λI' hn b G=>
  #[hn b G,(I'.ok.mD b G).1,I'.ok.mE b G,.inl G,λx c e=>(I'.ok.mD b G).2 x c e,λp hp=>absurd (hp) (by simp)]
 have loop:gD (aH X.prog X.w) X.A (.compLoop (.ListComp elt [#[tg,iter,ifs,0]] scope pos) 0 (.ref it) (.ref D) U) (wJ (aH X.prog X.w) X.A X.xe use Qf (.ref D) B.heap.objs.size) s4:=by
  refine Mt (λn s'=>∃i O,Inv (X.jo B H3 _ U F _) [] _ O s'/\tn i s'.heap/\(∀b∈F,O b=ae)/\W i n O) ?_ m0 #[0,H3,I4,st4,nfp,w0];rintro n s5 t;rcases t with⟨i,H5,I5,st5,n5,w5⟩;rcases turn i n H5 w5 with⟨stop,qq⟩|⟨go,Nx,hNx,step⟩
  .have td:=T.done (X.jo B H3 _ U F _) rfl rfl rfl hc i [] s5 _ H5 (λa a=>False) I5 (V I5 n5) st5 stop;refine pL td λr s6 ⟨hr,I6⟩=>?_;subst hr;have I7:=I3.tY I6.os I6.base I6.ax I6.bare λb G=>#[(f3 b G).1.2.2.2.1,(f3 b G).1.2.1,(f3 b G).1.2.2.2.2.1,(f3 b G).1.2.2.2.2.2];have nC:=by
    have z:=I6.free;rwa[cL] at z
   rcases I6.loc with⟨m,hn,_⟩;have hn:=hn;rw[cL] at hn;exact hRR D _ s6 m H5 I7 qq hn (I3.lu (bb _) nC)
  .have ti:=T.item (X.jo B H3 _ U F _) rfl rfl rfl hc i [] s5 _ H5 (λa a=>False) I5 (V I5 n5) st5 go;refine pL ti λr s6 ⟨u,hr,h6⟩=>?_;subst hr;refine pL h6 λa s7 ⟨x,H7,I7,r7,y7,st7,n7⟩=>?_;have I7':=I7.pinned (V I7 n7) (T.obj _ _ st7);refine ba (pg _ s7 _ H7 x u _ I7' r7 (step x H7 y7)) λa s8 ⟨Y,H8,I8,hw8,q8⟩=>ba (pt _ s8 Y H8 _ I8 q8) λb s9 ⟨H9,I9,q9⟩=>?_;have fin:∀{s'}{O},Inv _ ([] ++xm F _) Y O s'->Nx O->∃m,m<n/\∃i O,Inv (X.jo B H3 scope U F (ua X U use Qf D B.heap.objs.size)) [] _ O s'/\tn i _/\(∀b∈F,O b=ae)/\W i m O:=λ{s' O} I' nx=>by
    obtain⟨m',hm,w'⟩:=hNx O nx;have pin':∀b∈F,∀o,s7.heap.get? b=aa o->s'.heap.get? b=aa o/\O b=ae:=λb G o e=>
     let z:=I'.pin _ (gZ _ (gZ _ (Am G e)))
     #[z.1,z.2.1]
    have hl:(wipe Z (own.map (·.2))).length=Y.length:=by rw[<-hw8,Ax]
    refine#[m',hm,_,O,(I'.xn).weak hl (λj v e=>?_),T.keep _ _ _ st7 λb G o e=>(pin' b G o e).1,λb G=>?_,w']
    .rw[<-hw8] at e;exact(Ay e).1
    .obtain⟨o,e,_⟩:=T.obj _ _ st7 b G;exact(pin' b G o e).2
   cases b with
   |false=>
    simp[wh] at q9⊢;exact fin I9 q9
   |true=>
    simp at q9⊢;exact ba (pe _ s9 Y H9 _ I9 q9) λz s10 ⟨yv,H10,I10,r10,acc,hD10,hz10,nx⟩=>Ms (X:=X.jo B H3 _ U F _) I10 hD10 hz10 r10 λs11 I11=>fin I11 nx
 exact IP loop (T.self _ 0 _ _ _ st4 loop)
theorem V9(WX:XW X C0 EX)(G:X.stack=X.env::X.outer)(B:X.env.frame=aa X.env.locals){elt F iter:bW}{ifs:List bW}{J:TI}{g:TG}{O:TT}(hc:X.calm=ai)(hN:X.N.Nodup)(Z:PI X F iter J)(ok:t7 X.N X.env.scope scope own)(hg:∀(s:aT)(H:Hp)(C:af)(cl:List (au×af))(w:List af)(E0:aE->aT->Prop),PG (X.jo s H scope (eB scope cl C X.env) w E0) F g)(V:∀(s:aT)(H:Hp)(C:af)(cl:List (au×af))(w:List af)(E0:aE->aT->Prop),PTs (X.jo s H scope (eB scope cl C X.env) w E0) ifs O)(he:∀(s:aT)(H:Hp)(C:af)(cl:List (au×af))(w:List af)(E0:aE->aT->Prop),XW (X.jo s H scope (eB scope cl C X.env) w E0) C0 EX->PE (X.jo s H scope (eB scope cl C X.env) w E0) elt te)(W:∀x,uW iter X.env x=pure x:=by intro _;rfl):
  PE X (.ListComp elt [#[F,iter,ifs,0]] scope pos) (t8 J g O te (own.map (·.2))):=by
 intro pins s y H Q I h;refine V8 WX G B hc hN I Z ok hg V he W h λD C s' m H' I' q Y f=>#[m,Y,λh'' U=>?_];rcases f with⟨f0,f1,f2,f3,f4,f5⟩;exact#[.ref D,H',I'.turned (λb o hb e=>(U.2 b hb).trans e) f0 f1 f3 f4 f5,rfl,q]
end L2
namespace eL
def lG(l:List Nat):Prop:=l.Pairwise (·< ·)
theorem lG.lt{xs:Array _}(F:lG xs.toList){x y}(w:i<k)(hx:xs[i]? =aa x)(B:xs[k]? =aa y):x<y:=by
 rw[<-nk] at hx B;obtain⟨J,e1⟩:=bx.mp hx;obtain⟨G,e2⟩:=bx.mp B;have:=(CH.mp F) i k J G w;simp_all
theorem E7{xs}{j}(J:lG xs.toList):∀fuel lo w,lo<=w->w<=xs.size->w-lo<=fuel->(∀i x,i<lo->xs[i]? =aa x->x<j)->(∀i x,w<=i->xs[i]? =aa x->j<=x)->
  (zM xs j fuel lo w<=xs.size/\(∀i x,i<zM xs j fuel lo w->xs[i]? =aa x->x<j)/\∀i x,zM xs j fuel lo w<=i->xs[i]? =aa x->j<=x)
 |0,lo,w,h1,V,a,U,O=>by
  have e:lo=w:=by lia
  subst e;exact#[V,U,O]
 |fuel+1,lo,w,h1,V,a,U,O=>by
  unfold zM;by_cases F:lo<w
  .rw[aC F];have Y:(lo+w)/2<xs.size:=by lia
   have B:=ni Y;have hd:xs.getD ((lo+w)/2) j=xs[(lo+w)/2]:=by rw[Array.getD_eq_getD_getElem?,B];rfl
   dsimp only;rw[hd];generalize xs[(lo+w)/2]=y at B;by_cases G:y<j
   .rw[aC G];refine E7 J _ _ _ (by lia) V (by grind) (λi x W hx=>?_) O
    by_cases e:i=(lo+w)/2
    .simp_all
    .exact gy (J.lt (by lia) hx B) G
   .rw[aw G];refine E7 J _ _ _ (by lia) (by exact Nat.le_of_lt ‹_›) (by grind) U λi x W hx=>?_
    by_cases e:i=(lo+w)/2
    .simp_all
    .have:=J.lt (by lia) B hx;lia
  .rw[aw F];have e:lo=w:=by lia
   subst e;exact#[V,U,O]
theorem AN{xs} j (w:lG xs.toList):gc xs j<=xs.size/\(∀i x,i<gc xs j->xs[i]? =aa x->x<j)/\∀i x,gc xs j<=i->xs[i]? =aa x->j<=x:=
 E7 w _ 0 _ (c7 _) (bb _) (by simp) (λi x h=>by simp_all) λi x h hx=>by
  have:=(nj.mp hx).1;lia
theorem V_{xs}(B:lG xs.toList):gc xs 0=0:=by
 obtain⟨F,w,_⟩:=AN 0 B;cases e:gc xs 0 with
 |zero=>rfl
 |succ n=>
  have:=w 0 _ (by simp_all) (ni (by lia))
  simp_all
theorem Wa{xs}(B:lG xs.toList){x}(hx:xs[i]? =aa x):gc xs (x+1)=i+1:=by
 obtain⟨U,J,G⟩:=AN _ B;have O:=(nj.mp hx).1;have a:i<gc xs (x+1):=by
  refine Nat.lt_of_not_le λw=>?_;have:=G i x w hx;lia
 by_cases b:i+1<gc xs (x+1)
 .have F:=ni (xs:=xs) (i:=i+1) (by exact Nat.le_trans ‹_› ‹_›)
  have W:=J _ _ b F;have V:=B.lt (iH i) hx F;lia
 .lia
theorem Wb{xs}(B:lG xs.toList)(h:xs[gc xs j]?≠aa j):j∉xs.toList:=by
 intro G;obtain⟨i,w⟩:=kh.mp G;rw[nk] at w;obtain⟨V,U,O⟩:=AN j B;have a:¬i<gc xs j:=λz=>by have:=U i j z w;simp_all
 have J:gc xs j<xs.size:=by have:=(nj.mp w).1;lia
 have F:=ni J;have W:=O _ _ (bb _) F;by_cases e:i=gc xs j
 .rw[e] at w;exact h w
 .have:=B.lt (by lia) F w;lia
theorem Wc{xs}(J:lG xs.toList)(Y:j∉xs.toList):lG (SetTable.insertAt xs (gc xs j) j).toList:=by
 obtain⟨h1,h2,a⟩:=AN j J;rw[SetTable.toList_insertAt];delta lG;have B:(xs.toList.take (gc xs j) ++xs.toList.drop (gc xs j)).Pairwise (·< ·):=by rwa[HW]
 rw[List.pairwise_append] at B⊢;have lo:∀x∈xs.toList.take (gc xs j),x<j:=λx hx=>by
  obtain⟨i,w⟩:=kh.mp hx;have G:=(bx.mp w).1;rw[gw] at G;rw[HB (by simp_all),nk] at w
  exact h2 i x (by simp_all) w
 have w:∀x∈xs.toList.drop _,j<x:=λx hx=>by
  have W:x≠j:=λe=>Y (e▸CG hx);obtain⟨i,w⟩:=kh.mp hx;rw[Cs,nk] at w;have:=a _ x (kZ _ _) w;lia
 simp_all
def fY(led:Bool)(t:SetTable):Prop:=lG t.place.toList/\t.dummies=#[]/\t.led=led
theorem Wd n:lG (Array.range n).toList:=by
 rw[Array.toList_range];exact HP
theorem AO(h:fY led t) n:fY led (t.standIn n):=#[Wd n,Z,h.2.2]
theorem We(h:fY led t) n:fY led (t.orStandIn n):=by
 delta SetTable.orStandIn
 split
 .omega
 .exact AO h n
theorem has_none j:Ku #[] j=az:=by rfl
theorem Nn{led}(G:fY led t){h}:∀fuel p j F,p.dummy=ae->DP t (λx=>h+1) h fuel p=aa (.empty j F)->F=ae/\j∉t.place.toList
 |0,p,j,F,_,e=>by cases e
 |fuel+1,p,j,F,J,e=>by
  unfold DP at e;have B:(t.advance p).dummy=ae:=by
   delta SetTable.advance
   split<;>exact J
  cases w:t.slot _ with
  |empty=>
   rw[w] at e;cases e;refine#[J,Wb G.1 λz=>?_];delta Kw at w;dsimp only at w;simp_all
  |dummy=>
   delta Kw at w;dsimp only at w
   split at w
   .cases w
   .rw[G.2.1,has_none] at w;cases w
  |live i=>
   rw[w] at e;dsimp only at e;rw[aw (by rw[fJ];lia)] at e
   exact Nn G _ _ j F B e
theorem Wf(B:fY led t){h}{J}(e:t.freeSlot h=aa (slot,J)):slot∉t.place.toList:=by
 delta SetTable.freeSlot Tc at e;cases w:DP t (λx=>h+1) h (10*SetTable.turns t.mask) (t.probeStart h) with
 |none=>simp_all
 |some met=>
  rw[w] at e;cases met with
  |empty j d=>
   obtain⟨G,F⟩:=Nn B _ _ j d Z w;simp_all
  |candidate a b c=>cases e
theorem Wg(w:fY led t)(B:j∉t.place.toList):fY led (t.put j).1:=by
 refine#[Wc w.1 B,?_,w.2.2];show(if Ku _ j then SetTable.eraseAt _ _ else t.dummies)=#[]
 rw[w.2.1,has_none];rfl
set_option tactic.hygienic true in
theorem Wh(w:fY led t) es h x:fY led (layNew t es h x).2.1:=by
 delta layNew
 split
 .rename_i slot B e;exact We (Wg w (Wf w e)) _
 .exact AO w _
theorem Np(f:Nat->Option Nat):∀(l:List _),l.Pairwise (·< ·)->((l.filterMap λj=>(f j).map λi=>(j,i)).map d7).Pairwise (·< ·)/\∀x∈(l.filterMap λj=>(f j).map λi=>(j,i)).map d7,x∈l
 |[],_=>#[HZ,λx h=>by simp at h]
 |y::l,h=>by
  obtain⟨F,B⟩:=HN.mp h;obtain⟨i1,i2⟩:=Np f l B;cases w:f y with
  |none=>
   rw[List.filterMap_cons_none (by rw[w];rfl)]
   exact#[i1,λx hx=>bI _ (i2 x hx)]
  |some i=>
   rw[Hs (by rw[w];rfl),b7]
   refine#[HN.mpr #[λx hx=>F x (i2 x hx),i1],λx hx=>?_];obtain rfl|hx:=bM.mp hx
   .exact bH
   .exact bI _ (i2 x hx)
theorem Wi{mask finger moves}{plain}{w}{order}(e:Kv mask finger moves led plain w=aa (t,order)):fY led t:=by
 delta Kv at e;cases B:SetTable.layClean _ w with
 |none=>rw[B] at e;cases e
 |some owner=>
  rw[B] at e;have e:=(qT (bf e)).1;rw[<-e];exact#[(Np _ _ HP).1,Z,Z]
set_option tactic.hygienic true in
theorem Wj(w:fY led t) es n:fY led (relayAll t es n).2.1:=by
 delta relayAll
 split
 .rename_i t' order e;dsimp only
  split
  .have:=Wi e;rw[w.2.2] at this;omega
  .exact AO w _
 .exact AO w _
theorem E8{w:Type}:∀{l:List w}{i} h,(l[i]::l.eraseIdx i).Perm l
 |x::l,0,_=>.rfl
 |x::l,i+1,h=>by
  have h':=by simpa using h
  exact(Hl.swap _ _ _).trans (H_ _ (E8 h'))
theorem Nq{B} next:∀fuel k left (out:Array B),fuel=left.length->(DZ next fuel k left out).toList.Perm (out.toList ++left)
 |0,k,left,out,h=>by
  have:=Cu.mp h.symm;subst this;unfold DZ;rw[l8]
 |fuel+1,k,left,out,h=>by
  unfold DZ;have w:next k%left.length<left.length:=nu _ (by lia)
  rw[aY w];refine(Nq _ _ _ _ _ (by rw[Cv w];lia)).trans ?_
  rw[G8,kf];exact Hl.append_left _ (E8 w)
theorem E9{w} next (xs:Array w):(pickOrder next xs).toList.Perm xs.toList:=by
 have:=Nq next xs.size 0 xs.toList #[] (by simp)
 simpa[pickOrder] using this
theorem Wk{src}(w:n≠0){Q}(h:∀k,k<n->∀B,Q k {s with drawn:=B}):aG M A (choose src n) Q E s:=
 λx x x=>#[w,h _ (nu _ (Ij w)) _]
theorem Nr{G}{M}{A}{E}:∀n xs s (Q:List G->aT->Prop),n=xs.length->(∀ys J,ys.Perm xs->Q ys {s with drawn:=J})->aG M A (drawOrder n xs) Q E s
 |0,xs,s,Q,h,w=>by
  have:=Cu.mp h.symm;subst this;exact aL (w [] _ .rfl)
 |n+1,[],s,Q,h,w=>by simp at h
 |n+1,x::xs,s,Q,h,w=>by
  refine aj (Wk (by simp) λk B J=>?_)
  rw[aY B];exact aj (Nr n _ _ _ (by rw[Cv B];simp at h⊢;omega) λys F O=>aL (w _ F ((H_ _ O).trans (E8 B))))
noncomputable def keyOf:aE->Int
 |.int i _=>i
 |_=>0
noncomputable def mK(es:Array (Int×aE)):List Int:=es.toList.map λe=>keyOf e.2
def ir(P:gB)(w:aS)(led:Bool)(h:aU)(a:af)(S:Int->Prop)(n:Nat):Prop:=
 ∃o es ep t,h.get? a=aa o/\o.ExactSet/\o.data=.set es ep t/\zj (intKind P w) es.toList/\(mK es).Nodup/\(∀k,k∈mK es↔S k)/\es.size<=n/\n<u4/\t.fits es.size=ai/\fY led t
theorem ir.keep{w}{S}(x:ir P w led h a S n)(k:∀o,h.get? a=aa o->h'.get? a=aa o):ir P w led h' a S n:=by
 obtain⟨o,es,ep,t,B,r⟩:=x;exact#[o,es,ep,t,k o B,r]
theorem ir.congr{w}{S F}{B}(x:ir P w led h a S n)(e:∀k,S k↔F k)(en:n<=B)(G:B<u4):ir P w led h a F B:=by
 rcases x with⟨o,es,ep,t,h1,b,Y,W,V,U,O,h8,J⟩;exact#[o,es,ep,t,h1,b,Y,W,V,λk=>(U k).trans (e k),bF O en,G,J]
section
variable {w:aS}
theorem Nu{k}(h:(intKind P w).is k v=ai):keyOf v=k:=by
 obtain⟨t,rfl⟩:=DQ h;rfl
theorem Nv{es}(G:zj (intKind P w) es){k}:k∈(es.map λe=>keyOf e.2)↔∃e∈es,(intKind P w).is k e.2=ai:=by
 constructor
 .intro h;obtain⟨e,F,rfl⟩:=bK.mp h;obtain⟨⟨O,B,_⟩,_⟩:=G e F;exact#[e,F,by rw[Nu B];omega]
 .rintro⟨e,F,J⟩;exact bK.mpr #[e,F,Nu J]
theorem stored(F:h.get? a=aa o)(hd:o.data=.set es ep t) B t' :(h.update a (DM B t')).get? a=aa {o with data:=.set B (ep+1) t'}:=by
 have:=ko (DM B t') F (by rw[putSet_of B t' hd];rfl)
 rwa [putSet_of B t' hd] at this
theorem Nw{g:Bool->Sem _}(hg:∀b J Q',Q' () J->aG (aH P w) A (g b) Q' E J)(Y:s.heap.get? a=aa o)(hex:o.ExactSet)(hd:o.data=.set es ep t){F}{S}(h1:zj (intKind P w) B.toList)(h2:(mK B).Nodup)(h3:∀k,k∈mK B↔S k)(h4:B.size<=n)(h5:n<u4)(h6:F.fits B.size=ai)(Z:fY led F){R}(h:∀h',jJ a s.heap h'->ir P w led h' a S n->R (aa ai) {s with heap:=h'}):
  aG (aH P w) A (storeSet a B F >>=λy=>if (!dm&&F.tooFull)=ai then g (relayAll F B (vd B.size)).2.2 >>=λy=>storeSet a (relayAll F B (vd B.size)).1 (relayAll F B (vd B.size)).2.1 >>=λy=>pure (aa ai) else pure (aa ai)) R E s:=by
 refine aj (Jx Y hd ?_ (CZ (by exact Nat.lt_of_le_of_lt ‹_› ‹_›)))
 have O:=stored Y hd B F;have V:=rn s.heap a (DM B F)
 split
 .have p:=relayAll_perm F B (vd B.size);have f:=relayAll_fits F B (vd B.size);have k:=Wj Z B (vd B.size);generalize relayAll F B _=Rl at p f k⊢;obtain⟨G,U,gave⟩:=Rl;dsimp only at p f k⊢;have z:G.size=B.size:=by rw[<-fP,p.length_eq,fP]
  have W:(mK G).Perm _:=p.map _;refine aj (hg _ _ _ (aj (Jx O rfl ?_ (CZ (by lia)))))
  refine aL (h _ (V.trans (rn _ a _)) #[_,G,_,U,stored O rfl G U,hex,rfl,h1.perm p,W.nodup_iff.mpr h2,λx=>W.mem_iff.trans (h3 x),by simp_all,h5,f,k])
 .exact aL (h _ V #[_,B,_,F,O,hex,rfl,h1,h2,h3,h4,h5,h6,Z])
theorem add_int{S}{k}{u}{Q}(hS:ir P w led s.heap a S n)(hn:n+1<u4)(h:∀b h',jJ a s.heap h'->ir P w led h' a (λO=>S O\/O=k) (n+1)->Q b {s with heap:=h'}):
  aG (aH P w) A (SN a (.int k u) ((intKind P w).hash k)) Q E s:=by
 obtain⟨o,es,ep,t,c,hex,hd,F,hnd,G,hsz,hlt,hf,ht⟩:=hS;have hk:=intKind_is P w k u;refine gE (aj (rg c hd hf ?_));dsimp only;rw[byScan_of Z (by exact Nat.lt_of_le_of_lt ‹_› ‹_›) F]
 refine aj ?_;refine aj (pf ?_);refine aj (wpAny_setScan_of hk c hd hf F ?_);cases hr:es.toList.findIdx? _ with
 |some j=>
  dsimp only;obtain⟨hj,hpj,_⟩:=yT.mp hr;have hin:=(G k).mp ((Nv F).mpr #[_,ff hj,hpj]);exact aL (aL (h _ _ (Kj a _) #[o,es,ep,t,c,hex,hd,F,hnd,λO=>(G O).trans #[.inl,λz=>z.elim id λe=>e▸hin],by lia,hn,hf,ht]))
 |none=>
  have Y:k∉mK es:=λz=>by
   obtain⟨e,he,hp⟩:=(Nv F).mp z;have:=Hv.mp hr e he;simp_all
  have p:=layNew_perm t es ((intKind P w).hash k) (.int k u);have f:=layNew_fits t es ((intKind P w).hash k) (.int k u);have tk:=Wh ht es ((intKind P w).hash k) (.int k u);generalize layNew t es _ _=L at p f tk⊢;obtain⟨J,t1,dm,gave⟩:=L;dsimp only at p f tk⊢;rw[G8] at p;have hgw:∀ b   B   Q' ,Q' () B->aG (aH P w) A (match b with|true=>rule "set.scan.the-table-gave-way"|false=>pure ()) Q' E B:=λb B Q' q=>by
   cases b
   .exact aL q
   .exact pf q
  have pk:(mK J).Perm (mK es++[k]):=by
   have:=p.map λe=>keyOf e.2;rwa[bR] at this
  have V:=(F.push hk Z).perm p;have U:(mK J).Nodup:=by
   rw[pk.nodup_iff,oV];exact#[hnd,by simp,λx hx y hy=>by rw[cj] at hy;subst hy;exact λe=>Y (e▸hx)]
  have hm1:∀O,O∈mK J↔(S O\/O=k):=λO=>by rw[pk.mem_iff,df,cj,G O]
  have W:J.size<=n+1:=by
   rw[<-fP,p.length_eq,b6,fP];simpa using hsz
  refine aj (hgw _ _ _ ?_)
  split
  .refine aj ?_;refine aL ?_;exact Nw (λb B Q' q=>by cases b<;>first|exact aL q|exact pf q) c hex hd V U hm1 W hn (by split;exact f;exact SetTable.fits_plain_off f) (by split;exact tk;exact#[tk.1,tk.2.1,tk.2.2]) λh' sb x=>aL (h _ h' sb x)
  .refine aj (aL ?_);exact Nw (λb B Q' q=>by cases b<;>first|exact aL q|exact pf q) c hex hd V U hm1 W hn f tk λh' sb x=>aL (h _ h' sb x)
end
theorem mL:Slot "set_iterator" "__next__" "set_iterator.__next__":=.of (owner:="set_iterator") (n:="__next__") (by rfl) (by decide +kernel) (by decide +kernel) (by decide +kernel) (by first|exact .inl (by decide +kernel)|exact .inr _) (by rfl)
theorem Ny:Slot "set_iterator" "__iter__" "set_iterator.__iter__":=.of (owner:="set_iterator") (n:="__iter__") (by rfl) (by decide +kernel) (by decide +kernel) (by decide +kernel) (by first|exact .inl (by decide +kernel)|exact .inr _) (by rfl)
theorem AQ:wK table "set_iterator.__next__"=aa fi.«set_iterator.__next__»:=IT (by rfl)
theorem Wl:wK table "set_iterator.__iter__"=aa fi.«dict_keyiterator.__iter__»:=CY (id':="dict_keyiterator.__iter__") (by kernel_rfl) Z (by decide +kernel) (by kernel_rfl)
theorem Wn:wK table "set.__iter__"=aa fi.«frozenset.__iter__»:=CY (id':="frozenset.__iter__") (by kernel_rfl) Z (by decide +kernel) (by kernel_rfl)
theorem AR  a :IF "set_iterator.__next__" #[[a],[]]:=by kernel_rfl
theorem Wq  a :IF "set_iterator.__iter__" #[[a],[]]:=by kernel_rfl
def mM(h:aU)(I S:af)(first:aE)(i n ep:Nat):Prop:=∃o,h.get? I=aa o/\o.cls=.type "set_iterator"/\o.data=.fields (tAr [first,.int i 0,.ref S,.int n 0,.int ep 0])
theorem mM.ty{f}(x:mM s.heap I S f i n ep):s.TypeIs (.ref I) "set_iterator":=by
 obtain⟨o,B,F,_⟩:=x;exact#[o,B,F]
section
variable {w:aS}
theorem Nz{f}(x:mM s.heap I S f i n ep)(h:Q (.ref I) s):aG (aH P w) A (pb (.ref I)) Q E s:=by
 refine DE x.ty Ny (iK Ny x.ty Wl ?_ (Wq _));exact aL #[_,Z,_,_,x.ty,mL.lookup,h]
theorem NA{Q:Option aE->aT->Prop}(B:A.handled=ae)(h:∀h',(∀b o,s.heap.get? b=aa o->h'.get? b=aa o)->Q ae {s with heap:=h'}):
  aG (aH P w) A.in1 (SI (.type "StopIteration") [] >>=λe=>(SM e:Sem Fin)) (λx x=>False) (λe s'=>aG (aH P w) A (uY e (.type "StopIteration") >>=λb=>if b=ai then pure ae else throw e) Q E s') s:=by
 refine aj ?_;refine aj (jd ?_ (by size_fits))
 refine aj (wW (a:=jL) (by rfl) ?_)
 refine jd ?_ (by size_fits)
 simp only;refine aj (Dv ?_);rw[B];refine aj (aL (zA ?_));refine aj (wU #[_,cJ _ Z,Z] zr ?_);exact aL (h _ λb o e=>bq _ (bq _ e))
end
section
variable {w:aS}
noncomputable def eM(w:aS):Bool:=w.params.followText "set-order"
theorem xM{Q}(B:s.heap.get? a=aa o)(hd:o.data=.set es ep t)(F:t.fits es.size=ai)(h:Q es s):aG (aH P w) A (setEntries a) Q E s:=aj (rg B hd F (aL h))
theorem Wr{Q}(G:eM w=ai)(B:s.heap.get? a=aa o)(hd:o.data=.set es ep t)(F:t.fits es.size=ai)(h:Q (pickOrder (w.params.setOrder a ep) es) s):aG (aH P w) A (setWalk a) Q E s:=by
 refine aj (rg B hd F (aj (aj (wR (aL ?_)))));rw[aC (show(aH P w).w.params.followText _=ai from G)];exact aj (wR (aL h))
noncomputable def rY(w:aS)(S:af)(es:Array (Int×aE))(t:SetTable)(ep slot i:Nat):Option (aE×Nat):=
 if eM w=ai then((pickOrder (w.params.setOrder S ep) es)[i]?).map λe=>(e.2,slot)
 else match es[gc t.place slot]?,t.place[gc t.place slot]? with
  |some (_,x),aa j=>aa (x,j+1)
  |_,_=>ae
theorem NB{Q}(G:s.heap.get? a=aa o)(hd:o.data=.set es ep t)(J:t.fits es.size=ai)(O:eM w=az->(!t.plain&&decide (es.size>1))=az)(U:eM w=az->t.led=ai)(h:Q (rY w a es t ep slot i) s):aG (aH P w) A (setNext a slot i ep) Q E s:=by
 refine aj (rg G hd J (aj (aj (wR (aL ?_)))));delta rY at h;by_cases B:eM w=ai
 .rw[aC B] at h;rw[aC (show(aH P w).w.params.followText _=ai from B),aw (by simp)]
  exact aj (Wr B G hd J (aL h))
 .rw[aw B] at h;have F:=by simpa using B
  rw[aw (show ¬(aH P w).w.params.followText _=ai from B)];show aG _ _ (if (!t.plain&&decide _)=ai then _ else _) _ _ _
  rw[O F,aw (by simp)]
  show aG _ _ ((if (!t.led && !es.isEmpty)=ai then unsupported _ else pure ()) >>=_) _ _ _
  rw[U F,aw (by simp)]
  exact aj (aL (aL h))
theorem Ws{nx}{x}{Q}(hit:mM s.heap I S (.int slot 0) i es.size ep)(J:s.heap.get? S=aa o)(hd:o.data=.set es ep t)(O:t.fits es.size=ai)(V:eM w=az->(!t.plain&&decide (es.size>1))=az)(Y:eM w=az->t.led=ai)(W:rY w S es t ep slot i=aa (x,nx))(h:∀h',mM h' I S (.int nx 0) (i+1) es.size ep->jJ I s.heap h'->Q (aa x) {s with heap:=h'}):aG (aH P w) A (km (.ref I)) Q E s:=by
 obtain⟨oi,F,G,B⟩:=id hit;refine aj (mu (k7 hit.ty mL (iK mL hit.ty AQ (aj (aL ?_)) (AR _))));refine aj (u_ F B ?_);dsimp only;refine aj (xM J hd O ?_);rw[aw (by simp)]
 refine aj (NB J hd O V Y ?_);rw[show(slot:Int).toNat=slot from cI _,show(i:Int).toNat=i from cI _,cI _,W];refine aj (k9 F B (by simp) ?_)
 have U:=ko (tR (·.setIfInBounds 0 (fB nx))) F (tQ (jg B _));refine aj (k9 U (jg B _) (by simp) ?_)
 have a:=ko (tR (·.setIfInBounds 1 (fB (i+1)))) U (tQ (jg (jg B _) _));refine aL #[x,Z,aL (h _ #[_,a,?_,?_] ((rn ..).trans (rn ..)))]
 .rw[zK,zK];omega
 .rw[jg (jg B _)];rfl
theorem Wt{Q}(W:A.handled=ae)(hit:mM s.heap I S (.int slot 0) i es.size ep)(G:s.heap.get? S=aa o)(hd:o.data=.set es ep t)(J:t.fits es.size=ai)(O:eM w=az->(!t.plain&&decide (es.size>1))=az)(V:eM w=az->t.led=ai)(U:rY w S es t ep slot i=ae)(h:∀h',(∀b u,b≠I->s.heap.get? b=aa u->h'.get? b=aa u)->Q ae {s with heap:=h'}):aG (aH P w) A (km (.ref I)) Q E s:=by
 obtain⟨oi,B,Y,F⟩:=id hit;refine aj (mu (k7 hit.ty mL (iK mL hit.ty AQ (aj (aL ?_)) (AR _))));refine aj (u_ B F ?_);dsimp only;refine aj (xM G hd J ?_);rw[aw (by simp)]
 refine aj (NB G hd J O V ?_);rw[show(slot:Int).toNat=slot from cI _,show(i:Int).toNat=i from cI _,cI _,U];refine aj (k9 B F (by simp) (eD (NA W λh' k=>?_) (λx x z=>z.elim) λe s' z=>z));exact h h' λb u a e=>k b u ((jK _ _ (bG a)).trans e)
theorem Wu{pl:Nat}{ps}{u}{x}{Q}(hit:mM s.heap I S (.ref T) i es.size ep)(O:s.heap.get? S=aa o)(hd:o.data=.set es ep t)(U:t.fits es.size=ai)(Y:s.heap.get? T=aa oT)(G:oT.data=.seq ps nT)(V:ps[i]? =aa (.int pl u))(W:es[pl]? =aa (hx,x))(h:∀h',mM h' I S (.ref T) (i+1) es.size ep->jJ I s.heap h'->Q (aa x) {s with heap:=h'}):aG (aH P w) A (km (.ref I)) Q E s:=by
 obtain⟨oi,F,J,B⟩:=id hit;refine aj (mu (k7 hit.ty mL (iK mL hit.ty AQ (aj (aL ?_)) (AR _))));refine aj (u_ F B ?_);dsimp only;refine aj (xM O hd U ?_);rw[aw (by simp)]
 refine aj (kn Y G ?_);dsimp only;rw[cI _,V,cI _];refine aj (aj (rg O hd U ?_));dsimp only;rw[cI _,aw (by simp),W]
 refine aL (aj (k9 F B (by simp) ?_))
 have a:=ko (tR (·.setIfInBounds 1 (fB (i+1)))) F (tQ (jg B _));refine aL #[x,Z,aL (h _ #[_,a,?_,?_] (rn ..))]
 .rw[zK];omega
 .rw[jg B];rfl
theorem Wv{ps}{Q}(V:A.handled=ae)(hit:mM s.heap I S (.ref T) i es.size ep)(U:s.heap.get? S=aa o)(hd:o.data=.set es ep t)(W:t.fits es.size=ai)(Z:s.heap.get? T=aa oT)(G:oT.data=.seq ps nT)(O:ps[i]? =ae)(h:∀h',(∀b u,b≠I->s.heap.get? b=aa u->h'.get? b=aa u)->Q ae {s with heap:=h'}):aG (aH P w) A (km (.ref I)) Q E s:=by
 obtain⟨oi,F,Y,B⟩:=id hit;refine aj (mu (k7 hit.ty mL (iK mL hit.ty AQ (aj (aL ?_)) (AR _))));refine aj (u_ F B ?_);dsimp only;refine aj (xM U hd W ?_);rw[aw (by simp)]
 refine aj (kn Z G ?_);dsimp only;rw[cI _,O];refine aj (k9 F B (by simp) ?_)
 have g1:=ko (tR (·.setIfInBounds 0 (fB 0))) F (tQ (jg B _));refine aj (k9 g1 (jg B _) (by simp) (eD (NA V λh' k=>?_) (λx x z=>z.elim) λe s' z=>z));exact h h' λb u J e=>k b u ((jK _ _ (bG J)).trans ((jK _ _ (bG J)).trans e))
end
theorem Ww:u6 (.type "set") "__len__"=pure (aa (.builtin "set.__len__")):=F.slot_set_len.lookup
section
variable {w:aS}
noncomputable def ub(w:aS)(S:af)(es:Array (Int×aE))(ep:Nat):List aE:=
 if eM w=ai then(pickOrder (w.params.setOrder S ep) es).toList.map (·.2) else es.toList.map (·.2)
theorem NC S es ep:(ub w S es ep).Perm (es.toList.map (·.2)):=by
 unfold ub
 split
 .exact(E9 _ _).map _
 rfl
theorem Wx S es ep:(ub w S es ep).length=es.size:=by
 rw[(NC S es ep).length_eq,aJ,fP]
def xN(w:aS)(t:SetTable)(i slot:Nat):Prop:=eM w=az->gc t.place slot=i
theorem Wy(W:fY led t)(O:t.fits es.size=ai)(Y:xN w t i slot)(Z:i<es.size):∃x nx,rY w S es t ep slot i=aa (x,nx)/\(ub w S es ep)[i]? =aa x/\xN w t (i+1) nx:=by
 unfold rY ub xN;by_cases B:eM w=ai
 .rw[aC B,aC B];have G:(pickOrder (w.params.setOrder S ep) es).size=es.size:=by
   rw[<-fP,(E9 _ _).length_eq,fP]
  have J:=ni (xs:=pickOrder (w.params.setOrder S ep) es) (i:=i) (by simp_all)
  rw[J];refine#[_,_,rfl,?_,λz=>by simp_all]
  rw[bL,nk,J];rfl
 .have F:=by simpa using B
  rw[aw B,aw B,Y F];have bC:=by
   simp only[SetTable.fits,fQ,fJ] at O;exact O.1
  have V:=ni Z;have U:=ni (xs:=t.place) (i:=i) (by simp_all)
  rw[V,U];refine#[_,_,rfl,?_,λy=>Wa W.1 U];rw[bL,nk,V];rfl
theorem Wz(G:xN w t es.size slot):rY w S es t ep slot es.size=ae:=by
 unfold rY;by_cases B:eM w=ai
 .rw[aC B];have F:(pickOrder (w.params.setOrder S ep) es).size=es.size:=by
   rw[<-fP,(E9 _ _).length_eq,fP]
  rw[uF (by simp_all)];rfl
 .rw[aw B,G (by simpa using B),uF (bb _)]
theorem WA(hh:A.handled=ae)(V:S≠I)(hd:o.data=.set es ep t)(W:t.fits es.size=ai)(ht:fY led t)(hp:eM w=az->(!t.plain&&decide (es.size>1))=az)(hl:eM w=az->t.led=ai):
  zk P w A I [I,S] [I] (λa b=>b=a) es.size (λi v=>(ub w S es ep)[i]? =aa v) (λi s=>∃slot:Nat,mM s.heap I S (.int slot 0) i es.size ep/\s.heap.get? S=aa o/\xN w t i slot) where
 sub:=λb G=>by simp at G;simp[G]
 grefl:=λy=>Z
 gtrans:=λy y y B Y=>Y.trans B
 frame:=λi s h' tk st y hk=>by
  rcases st with⟨slot,⟨oi,B,Y⟩,F,J⟩;exact#[_,#[oi,hk I (by simp) _ B,Y],hk S (by simp) _ F,J]
 item:=λi s Q E hi st O=>by
  obtain⟨slot,B,F,J⟩:=st;obtain⟨x,nx,n1,n2,n3⟩:=Wy ht W J hi;exact Ws B F hd W hp hl n1 λh' U c=>O x _ n2 #[nx,U,by rw[<-F];exact c.2 S V,n3] #[λb u G e=>by rw[<-e];exact c.2 b (λz=>G (by simp[z])),Z,Z,Z,bb _]
 done:=λs Q E st O=>by
  obtain⟨slot,B,F,J⟩:=st;exact Wt hh B F hd W hp hl (Wz J) λh' k=>O _ #[λb u G e=>k b u (λz=>G (by simp[z])) e,Z,Z,Z,bb _]
 self:=λi s Q E st O=>by
  obtain⟨slot,B,F,J⟩:=st;exact Nz B O
theorem WB(hh:A.handled=ae)(hne:S≠I)(hnT:T≠I)(hd:o.data=.set es ep t)(hf:t.fits es.size=ai){pl:List _}(bC:pl.Perm (fg es.size))(W:oT.data=.seq (pl.map λ(i:Nat)=>fB i).toArray nT):
  zk P w A I [I,S,T] [I] (λa b=>b=a) es.size (λi v=>(pl.filterMap λj=>(es[j]?).map (·.2))[i]? =aa v) (λi s=>mM s.heap I S (.ref T) i es.size ep/\s.heap.get? S=aa o/\s.heap.get? T=aa oT):=by
 have hlen:pl.length=es.size:=by rw[bC.length_eq,me]
 have B:∀j∈pl,∃e,es[j]? =aa e:=λj hj=>#[_,ni (gx.mp (bC.mem_iff.mp hj))];have V:∀(l:List _),(∀j∈l,∃e,es[j]? =aa e)->∀(i p:Nat) e,l[i]? =aa p->es[p]? =aa e->(l.filterMap λj=>(es[j]?).map (·.2))[i]? =aa e.2:=by
  intro l
  induction l with
  |nil=>intro _ i p e h;simp at h
  |cons y l ih=>
   intro hl i p e h G;obtain⟨ey,hy⟩:=hl y bH;rw[Hs (by rw[hy];rfl)]
   cases i with
   |zero=>
    simp_all
   |succ i=>exact ih (λj hj=>hl j (bI _ hj)) i p e (by simpa using h) G
 exact{
  sub:=λb J=>by simp at J;simp[J]
  grefl:=λx=>Z
  gtrans:=λx x x F h2=>h2.trans F
  frame:=λi s h' tk st x hk=>by
   rcases st with⟨⟨oi,F,h2⟩,U,O⟩;exact#[#[oi,hk I (by simp) _ F,h2],hk S (by simp) _ U,hk T (by simp) _ O]
  item:=λi s Q E hi st Y=>by
   obtain⟨F,U,O⟩:=st;have hp:pl[i]? =aa _:=aY (by simp_all)
   obtain⟨e,G⟩:=B _ (ff _)
   have hps:((pl.map λ(i:Nat)=>fB i).toArray)[i]? =aa (.int (pl[i]) 0):=by
    rw[Sz,bL,hp];rfl
   refine Wu F U hd hf O W hps G λh' it' c=>Y _ _ (V pl B i _ e hp G) #[it',by rw[<-U];exact c.2 S hne,by rw[<-O];exact c.2 T hnT] #[λb u J e=>by rw[<-e];exact c.2 b (λz=>J (by simp[z])),Z,Z,Z,bb _]
  done:=λs Q E st Y=>by
   obtain⟨F,U,O⟩:=st;refine Wv hh F U hd hf O W ?_ λh' k=>Y _ #[λb u J e=>k b u (λz=>J (by simp[z])) e,Z,Z,Z,bb _]
   simp_all
  self:=λi s Q E st Y=>Nz st.1 Y}
theorem ND{pl:List _}(bC:pl.Perm (fg es.size)):(pl.filterMap λj=>(es[j]?).map (·.2)).Perm (es.toList.map (·.2)):=by
 refine(bC.filterMap _).trans ?_;have:=congrArg (List.map λe=>e.2) (filterMap_getElem?_range es);rw[List.map_filterMap] at this;simp_all
end
section
variable {w:aS}
def Walk(P:gB)(w:aS)(S:af)(s B:aT)(I:af)(items:List aE):Prop:=
 ∃(F:List af)(St:Nat->aT->Prop)(n:Nat),n=items.length/\(∀G:iI,G.handled=ae->zk P w G I F [I] (λa b=>b=a) n (λi v=>items[i]? =aa v) St)/\St 0 B/\I∈F/\(∀b∈F,b<B.heap.objs.size/\(b=S\/s.heap.objs.size<=b))/\s.heap.objs.size<=I/\(∀b o,s.heap.get? b=aa o->B.heap.get? b=aa o)/\B.gens=s.gens/\B.os=s.os/\s.toks<=B.toks
theorem WC(O:s.heap.get? S=aa o)(hex:o.ExactSet)(hd:o.data=.set es ep t)(U:t.fits es.size=ai)(W:fY (!eM w) t)(hz:es.size<=bp)(h:∀s1 I items,Walk P w S s s1 I items->items.Perm (es.toList.map (·.2))->Q (.ref I) s1):aG (aH P w) A (pb (.ref S)) Q E s:=by
 have hT:s.TypeIs (.ref S) _:=#[o,O,hex.1];have G:=bA O;refine DE hT Ka (iK Ka hT Wn ?_ (F.args_set_iter_1 _));refine aj (aj (aL (aL ?_)));refine aj (aj (xM O hd U (aL ?_)));refine aj (aj (rg O hd U ?_));refine aj (aj (wR (aL (aL ?_))));show aG _ _ (if (!eM w&&(!t.plain&&decide _))=ai then _ else _) _ _ _
 by_cases J:(!eM w&&(!t.plain&&decide (es.size>1)))=ai
 .rw[aC J];refine aj (Nr _ _ _ _ (by simp) λpl dr bC=>?_)
  refine aj (jd ?_ (by
   show((pl.map _).toArray).size<=bp;rw[dG,aJ,bC.length_eq,me];omega))
  have V:=bq {cls:=.type "tuple",data:=.seq (pl.map λ(i:Nat)=>fB i).toArray} O;refine aj (aj (rg V hd U (aL ?_)));refine aj (jd (aL #[_,Z,_,_,#[_,cJ _ Z,Z],mL.lookup,?_]) (by size_fits))
  have a:es.size=(pl.filterMap λj=>(es[j]?).map (·.2)).length:=by rw[(ND bC).length_eq,aJ,fP]
  have hsz:=dS s.heap {cls:=.type "tuple",data:=.seq (pl.map λ(i:Nat)=>fB i).toArray};refine h _ _ _ #[_,_,_,a,λA' Y=>WB Y    (by rw[hsz];exact c6 (ki G)) (by rw[hsz];exact c6 (iH _)) hd U bC Z,#[#[_,cJ _ Z,Z,Z],bq _ V,bq _ (cJ _ Z)],by simp,λb B=>?_,by simp,λb u e=>bq _ (bq _ e),Z,Z,bb _] (ND bC)
  rw[dS,hsz];rw[hsz] at B;simp only[bM,dB,Ag] at B;obtain rfl|rfl|rfl:=B
  .exact#[iH _,.inr (qO _)]
  .exact#[ki (ki G),.inl Z]
  .exact#[ki (iH _),.inr (bb _)]
 .rw[aw J];refine aj (aL ?_);refine aj (aj (rg O hd U (aL ?_)));refine aj (jd (aL #[_,Z,_,_,#[_,cJ _ Z,Z],mL.lookup,?_]) (by size_fits))
  have a:es.size=(ub w S es ep).length:=(Wx S es ep).symm;refine h _ _ _ #[_,_,_,a,λA' Y=>WA Y (c6 G) hd U W (λB=>?_) (λB=>by rw[W.2.2,B];rfl),#[0,#[_,cJ _ Z,Z,Z],bq _ O,λx=>V_ W.1],by simp,λb B=>?_,bb _,λb u e=>bq _ e,Z,Z,bb _] (NC S es ep)
  .rw[B] at J;simpa using J
  .rw[dS];simp only[bM,dB,Ag] at B;obtain rfl|rfl:=B
   .exact#[iH _,.inr (bb _)]
   .exact#[ki G,.inl Z]
end
section
variable {w:aS}
theorem WD{items}{acc}(h:ItemsOf (λi v=>items[i]? =aa v) acc items.length):acc.toList=items:=by
 refine l9 λi=>?_;rw[nk];by_cases B:i<acc.size
 .have:=ni B;rw[this,h.2 i _ this]
 .rw[uF (by simp_all),fz (by rw[<-h.1];simp_all)]
theorem WE(hh:A.handled=ae)(ho:s.heap.get? S=aa o)(hex:o.ExactSet)(hd:o.data=.set es ep t)(hf:t.fits es.size=ai)(ht:fY (!eM w) t)(hz:es.size<=bp){Q:List aE->aT->Prop}(h:∀items s',items.Perm (es.toList.map (·.2))->(∀b u,s.heap.get? b=aa u->s'.heap.get? b=aa u)->s'.gens=s.gens->s'.os=s.os->s.toks<=s'.toks->s.heap.objs.size<=s'.heap.objs.size->Q items s'):aG (aH P w) A (collect (.ref S)) Q E s:=by
 have a:S<s.heap.objs.size:=bA ho;unfold collect;refine aj (Ju (qW F.entry_proto_collect ?_));rw[DH F.plain_proto_collect _];show aG _ A.in1 (C8 [] >>=λl=>again (.builtin "list.__iadd__" #[[l,.ref S],[]])) _ _ s;refine aj (jd ?_);refine aL #[uZ J0 _,qW F.entry_list_iadd ?_];rw[DH J0 _];show aG _ A.in1 (JC (.ref s.heap.objs.size) (.ref S) (.ref s.heap.objs.size)) _ _ _;unfold JC;have J:=bq {cls:=.type "list",data:=.seq ([]:List aE).toArray} ho;have hT1:zN {s with heap:=s.heap.push {cls:=.type "list",data:=.seq ([]:List aE).toArray}} (.ref S) "set":=#[o,J,hex.1]
 refine aj (zC hT1 ?_);rw[aw (by
  rw[show JD (.ref s.heap.objs.size) (.ref S)=az by simp only[JD,kz];exact fh a]
  decide)]
 refine aj (WC (s:={s with heap:=s.heap.push {cls:=.type "list",data:=.seq ([]:List aE).toArray}}) J hex hd hf ht hz λU I items hW B=>?_)
 rcases hW with⟨fp,St,n,rfl,W,hst,hI,hfp,hIs,hk,hg,hos,htk⟩;have O:U.TypeIs (.ref S) "set":=#[o,hk _ _ J,hex.1];refine aj (gE ?_);unfold fi.List.listLengthHint;refine aj (Jw O Ww ?_);generalize hid:("set.__len__":String)=id0;dsimp only;rw[show splitId id0=aa ("set","__len__") from by subst hid;decide +kernel]
 subst hid;dsimp only;refine aj (wU (b:=ai) O (by rw[SG];kernel_rfl) ?_)
 rw[aw (by simp)]
 rw[aC (show _=ai by decide +kernel)]
 refine aj (zC O ?_);refine aL ?_;rw[aC (show _=ai by decide +kernel)]
 refine aj (pf ?_);have hS1:U.heap.get? s.heap.objs.size=aa {cls:=.type "list",data:=.seq ([]:List aE).toArray}:=hk _ _ (cJ _ Z);refine aj ?_;show aG _ A.in1 (updateSeq s.heap.objs.size (·.push .none) >>=λx=>updateSeq s.heap.objs.size (·.pop)) _ _ _;refine aj (Jy hS1 Z ?_);have hS2:=ko (ro (·.push jL)) hS1 Z;refine Jy hS2 Z ?_;have hS3:=ko (ro (·.pop)) hS2 Z;have Y:∀b u,b≠s.heap.objs.size->U.heap.get? b=aa u->((U.heap.update s.heap.objs.size (ro (·.push jL))).update s.heap.objs.size (ro (·.pop))).get? b=aa u:=λb u G e=>(jK _ _ (bG G)).trans ((jK _ _ (bG G)).trans e);have hsz:=dS s.heap {cls:=.type "list",data:=.seq ([]:List aE).toArray};have hSf:s.heap.objs.size∉fp:=λV=>by
  obtain e|e:=(hfp _ V).2
  .exact i_ _ (e▸a)
  .have e:(s.heap.push {cls:=.type "list",data:=.seq ([]:List aE).toArray}).objs.size<=s.heap.objs.size:=e;rw[hsz] at e;exact Nat.not_succ_le_self _ e
 have hIs':s.heap.objs.size+1<=I:=by rw[<-hsz];exact hIs
 have W1:=W A.in1 hh;have hlen:items.length<=bp:=by rw[B.length_eq,aJ,fP];exact hz
 refine aL #[uZ F.plain_extend_loop _,codeAny_extend_loopS W1 hlen _ hSf _ items.length 0 _ _ _ Z (c7 _) (W1.frame 0 U _ U.toks hst (bb _) λb G u e=>Y b u (λz=>hSf (z▸G)) e) hS3 (ItemsOf.nil _) λs' acc c V hS' hacc=>?_];show aG _ A (load s.heap.objs.size >>=_) _ _ s';refine aj (wpAny_load hS' ?_);show aG _ A (pure acc.toList) _ _ s';rw[WD hacc];refine aL (h items s' B (λb u e=>?_) (V.gens.trans hg) (V.os.trans hos) (bF htk V.toks) ?_)
 .have G:=bA e;refine V.heap b u (λz=>?_) (Y b u (c6 G) (hk b u (bq _ e)));obtain z|z:=bM.mp z
  .exact i_ _ (z▸G)
  .rw[cj] at z;exact i_ _ (gy (z▸G) hIs')
 .exact tD (bA hS')
end
section
variable {w:aS}
noncomputable def lH(w:aS):bN:={cls:=.type "set",dict:=ae,data:=.set #[] 0 (.fresh 0 0 (!eM w))}
theorem WG led:fY led (SetTable.fresh 0 0 led):=#[HZ,Z,Z]
theorem WH(e:h.get? a=aa (lH w)):ir P w (!eM w) h a (λy=>False) 0:=
 #[_,_,0,_,e,#[Z,Z,Z],Z,λx hx=>by simp_all,mi,λk=>#[λz=>by simp[mK] at z,False.elim],bb _,by decide,Z,WG _]
theorem WI  a {Q₁}(h:Q₁ (.ref s.heap.objs.size) {s with heap:=s.heap.push (lH w)}):gD (aH P w) A (.call (.builtin "set.__new__") #[[.type "set",a],[]]) (wants Q₁ E) s:=by
 refine zq ?_;refine aj (wW (F.newCall_set_1 a) (aL #[uZ Ta _,qW F.entry_set_new ?_]));unfold fi.«set.__new__» fi.Frozenset.newClass;have B:=sub_set_self;wp_walk
 refine wR (aL ?_);dsimp only;refine aj (Dr (aL ?_));exact aL h
theorem WJ{fp O}{G}{Pv}{St}(W:zk P w A.in1 I fp O G n Pv St) S (hSf:S∉fp) (val:Nat->Int) (U:∀i v,Pv i v->∃t,v=.int (val i) t) (J:n+1<u4):
  ∀k i s,n-i=k->i<=n->St i s->ir P w led s.heap S (λx=>∃j,j<i/\x=val j) i->(∀s',Moved (S::O) G s s'->ir P w led s'.heap S (λx=>∃j,j<n/\x=val j) n->R (.ok (.ret .none)) s')->
   gD (aH P w) A (.builtin "set.update.loop" #[[.ref S,.ref I],[]]) R s:=by
 have hSw:=λh=>hSf (W.sub _ h);have B:∀b∈O,b∈S::O:=λb J=>bI _ J;intro k
 induction k with
 |zero=>
  intro i s hk hi F hS hR;have hin:i=n:=by lia
  subst hin;refine qW IA ?_;refine aj (W.done s _ _ F λs' hm=>?_);exact aL (hR s' (hm.mono B) (hS.keep λo e=>hm.heap S o hSw e))
 |succ k ih=>
  intro i s hk hi F hS hR;have hlt:i<n:=by lia
  refine qW IA ?_;refine aj (W.item i s _ _ hlt F λv s' hP V hm=>?_);obtain⟨t,rfl⟩:=U i v hP;have hS':=hS.keep λo e=>hm.heap S o hSw e;refine aj (gE ?_);refine gE (aj ((intKind P w).pyHash (intKind_is _ _ _ _) ?_));refine add_int hS' (by lia) λy h' Y hS2=>?_
  have hSi:ir P w _ h' S (λx=>∃j,j<i+1/\x=val j) _:=hS2.congr (λx=>#[λz=>?_,λz=>?_]) (bb _) (by lia)
  .refine aL #[uZ SD _,ih _ _ (by grind) hlt (W.frame _ s' _ _ V (qO _) λb J o e=>?_) hSi λs'' a hS''=>?_]
   .rw[Y.2 b (λh=>hSf (h▸J))];omega
   .refine hR _ (Moved.trans W.gtrans ((hm.mono B).then_heap (qO _) λb o J e=>?_) a) hS'';rw[Y.2 b (λh=>J (h▸bH))];omega
  .obtain⟨j,hj,e⟩|e:=z
   .exact#[j,by lia,e]
   .exact#[i,by simp,e]
  .obtain⟨j,hj,e⟩:=z;by_cases c:j=i
   .simp_all
   .exact .inl #[j,by lia,e]
end
section
variable {w:aS}
theorem WK(hh:A.handled=ae)(hl:s.heap.IsList l items)(hi:kj items.toList ns)(hb:items.size+1<u4)(h:∀(h':aU)(tk:Nat),ir P w (!eM w) h' s.heap.objs.size (λx=>x∈ns) items.size->(∀b o,b<s.heap.objs.size->s.heap.get? b=aa o->h'.get? b=aa o)->Q (.ref s.heap.objs.size) {s with heap:=h',toks:=tk}):
  aG (aH P w) A (call (.type "set") [.ref l]) Q E s:=by
 obtain⟨c,tl,hmro⟩:=rh.mro;have hmade:=rh.made;have hsub:=rh.sub;refine rf (zq ?_);show aG _ _ (CU (.type "set") _) _ _ _;refine aL #[wY _ (by decide +kernel),qW F.entry_type_call ?_]
 rw[iI.under_plain (weight_type_call_type "set" [.ref l] []) Z];have h1:=rh.notType;have h2:=rh.canCreate;have hct:=F.typeCall_set_1 (.ref l)
 repeat (any_goals (first|assumption|wp_step))
 refine o9 (WI (.ref l) (E:=E) (Q₁:=λobj O=>obj=.ref s.heap.objs.size/\O={s with heap:=s.heap.push (lH w)}) #[Z,Z]) λr O hr=>?_
 cases r with
 |error e=>exact hr
 |ok fl=>
  cases fl with
  |ret obj=>
   obtain⟨rfl,rfl⟩:=hr;have hS:(s.heap.push (lH w)).get? s.heap.objs.size=aa (lH w):=cJ _ Z;have hT:zN {s with heap:=s.heap.push (lH w)} (.ref s.heap.objs.size) "set":=#[_,hS,Z]
   have hli:=rh.init.lookup;have hbi:=rh.init.bind (.ref s.heap.objs.size)
   repeat (any_goals (first|assumption|wp_step))
   refine o9 (zo (R:=wants (λr J=>r=.none/\∃h' tk,J={s with heap:=h',toks:=tk}/\ir P w (!eM w) h' s.heap.objs.size (λx=>x∈ns) items.size/\(∀b o,b<s.heap.objs.size->s.heap.get? b=aa o->h'.get? b=aa o)) E) rh.init.plain F.entry_set_init (check_set_init_1 hT ?_)) λY J B=>?_
   .obtain⟨ol,hol,hcl,nl,hdl⟩:=hl;obtain⟨ocls,U,odata,G⟩:=ol;simp only at hcl hdl;subst hcl;subst hdl;have hol':(s.heap.push (lH w)).get? l=aa {cls:=.type "list",dict:=U,data:=.seq items nl,slots:=G}:=bq _ hol;have hsls:=F.sub_list_set;have hslf:=F.sub_list_frozenset;have hne:(rq "list"==rq "dict")=az:=by decide
    have hl1:(s.heap.push (lH w)).IsList l items:=#[_,hol',Z,nl,Z];unfold fi.«set.__init__» noKeywords fi.Frozenset.updateFrom;generalize hPI:pb=PI
    wp_walk
    subst hPI;refine DD hl1 (aj (Ju ?_));have hlS:l<s.heap.objs.size:=bA hol;have hh3:A.in1.in1.in1.handled=ae:=by simp[hh]
    have hsz:=dS s.heap (lH w);have hneI:l≠(s.heap.push (lH w)).objs.size:=by rw[hsz];exact c6 (ki hlS)
    have hSf:s.heap.objs.size∉[(s.heap.push (lH w)).objs.size,l]:=by
     rw[hsz];simp only[bM,dB,Ag,Af];exact#[c6 (iH _),fh hlS]
    have a:∀(i:Nat)(v:aE),items[i]? =aa v->∃t,v=.int ((λi=>ns.getD i 0) i) t:=λi v hv=>kj.int_at hi i v (by rw[nk];exact hv)
    refine WJ (led:=!eM w) ((Walks.list hh3 _ l hneI items).toS) s.heap.objs.size hSf (λi=>ns.getD i 0) a hb (items.size-0) 0 _ (by rfl) (c7 _) #[#[_,cJ _ Z,Z,Z],(hl1.push _)] ?hS0 ?hR
    case hS0=>
     refine(WH (P:=P) (w:=w) (bq _ hS)).congr (λk=>#[False.elim,λ⟨j,hj,_⟩=>by lia]) (bb _) (by lia)
    case hR=>
     intro s' hm V;obtain⟨h',g',d',tk',os'⟩:=s';have eg:g'=s.gens:=hm.gens;have ed:d'=s.drawn:=hm.drawn;have eo:os'=s.os:=hm.os;subst eg;subst ed;subst eo;show aG _ _ _ _ _ _;refine aL ?_;show aG _ _ (ret jL) _ _ _;have hlen:items.size=ns.length:=by have:=kj.length hi;rw[fP] at this;exact this
     refine aL #[Z,h',tk',Z,V.congr (λx=>#[λ⟨j,hj,e⟩=>?_,λz=>?_]) (bb _) (by exact Nat.le_of_lt ‹_›),λb o hb e=>?_]
     .rw[e,Hy,aY (by simp_all)];exact ff _
     .obtain⟨j,hj⟩:=kh.mp z;have:=(bx.mp hj).1;exact#[j,by simp_all,by show x=ns.getD j 0;rw[Hy,hj];rfl]
     .have hb2:b≠(s.heap.push (lH w)).objs.size:=by rw[hsz];exact c6 (ki hb)
      exact hm.heap b o (by simp only[bM,dB,Ag,Af];exact#[c6 hb,hb2]) (bq _ (bq _ e))
   .cases Y with
    |error e=>exact B
    |ok W=>
     cases W with
     |ret r=>
      obtain⟨rfl,h',tk,rfl,V,hk'⟩:=B
      repeat (any_goals (first|assumption|wp_step))
      exact h _ _ V hk'
     |_=>exact B.elim
  |_=>exact hr.elim
end
end eL
namespace L2
noncomputable def AS(P:gB)(w:aS)(p:af)(ns:List Int):HO:=.ext λh=>∃n,eL.ir P w (!eL.eM w) h p (λx=>x∈ns) n
theorem WL{w}{p}(x:eL.ir P w (!eL.eM w) h p (λx=>x∈ns) n):dC P w H h p (AS P w p ns):=by
 refine#[#[n,x],?_,λG F ⟨m,y⟩ k=>#[m,y.keep k]];obtain⟨o,es,ep,t,B,_⟩:=x;exact#[o,B]
section
variable {σ:St}
theorem Inv.WM(I:Inv X pins σ H s)(B:s'.os=s.os)(F:s'.gens=s.gens)(w:s'.heap=s.heap):Inv X pins σ H s':=by
 obtain⟨a,b,c,d,e,f,g,h,i,j,k⟩:=I;refine#[a,B.trans b,by simp_all,by simp_all,by rw[w];omega,by rw[w];omega,g,h,by rw[w];omega,by simp_all,k]
end
theorem WN:hA "set"=aa (.type "set"):=by decide +kernel
theorem WO:hA "sorted"=aa (.builtin "sorted"):=by decide +kernel
theorem WQ(Y:X.calm=ai):jQ X (.type "set") (λxs H Q=>∃(a:af)(ns:List _),xs=[.ref a]/\ao X.K H a (ns.map V.int)/\ns.length+1<4096/\∀p,H p=ae->Q (.ref p) (upd H p (AS X.prog X.w p ns))):=by
 intro pins s x H xs us Q I r h;obtain⟨a,ns,rfl,O,B,q⟩:=h;obtain⟨F,J,U,_⟩:=I.list O;rw[Vals.vB r];have G:=J.ints;have hsz:F.toArray.size=ns.length:=by exact G.length
 refine eL.WK (I.ok.hd Y) U.isList G (by rwa[hsz]) λh' tk c W=>?_
 exact#[.ref _,_,I.laid (λb u e=>W b u (bA e) e) (bb _) (WL c),Z,q _ (I.ax.fresh (bb _))]
theorem NF{P}:∀{es},zj (intKind P w) es->kj (es.map (·.2)) (es.map λe=>eL.keyOf e.2)
 |[],_=>.nil
 |e::es,h=>by
  obtain⟨⟨k,F,_⟩,_⟩:=h e bH;obtain⟨t,B⟩:=DQ F;rw[b7,b7,B];exact .cons k t (NF λx hx=>h x (bI _ hx))
theorem WR{vs w}(h:kj vs ns)(p:w.Perm vs):∃G,kj w G/\G.Perm ns:=by
 exists w.map eL.keyOf,?_
 .have O:∀v∈vs,∃k t,v=.int k t:=by
   clear p
   induction h with
   |nil=>exact λv F=>(dB F).elim
   |cons n t U J=>
    intro v F;obtain rfl|F:=bM.mp F
    .exact#[_,_,Z]
    .exact J v F
  have B:=λv F=>O v (p.mem_iff.mp F);clear p
  induction w with
  |nil=>exact .nil
  |cons v w J=>
   obtain⟨k,t,rfl⟩:=B v bH;exact .cons k t (J λx hx=>B x (bI _ hx))
 .have e:vs.map eL.keyOf=ns:=by
   clear p
   induction h with
   |nil=>rfl
   |cons n t U J=>rw[b7,J];rfl
  rw[<-e];exact p.map _
theorem WS(hc:X.calm=ai):jQ X (.builtin "sorted") (λxs H Q=>∃(a:af)(ns:List _),xs=[.ref a]/\H a=aa (AS X.prog X.w a ns)/\∀(B:List _)  p ,B.Nodup->(∀k,k∈B↔k∈ns)->H p=ae->Q (.ref p) (upd H p (.lst (B.map V.int)))):=by
 intro pins s x H xs us Q I r h;obtain⟨a,ns,rfl,hs,q⟩:=h;rw[Vals.vB r];obtain⟨n,o,es,ep,t,ho,hex,hd,hel,hnd,c,hsz,hlt,hf,ht⟩:=(I.ax a _ hs).1;refine Calls.call_function_entry kind_sorted plain_sorted entry_sorted (args_sorted1 _) ?_;refine aj (aL ?_);have hz:=CZ (tE hsz hlt);refine aj (eL.WE (by first|exact I.ok.hd hc|(exact I.ok.hd hc)) ho hex hd hf ht hz λitems s' F hk hg hos htk U=>?_)
 obtain⟨ks,hks,W⟩:=WR (NF hel) F;have G:items.length<=bp:=by rw[F.length_eq,aJ,fP];omega
 refine aj (wpAny_newList ?_ (by omega))
 have O:(s'.heap.push _).get? _=aa (seqObj "list" items.toArray 0):=cJ _ Z;refine aj (gE (iK slot_list_sort #[_,O,Z] entry_list_sort (list_sort_treeAny O hks G λout B h1 h2 h3=>#[_,Z,?_]) (args_list_sort _)));obtain⟨ep',he'⟩:=sortedHeap_at   O;refine aL #[_,Z,?_];have Y:=(h2.trans W).nodup_iff.mpr hnd;have hm':=λk=>(h2.trans W).mem_iff.trans (c k);have hl2:(B.map V.int).length<=bp:=by rw[aJ,(h2.trans W).length_eq];simp_all
 refine#[.ref _,_,?_,Z,q B _ Y hm' (I.ax.fresh U)];have J:=I.laid (o:=.lst _) (t':=s.toks) (λb u e=>?_) U #[hl2,_,_,Md h1,he']
 .exact J.WM hos hg Z
 .have hb:=eW (bA e) U;rw[sortedHeap_old (c6 hb) (bA (bq _ (hk b u e)))];exact bq _ (hk b u e)
end L2
namespace eL
section
variable {w:aS}
theorem WT  d (hd:(d==jc)=az):MeetsIn P w (fi.«dict.items» #[[.ref d],[]]) (λx R s=>(∃o,s.heap.get? d=aa o/\o.cls=.type "dict")/\R (.ok (.ret (.ref s.heap.objs.size))) {s with heap:=s.heap.push {cls:=.type "dict_items",data:=.fields (tAr [.ref d])}}):=
 .of_wp λA R s ⟨⟨o,B,F⟩,h⟩=>by
  refine aj ?_;refine aj (Jq #[o,B,F] ?_);refine aL ?_;delta SQ;rw[aw (by rw[hd];exact cZ)]
  exact aj (aL (aj (jd (aL #[_,Z,h]))))
theorem WU{v}{es}(J:s.heap.IsItemsView v d)(V:s.heap.get? d=aa o)(B:o.data=.dict es ep)(Y:Q (.ref s.heap.objs.size) {s with heap:=s.heap.push {cls:=.type "dict_itemiterator",data:=.fields (tAr [.none,.bool az,.ref d,.int 0 0,.int es.size 0,.int ep 0,.none,.none])}}):aG (aH P w) A (pb (.ref v)) Q E s:=by
 obtain⟨a,O,W,U⟩:=id J;refine DE J.typeIs J8 (iK J8 J.typeIs F.entry_dict_items_iter ?_ (F.args_dict_items_iter_1 _));refine aj (aL (aj ?_));refine aj (eC O U (x:=.ref d) Z (aL (aj ?_)));refine aj (Ds V B (aj (Dt V B ?_)));have G:SU "dict_itemiterator"=ai:=by rfl
 simp only[G,pD];refine jd (aL #[_,Z,_,_,#[_,cJ _ Z,Z],wZ.lookup,?_]) (by simp[sizeOk,JB,bQ])
 simpa[fB,JB] using Y
theorem WV{od}{es}{ok ov}{Q}(hit:uU s.heap it d i es.size ep ok ov)(hod:s.heap.get? d=aa od)(hdd:od.data=.dict es ep)(hx:es[i]? =aa en)(hQ:∀h',SE h' it d (i+1) es.size ep en.key en.val s.heap.objs.size->h'.get? s.heap.objs.size=aa {cls:=.type "tuple",data:=.seq (tAr [en.key,en.val])}->h'.objs.size=s.heap.objs.size+1->(∀b o,b≠it->s.heap.get? b=aa o->h'.get? b=aa o)->Q (aa (.ref s.heap.objs.size)) {s with heap:=h'}):aG (aH P w) A (km (.ref it)) Q E s:=by
 obtain⟨hp,g,dr,tk,os⟩:=s;have hT:zN _ (.ref it) _:=#[_,hit,Z];refine aj (mu (k7 hT wZ (iK wZ hT JT ?_ (JN _))));refine aj (aL ?_);refine aj ?_;refine aj ?_
 first|refine aj (zB hT (aL ?_))|refine aj _
 refine aj (u_ hit Z ?_);show aG _ _ (if (dH d==jL)=ai then _ else _) _ _ _
 refine aj (aL (aj (Ds hod hdd ?_)));rw[aw (by simp)]
 refine aj (aL (aj (Dt hod hdd ?_)));rw[aw (by simp)]
 refine aL ?_;obtain⟨hlt',hen⟩:=nj.mp hx;simp only[cI,ni hlt']
 refine aj ?_
 first|refine aj (zB hT (aL ?_))|refine aj _
 refine aj (Dx hT ?_);show aG _ _ (Dg _ 3 (fB (i+1)) >>=_) _ _ _;refine aj (k_ hit (by simp) λB W U=>?_)
 replace U:jJ it hp B:=U;have hT₁:zN #[B,g,dr,tk,os] (.ref it) _:=#[_,W,Z];refine aj (gE (aj (Dx hT₁ ?_)));refine aj (Dx hT₁ ?_);rw[hen];refine aj (DA ?_);have V:uU (B.push {cls:=.type "tuple",data:=.seq (tAr [en.key,en.val])}) it d _ _ ep ok ov:=bq _ W;generalize a:B.push _=h₂ at V;have Y:=U.1;have hil:=bA hit;have ht₂:h₂.get? hp.objs.size=aa {cls:=.type "tuple",data:=.seq (tAr [en.key,en.val])}:=by rw[<-a,<-Y];exact cJ _ Z
 have hz₂:h₂.objs.size=hp.objs.size+1:=by rw[<-a,dS,Y]
 have hk₂:∀b o,b≠it->hp.get? b=aa o->h₂.get? b=aa o:=λb o hb e=>by rw[<-a];exact bq _ (U.extBut b o hb e)
 show aG _ _ _ _ _ #[_,g,dr,tk,os];rw[Y];refine aj ?_;refine aj (eC V Z (x:=.none) Z (aL ?_));refine aj (eC V Z (x:=ok) Z (aj (eC V Z (x:=ov) Z ?_)));refine aj (k_ V (by simp) λh₃ he₃ O=>?_)
 refine aj (k_ he₃ (by simp) λh₄ he₄ J=>?_)
 replace he₄:uU _ it d _ _ ep _ _:=he₄;refine aj (k_ he₄ (by simp) λh₅ he₅ G=>?_)
 refine aj (k_ he₅ (by simp) λh₆ he₆ F=>?_)
 refine aj (zy (aL (aL #[_,Z,aL (hQ _ he₆ ?_ ?_ ?_)])))
 .exact F.extBut _ _ (fh hil) (G.extBut _ _ (fh hil) (J.extBut _ _ (fh hil) (O.extBut _ _ (fh hil) ht₂)))
 .rw[F.1,G.1,J.1,O.1,hz₂]
 .exact λb o hb e=>F.extBut b o hb (G.extBut b o hb (J.extBut b o hb (O.extBut b o hb (hk₂ b o hb e))))
theorem WW{od}{es}{ok U}{Q}(V:A.handled=ae)(hit:uU s.heap it d i es.size ep ok U)(G:s.heap.get? d=aa od)(J:od.data=.dict es ep)(O:es.size<=i)(W:∀h',Kd it s.heap h'->Q ae {s with heap:=h'}):aG (aH P w) A (km (.ref it)) Q E s:=by
 have B:s.TypeIs (.ref it) _:=#[_,hit,Z];refine aj (mu (k7 B wZ (iK wZ B JT ?_ (JN _))));refine aj (aL ?_);refine aj ?_;refine aj ?_
 first|refine aj (zB B (aL ?_))|refine aj _
 refine aj (u_ hit Z ?_);show aG _ _ (if (dH d==jL)=ai then _ else _) _ _ s
 refine aj (aL (aj (Ds G J ?_)));rw[aw (by simp)]
 refine aj (aL (aj (Dt G J ?_)));rw[aw (by simp)]
 refine aL ?_;simp only[cI,uF O]
 refine aj ?_
 first|refine aj (zB B (aL ?_))|refine aj _
 show aG _ _ (Dg _ 2 _ >>=_) _ _ s;refine aj (k9 hit Z (by simp) ?_)
 refine aj ?_;refine aj (jd ?_ (by size_fits))
 refine aj (wW (a:=jL) (by rfl) ?_)
 refine jd ?_ (by size_fits)
 simp only;refine aj (Dv ?_);rw[V];refine aj (aL (zA ?_));refine aj (wU #[_,cJ _ Z,Z] zr ?_);exact aL (W _ (((rn ..).extBut.push _).push _))
end
end eL
namespace L2
noncomputable def xO(d:af)(o:bN)(kvs:List (List Key×V)):It:=
 #[λi H=>H d=aa (.cE o (.dT kvs))/\i<kvs.length,λi H x B=>∃(T:af)(k:List Key)(v:V)(q:af),kvs[i]? =aa (k,v)/\H q=aa (.tup (k.map kV))/\x=.ref T/\H T=ae/\B=upd H T (.tup [.ref q,v]),λi H=>H d=aa (.cE o (.dT kvs))/\kvs.length<=i]
section
variable {σ:St}
theorem Inv.E_{kvs}(I:Inv X pins σ H s)(h:H d=aa (.cE o (.dT kvs))):
  (d==jc)=az/\s.heap.get? d=aa o/\o.ExactDict/\∃(es:Array _)(ep:Nat),o.data=.dict es ep/\es.size=kvs.length/\∀(i:Nat) k v,kvs[i]? =aa (k,v)->∃(F:uT)(q:af),es[i]? =aa F/\F.key=.ref q/\H q=aa (.tup (k.map kV))/\RelV v F.val:=by
 rcases I.ax d _ h with⟨hd,z,U,xs,G,a,es,ep,J,hx,B,O,_⟩;rw[hd] at J;cases J;refine#[U,hd,hx,es,ep,B,?_,λi k v e=>?_]
 .have l1:=size_of_entries O;have l2:=bS G;simp_all
 .rcases Vl G e with⟨b,W,e1,e2,Y⟩;have q:=entry_at O i;rw[W] at q;exact#[_,_,q,Z,e2,Y]
end
section
variable {w:aS}{es:Array uT}
theorem WY{kvs} it (Y:o.data=.dict es ep):
  Turn P w K (.Tuple elts kk tpos) (xO d o kvs) [it] it (λi h=>∃ok O,uU h it d i kvs.length ep ok O) where
 mem:=by simp
 obj:=λi h st b F=>by
  have e:=by simpa using F
  subst e;obtain⟨ok,O,e⟩:=st;exact#[_,e,λv z=>nomatch z]
 keep:=λi h h' st k=>let ⟨ok,O,e⟩:=st;#[ok,O,k it (by simp) _ e]
 item:=by
  intro X hP hw hK hc i pins s x H E I hf st hg;obtain⟨hd,hi⟩:=hg;rcases I.E_ hd with⟨hs,G,hx,es',ep',B,hsz,ent⟩;obtain⟨rfl,rfl⟩:=AE Y B;obtain⟨⟨k,v⟩,hkv⟩:∃p,kvs[i]? =aa p:=#[_,aY hi];rcases ent i k v hkv with⟨W,q,hen,hkey,hq,rv⟩;obtain⟨ok,O,U⟩:=st;rw[<-hsz] at U;have a:=bA U;refine eL.WV U G B hen λh' ho hT hz hk=>?_;refine#[_,Z,Jm ho λJ he' sb=>?_]
  have hT2:=(sb.2 _ (fh a)).trans hT;have new:dC X.prog X.w (upd H s.heap.objs.size (.tup [.ref q,v])) J _ (.tup [.ref q,v]):=#[by show 2<=bp;decide,_,.cons hkey (.cons rv .nil),_,hT2,Z,_,Z]
  have I1:=I.xF (t':=s.toks) (λb ob F e=>(sb.2 b (by simpa using F)).trans (hk b ob (by simpa using F) e)) hf (bb _) new
  refine#[.ref _,_,I1,Z,#[_,k,v,q,hkv,hq,Z,I.ax.fresh (bb _),Z],#[W.key,W.val,?_],λb F=>?_]
  .rw[<-hsz];omega
  .have e:=by simpa using F
   rw[e,aB (c6 a)];exact(hf it (by simp)).1
 done:=by
  intro X hP hw hK hc i pins s x H E I hf st hg;obtain⟨hd,hi⟩:=hg;obtain⟨f0,f1,f2,f3,f4,f5⟩:=hf it (by simp)
  obtain⟨hs,G,hx,es',ep',B,hsz,ent⟩:=I.E_ hd;obtain⟨rfl,rfl⟩:=AE Y B;obtain⟨ok,O,U⟩:=st;rw[<-hsz] at U;exact eL.WW (I.ok.hd hc) U G B (by simp_all) λh' eb=>#[Z,I.turned (λb ob F e=>eb b ob F e) f0 f1 f3 f4 f5]
 self:=λA i s Q E st h=>let ⟨_,_,e⟩:=st;KN e h
end
inductive NG(R:It->Hp->Prop)(x:V)(H1:Hp):Prop|m:∀d kvs,x=.ref d->H1 d=aa (.dT kvs)->(∀od,R (xO d od kvs) (upd H1 d (.cE od (.dT kvs))))->NG R x H1
def WZ(td:TE):TI:=λσ H R=>td σ H (NG R)
theorem NH(he:PE X e td)(J:o8 e "items" X.env (bT e X.env)=bT e X.env:=by rfl)(G:(apos.endLine==cpos.line)=ai:=by rfl):
  PI X (.Tuple elts kk tpos) (.Call (.Attribute e "items" apos) [] [] cpos) (WZ td):=by
 intro pins s y H R I h;refine Dm (T:="dict") (id:="dict.items") J Z G JZ zG Kb (ba (he pins s y H _ I h) λu F ⟨x,H1,I0,Y,d,kvs,ex,U,c⟩=>?_);subst ex;obtain rfl:u=dH d:=Y;obtain⟨od,W⟩:=I0.lock U trivial;have q:=c od;rcases W.E_ (o:=od) aA with⟨hs,B,hx,es,ep,O,hsz,ent⟩;refine#[#[od,B,hx.1],?_,?_]
 .first|exact#[od,B,hx.2.1]|(intro a V;cases V;exact#[od,B,hx.2.1])|exact λa V=>by cases V;exact#[od,B,hx.2.1]
 have I2:Inv X pins y (upd H1 d (.cE od (.dT kvs))) {F with heap:=F.heap.push {cls:=.type "dict_items",data:=.fields (tAr [.ref d])}}:=W.kept (t':=F.toks) λb ob q=>bq _ q
 have fin:aG (aH X.prog X.w) X.A (pb (.ref F.heap.objs.size)) (PIE X pins y (.Tuple elts kk tpos) R) X.xe {F with heap:=F.heap.push {cls:=.type "dict_items",data:=.fields (tAr [.ref d])}}:=by
  refine eL.WU (d:=d) #[_,cJ _ Z,Z,Z] (bq _ B) O (AD (tk:=F.toks) I2 _ (WY _ O) #[.none,.none,?_] q);rw[<-hsz];exact cJ _ Z
 show aG _ _ (II cpos (.builtin "dict.items") [.ref d] [] []) _ X.xe F;exact Jb zG JU Z (IV #[Z,#[od,B,hx.1],JO _,_,eL.WT d hs,#[od,B,hx.1],fin])
end L2
namespace eL
section
variable {w:aS}
theorem NI{t}{x}(hit:s.heap.IsTupleIter it t i)(J:s.heap.IsTuple t items)(hx:items[i]? =aa x)(U:∀h',h'.IsTupleIter it t (i+1)->jJ it s.heap h'->Q x {s with heap:=h'}):aG (aH P w) A (JE (.ref it)) Q E s:=by
 obtain⟨o,B,O,hd⟩:=id hit;obtain⟨V,F,_,W,G⟩:=J;refine aj (k7 hit.typeIs zI (iK zI hit.typeIs JX ?_ (JR _)));show aG _ _ (field _ 0 >>=_) _ _ s;refine aj (eC B hd (x:=.ref t) Z (aj (eC B hd (x:=.int i 0) Z ?_)));refine aj (kn F G ?_);simp only[cI,hx];exact aj (k9 B hd (by simp) (aL #[x,Z,aL (U _ #[_,ko _ B (tQ (jg hd _)),(zK ..).trans O,by rw[jg hd];rfl] (rn ..))]))
theorem W0{t}(O:A.handled=ae)(hit:s.heap.IsTupleIter it t i)(J:s.heap.IsTuple t items)(hx:items[i]? =ae)(U:∀h' e,Kd it s.heap h'->(∃o,h'.get? e=aa o/\o.cls=.type "StopIteration")->E (.ref e) {s with heap:=h'}):aG (aH P w) A (JE (.ref it)) Q E s:=by
 obtain⟨o,F,Y,hd⟩:=id hit;obtain⟨V,B,_,W,G⟩:=J;refine aj (k7 hit.typeIs zI (iK zI hit.typeIs JX ?_ (JR _)));show aG _ _ (field _ 0 >>=_) _ _ s;refine aj (eC F hd (x:=.ref t) Z (aj (eC F hd (x:=.int i 0) Z ?_)));refine aj (kn B G ?_);simp only[cI,hx];refine aj (pf (aj (k9 F hd (by simp) (aj ?_))));refine aj (jd (aj (wW (a:=jL) (by rfl) ?_)) (by size_fits))
 refine jd ?_ (by size_fits)
 simp only;refine aj (Dv ?_);rw[O];exact aj (aL (zA (U _ _ (((rn ..).extBut.push _).push _) #[_,cJ _ Z,Z])))
theorem W3{TI TO}{k1 k2}{x a b}(D:nz z TI TO i1 i2 l1 l2)(hz:jI s.heap z TI TO .none)(hTI:d8 s.heap TI (.ref i1) (.ref i2))(hTO:d8 s.heap TO a b)(h1:s.heap.IsTupleIter i1 l1 k1)(h2:s.heap.IsListIter i2 l2 k2)(hl1:s.heap.IsTuple l1 xs)(hl2:s.heap.IsList l2 ys)(hx:xs[k1]? =aa x)(hy:ys[k2]? =aa y)(hQ:∀h',jI h' z TI TO (fB s.heap.objs.size)->d8 h' TO x y->h'.IsTupleIter i1 l1 (k1+1)->h'.IsListIter i2 l2 (k2+1)->d8 h' s.heap.objs.size x y->h'.objs.size=s.heap.objs.size+1->(∀c o,c≠z->c≠TO->c≠i1->c≠i2->s.heap.get? c=aa o->h'.get? c=aa o)->Q (.ref s.heap.objs.size) {s with heap:=h'}):
  aG (aH P w) A (fi.«zip.__next__» #[[.ref z],[]]) (λfin s'=>∃v,fin=.done (.ret v)/\Q v s') E s:=by
 show aG _ _ (field _ 2 >>=_) _ _ _;refine aj (eC hz Z (x:=.bool _) Z (aj (eC hz Z (x:=.ref TI) Z (aj (kn hTI Z ?_)))));refine aj (aj (eC hz Z (x:=.none) Z (aL ?_)));refine aj (pf (aj (eC hz Z (x:=.ref TO) Z (aj (k_ hz (by simp) λh₁ hz₁ F=>?_)))))
 refine aj (aj (aj (zz ?_)));refine aj (NI (h1.extBut F.extBut D.i1z) (hl1.extBut F.extBut D.l1z) hx λh₂ h1₂ J=>aL ?_);have hTO₂:=J.extBut _ _ D.TOi1 (F.extBut _ _ D.TOz hTO);refine aj (kn hTO₂ Z (aj (DG hTO₂ λh₃ Y G=>aj (zy (aL ?_)))));refine aj (aj (zz (aj (DB (((h2.extBut F.extBut D.i2z).extBut J.extBut D.i12.symm).extBut G.extBut D.TOi2.symm) (((hl2.extBut F.extBut D.l2z).extBut J.extBut D.l2i1).extBut G.extBut D.l2TO) hy λh₄ h2₄ V=>aL ?_))));have hTO₄:=V.extBut _ _ D.TOi2 Y;refine aj (kn hTO₄ Z (aj (DG hTO₄ λB O U=>?_)));replace O:d8 B TO x y:=O;refine aj (zy (aL (aL (aj (kn O Z (aj (DA ?_)))))));have hsz:B.objs.size=s.heap.objs.size:=by rw[U.1,V.1,G.1,J.1,F.1]
 have hz₅:=U.extBut _ _ D.TOz.symm (V.extBut _ _ D.i2z.symm (G.extBut _ _ D.TOz.symm (J.extBut _ _ D.i1z.symm hz₁)));have hk₅:∀c o,c≠z->c≠TO->c≠i1->c≠i2->s.heap.get? c=aa o->B.get? c=aa o:=λc o c1 c2 c3 c4 e=>U.extBut _ _ c2 (V.extBut _ _ c4 (G.extBut _ _ c2 (J.extBut _ _ c3 (F.extBut _ _ c1 e))));have h1₅:=((h1₂.extBut G.extBut D.TOi1.symm).extBut V.extBut D.i12).extBut U.extBut D.TOi1.symm;have h2₅:=h2₄.extBut U.extBut D.TOi2.symm;have hzlt:=bA hz₅;show aG _ _ (JF _ (.ref B.objs.size) >>=_) _ _ _;refine aj ?_;delta JF;have hz₆:jI (B.push {cls:=.type "tuple",data:=.seq (tAr [x,y])}) z TI TO _:=bq _ hz₅;refine aj (k_ hz₆ (by simp) λh₇ hz₇ hs₇=>?_)
 replace hz₇:=hz₇;refine k_ hz₇ (by simp) λd W hs₈=>?_
 replace W:jI d z TI TO _:=W;have up:∀c o,c≠z->B.get? c=aa o->d.get? c=aa o:=λc o c1 e=>hs₈.extBut _ _ c1 (hs₇.extBut _ _ c1 (bq _ e));have hT₈:=hs₈.extBut _ _ (fh hzlt) (hs₇.extBut _ _ (fh hzlt) (cJ _ Z));have hz8:d.objs.size=B.objs.size+1:=by rw[hs₈.1,hs₇.1,dS]
 rw[hsz] at W hT₈ hz8;refine aL #[_,Z,?_];show Q _ _;rw[hsz];refine hQ d W (up _ _ D.TOz O) ?_ (h2₅.at λo e=>up _ o D.i2z e) hT₈ hz8 λc o c1 c2 c3 c4 e=>up c o c1 (hk₅ c o c1 c2 c3 c4 e);obtain⟨o,ho,r⟩:=h1₅;exact#[o,up _ o D.i1z ho,r]
theorem W4{TI TO}{k1 k2}{a b}{Q}(hh:A.handled=ae)(D:nz z TI TO i1 i2 l1 l2)(hz:jI s.heap z TI TO .none)(hTI:d8 s.heap TI (.ref i1) (.ref i2))(hTO:d8 s.heap TO a b)(h1:s.heap.IsTupleIter i1 l1 k1)(h2:s.heap.IsListIter i2 l2 k2)(hl1:s.heap.IsTuple l1 xs)(hl2:s.heap.IsList l2 ys)(hend:xs[k1]? =ae\/ys[k2]? =ae)(hE:∀h' e,(∀c o,c≠z->c≠TO->c≠i1->c≠i2->s.heap.get? c=aa o->h'.get? c=aa o)->(∃o,h'.get? e=aa o/\o.cls=.type "StopIteration")->E (.ref e) {s with heap:=h'}):
  aG (aH P w) A (fi.«zip.__next__» #[[.ref z],[]]) Q E s:=by
 show aG _ _ (field _ 2 >>=_) _ _ _;refine aj (eC hz Z (x:=.bool _) Z (aj (eC hz Z (x:=.ref TI) Z (aj (kn hTI Z ?_)))));refine aj (aj (eC hz Z (x:=.none) Z (aL ?_)));refine aj (pf (aj (eC hz Z (x:=.ref TO) Z (aj (k_ hz (by simp) λh₁ J B=>?_)))))
 replace J:jI _ z TI TO _:=J;refine aj (aj (aj (zz ?_)));cases hx:xs[k1]? with
 |none=>
  refine aj (W0 hh (h1.extBut B.extBut D.i1z) (hl1.extBut B.extBut D.l1z) hx λV e F he=>?_);obtain⟨oe,O,hce⟩:=he;have Y:=F _ _ D.i1z.symm J;have hez:e≠z:=λx=>by subst x;rw[Y] at O;cases O;simp_all
  exact k_ Y (by simp) λh₃ y G=>hE _ e (λc o c1 y c3 y x=>G.extBut _ _ c1 (F _ _ c3 (B.extBut _ _ c1 x))) #[oe,G.extBut _ _ hez O,hce]
 |some x=>
  have hy:ys[k2]? =ae:=by obtain h|h:=hend;rw[hx] at h;cases h;omega
  refine aj (NI (h1.extBut B.extBut D.i1z) (hl1.extBut B.extBut D.l1z) hx λV h1₂ F=>aL ?_);have U:=F.extBut _ _ D.TOi1 (B.extBut _ _ D.TOz hTO);refine aj (kn U Z (aj (DG U λh₃ hTO₃ G=>aj (zy (aL ?_)))));refine aj (aj (zz (aj (Jp hh (((h2.extBut B.extBut D.i2z).extBut F.extBut D.i12.symm).extBut G.extBut D.TOi2.symm) (((hl2.extBut B.extBut D.l2z).extBut F.extBut D.l2i1).extBut G.extBut D.l2TO) hy λh₄ e hs₄ he=>?_))));obtain⟨oe,O,hce⟩:=he;have W:=hs₄ _ _ D.i2z.symm (G.extBut _ _ D.TOz.symm (F.extBut _ _ D.i1z.symm J));have hez:e≠z:=λx=>by subst x;rw[W] at O;cases O;simp_all
  exact k_ W (by simp) λh₅ y d=>hE _ e (λc o c1 c2 c3 c4 x=>d.extBut _ _ c1 (hs₄ _ _ c4 (G.extBut _ _ c2 (F.extBut _ _ c3 (B.extBut _ _ c1 x))))) #[oe,d.extBut _ _ hez O,hce]
theorem W5{TI TO}{k1 k2}{x a b}{Q}(D:nz z TI TO i1 i2 l1 l2)(hz:jI s.heap z TI TO .none)(J:d8 s.heap TI (.ref i1) (.ref i2))(G:d8 s.heap TO a b)(Y:s.heap.IsTupleIter i1 l1 k1)(W:s.heap.IsListIter i2 l2 k2)(F:s.heap.IsTuple l1 xs)(B:s.heap.IsList l2 ys)(hx:xs[k1]? =aa x)(U:ys[k2]? =aa y)(V:∀h',jI h' z TI TO (fB s.heap.objs.size)->d8 h' TO x y->h'.IsTupleIter i1 l1 (k1+1)->h'.IsListIter i2 l2 (k2+1)->d8 h' s.heap.objs.size x y->h'.objs.size=s.heap.objs.size+1->(∀c o,c≠z->c≠TO->c≠i1->c≠i2->s.heap.get? c=aa o->h'.get? c=aa o)->Q (aa (.ref s.heap.objs.size)) {s with heap:=h'}):
  aG (aH P w) A (km (.ref z)) Q E s:=by
 have O:s.TypeIs (.ref z) _:=#[_,hz,Z];exact aj (mu (k7 O rm (iK rm O zF (W3 D hz J G Y W F B hx U λh' a1 a2 a3 a4 a5 a6 d=>aL (V h' a1 a2 a3 a4 a5 a6 d)) (zE _))))
theorem W6{TI TO}{k1 k2}{a b}{Q}(Y:A.handled=ae)(D:nz z TI TO i1 i2 l1 l2)(hz:jI s.heap z TI TO .none)(O:d8 s.heap TI (.ref i1) (.ref i2))(J:d8 s.heap TO a b)(h1:s.heap.IsTupleIter i1 l1 k1)(h2:s.heap.IsListIter i2 l2 k2)(G:s.heap.IsTuple l1 xs)(F:s.heap.IsList l2 ys)(B:xs[k1]? =ae\/ys[k2]? =ae)(hQ:∀h',(∀c o,c≠z->c≠TO->c≠i1->c≠i2->s.heap.get? c=aa o->h'.get? c=aa o)->Q ae {s with heap:=h'}):aG (aH P w) A (km (.ref z)) Q E s:=by
 have U:s.TypeIs (.ref z) _:=#[_,hz,Z];refine aj (mu (k7 U rm (iK rm U zF (W4 Y D hz O J h1 h2 G F B λh' e W d=>?_) (zE _))));obtain⟨o,V,hc⟩:=d;exact aj (wU #[o,V,hc] zr (aL (hQ _ W)))
noncomputable abbrev zT1(h:aU)(l1:af):aU:=h.push {cls:=.type "tuple_iterator",data:=.fields (tAr [.ref l1,.int 0 0])}
noncomputable abbrev zT2(h:aU)(l1 l2:af):aU:=(zT1 h l1).push {cls:=.type "list_iterator",data:=.fields (tAr [.ref l2,.int 0 0])}
noncomputable abbrev zT3(h:aU)(l1 l2:af):aU:=(zT2 h l1 l2).push {cls:=.type "tuple",data:=.seq (tAr [.ref h.objs.size,.ref (zT1 h l1).objs.size])}
noncomputable abbrev zT4(h:aU)(l1 l2:af):aU:=(zT3 h l1 l2).push {cls:=.type "tuple",data:=.seq (tAr [.none,.none])}
noncomputable abbrev zT5(h:aU)(l1 l2:af):aU:=(zT4 h l1 l2).push {cls:=.type "zip",data:=.fields (tAr [.none,.bool az,.bool az,.ref (zT2 h l1 l2).objs.size,.ref (zT3 h l1 l2).objs.size])}
theorem W7  l1 l2  xs ys :Meets (fi.«zip.__new__» #[[.type "zip",.ref l1,.ref l2],[]]) (λx R s=>s.heap.IsTuple l1 xs/\s.heap.IsList l2 ys/\R (.ok (.ret (.ref (zT4 s.heap l1 l2).objs.size))) {s with heap:=zT5 s.heap l1 l2}):=
 .of_wp λprog w A R s h=>by
  obtain⟨U,g,d,tk,os⟩:=s;obtain⟨F,B,h⟩:=h;have O:=sub_zip;have J:=F;have G:Ke (Td #[U.push {cls:=.type "tuple_iterator",data:=.fields (tAr [.ref l1,.int 0 0])},g,d,tk,os]) l2 ys:=Ke.push B _
  wp_walk using DF J,DD G
  exact#[_,Z,h]
theorem W8(V:s.heap.IsTuple l1 xs)(U:s.heap.IsList l2 ys)(h:∀h',jI h' (s.heap.objs.size+4) (s.heap.objs.size+2) (s.heap.objs.size+3) .none->d8 h' (s.heap.objs.size+2) (.ref s.heap.objs.size) (.ref (s.heap.objs.size+1))->d8 h' (s.heap.objs.size+3) .none .none->h'.IsTupleIter s.heap.objs.size l1 0->h'.IsListIter (s.heap.objs.size+1) l2 0->h'.objs.size=s.heap.objs.size+5->(∀c o,s.heap.get? c=aa o->h'.get? c=aa o)->Q (.ref (s.heap.objs.size+4)) {s with heap:=h'}):
  aG (aH P w) A (call (.type "zip") [.ref l1,.ref l2]) Q E s:=by
 refine callType_new F.called_zip (by rfl) (F.typeCall_zip_2 _ _) (F.newCall_zip_2 _ _) (λobj=>F.args_object_init_3 _ _ _) F.entry_zip_new (W7 l1 l2 xs ys) #[V,U,?_]
 have O:(zT1 _ l1).objs.size=s.heap.objs.size+1:=dS ..;have J:(zT2 s.heap l1 l2).objs.size=s.heap.objs.size+2:=by rw[dS,O]
 have G:(zT3 s.heap l1 l2).objs.size=s.heap.objs.size+3:=by rw[dS,J]
 have B:(zT4 s.heap l1 l2).objs.size=s.heap.objs.size+4:=by rw[dS,G]
 have z5:(zT5 s.heap l1 l2).objs.size=s.heap.objs.size+5:=by rw[dS,B]
 have W:(zT5 _ l1 l2).get? (zT4 s.heap l1 l2).objs.size=aa _:=cJ _ Z;have Y:(zT5 _ l1 l2).get? (zT3 s.heap l1 l2).objs.size=aa _:=bq _ (cJ _ Z);have a:(zT5 _ l1 l2).get? (zT2 s.heap l1 l2).objs.size=aa _:=bq _ (bq _ (cJ _ Z));have g2:(zT5 _ l1 l2).get? (zT1 s.heap l1).objs.size=aa _:=bq _ (bq _ (bq _ (cJ _ Z)));have g1:(zT5 _ l1 l2).get? s.heap.objs.size=aa _:=bq _ (bq _ (bq _ (bq _ (cJ _ Z))));rw[J,G,B] at W;rw[O,J] at a;rw[G] at Y;rw[O] at g2;rw[B];exact#[#[_,W,Z],h _ W a Y #[_,g1,Z,Z] #[_,g2,Z,Z] z5 λc o x=>bq _ (bq _ (bq _ (bq _ (bq _ x))))]
end
end eL
namespace L2
section
variable {w:aS}
theorem W9{x y}{t u}(W:A.handled=ae)(U:s.heap.IsTuple l (tAr [.int x t,.int y u]))(h:∀h' tk t',(∀b o,s.heap.get? b=aa o->h'.get? b=aa o)->Q (.int (if y>x then y else x) t') {s with heap:=h',toks:=tk}):aG (aH prog w) A (call (.builtin "max") [.ref l]) Q E s:=by
 have G:l<s.heap.objs.size:=by obtain⟨_,e,_⟩:=U;exact bA e
 refine call_max_walk (DF U #[_,_,_,2,_,_,_,Z,Walks.tuple (A:=A.in1) W _ l (c6 G) (tAr [.int x t,.int y u]),#[#[_,cJ _ Z,Z,Z],U.push _],λb F=>?_,by simp,CmpOf.ints_gt (λi=>if i=0 then x else y) (λi v B=>?_),λv h' tk O V=>?_])
 .rw[dS];obtain rfl|F:=bM.mp F
  .exact iH _
  .rw[cj] at F;subst F;exact ki G
 .match i,B with
  |0,B=>exact#[t,(bf B).symm]
  |1,B=>exact#[u,(bf B).symm]
  |n+2,B=>simp at B
 .have J:=λb o e=>V b o (λz=>by rw[cj] at z;exact i_ _ (z▸bA e)) (bq _ e)
  have F:CQ (λi j=>decide ((if i=0 then x else y)>(if j=0 then x else y))) (2-1)=if y>x then 1 else 0:=by
   by_cases c:y>x
   .simp[CQ,c]
   .simp[CQ,c]
  rw[F] at O;by_cases c:y>x
  .rw[aC c] at O;have e:v=.int y u:=(bf O).symm;have:=h h' tk u J;rw[aC c] at this;rw[e];omega
  .rw[aw c] at O;have e:v=.int x t:=(bf O).symm;have:=h h' tk t J;rw[aw c] at this;rw[e];omega
end
theorem W_(W:X.calm=ai):jQ X (.builtin "max") (λxs H Q=>∃(a:af)(x y:Int),xs=[.ref a]/\cM X.K H a [.int x,.int y]/\Q (.int (if y>x then y else x)) H):=by
 intro pins s Y H xs us Q I r h;rcases h with⟨a,x,y,rfl,U,q⟩;rcases I.tuple U with⟨J,B,O,_⟩;rw[Vals.vB r];rcases Vals.two B with⟨u1,b,rfl,G,F⟩;obtain⟨t1,rfl⟩:=G;obtain⟨t2,rfl⟩:=F;exact W9 (I.ok.hd W) O λh' tk t' V=>#[.int _,H,I.kept V,#[_,Z],q]
inductive NJ(K:aP)(x:V)(xs:List V)(H:Hp)(Q:VK):Prop|m:∀(a:af)(ns:List Int)(y:Int),x=V.ref a->xs=[.int y]->ao K H a (ns.map V.int)->Q (.int (ns.count y:Nat)) H->NJ K x xs H Q
theorem NK{y}:∀{ns:List _}{us},Vals (ns.map V.int) us->us.countP (rS (.int y))=ns.count y
 |[],us,h=>by
  cases h;rfl
 |n::ns,us,h=>by
  cases h with
  |cons r t=>
   rw[List.countP_cons,Cg,NK t,xu r Z];rfl
theorem Fb(ns:List _):(ns.map V.int).all iR=ai:=by
 rw[jE];intro v B;obtain⟨n,_,rfl⟩:=bK.mp B;rfl
theorem Xa:MtR X "list.count" (NJ X.K):=by
 intro pins s W H x xs v us Q I b B h;obtain⟨a,ns,y,rfl,rfl,hs,q⟩:=h;cases b;cases B with
 |cons Y rt=>
  cases rt;rcases I.list hs with⟨G,J,⟨⟨cls,dd,data,sl⟩,n,O,V,hdn,hd⟩,U⟩;simp only at V hd;subst V hd;refine nB J_ #[_,O,Z] PySem.F.entry_list_count (PySem.F.args_list_count_2 _ _) (SeqAt.list_countAt a _ n dd sl _ _) #[O,λu hu=>t6 Y Z J (Fb ns) u (by simpa using hu),#[.int _,H,I.tok _,#[s.toks,?_],q]];rw[List.toList_toArray,NK J]
noncomputable def xP(K:aP)(a b:af):It:=
 #[λi H=>∃(xs ys:List V)(x y:V),cM K H a xs/\ao K H b ys/\xs[i]? =aa x/\ys[i]? =aa y,
  λi H v B=>∃T x y,v=.ref T/\H T=ae/\B=upd H T (.tup [x,y])/\(∀xs,cM K H a xs->xs[i]? =aa x)/\∀ys,ao K H b ys->ys[i]? =aa y,
  λi H=>∃xs ys:List V,cM K H a xs/\ao K H b ys/\(xs.length<=i\/ys.length<=i)]
theorem Xb{w}{TI TO}(D:nz z TI TO i1 i2 a b):
  Turn P w K (.Tuple elts kk tpos) (xP K a b) [z,TI,TO,i1,i2] z (λi h=>jI h z TI TO .none/\d8 h TI (.ref i1) (.ref i2)/\(∃x y,d8 h TO x y)/\h.IsTupleIter i1 a i/\h.IsListIter i2 b i) where
 mem:=by simp
 obj:=λi h st c hc=>by
  rcases st with⟨hz,B,⟨x,y,F⟩,⟨o1,e1,_,d1⟩,⟨o2,e2,_,d2⟩⟩;have e':=by simpa using hc
  obtain q|q|q|q|q:=e'
  .rw[q];exact#[_,hz,λv q=>nomatch q]
  .rw[q];exact#[_,B,λv q=>nomatch q]
  .rw[q];exact#[_,F,λv q=>nomatch q]
  .rw[q];exact#[o1,e1,λv q=>by simp_all]
  .rw[q];exact#[o2,e2,λv q=>by simp_all]
 keep:=λi h h' st k=>by
  rcases st with⟨hz,B,⟨x,y,F⟩,⟨o1,e1,r1⟩,d⟩;exact#[k z (by simp) _ hz,k TI (by simp) _ B,#[x,y,k TO (by simp) _ F],#[o1,k i1 (by simp) _ e1,r1],d.at λo q=>k i2 (by simp) o q]
 item:=by
  intro X hP hw hK hc i pins s t H E I hf st hg;subst hP hw hK;rcases st with⟨hz,B,⟨x0,y0,F⟩,h1,d⟩;rcases hg with⟨xs,ys,x,y,O,J,hx,hy⟩;rcases I.tuple O with⟨its,rv,p,_⟩;rcases I.list J with⟨U,V,p2,_⟩;rcases rv.get hx with⟨u,hu,ru⟩;rcases V.get hy with⟨u2,hu2,ru2⟩;have hzl:=bA hz;refine eL.W5 D hz B F h1 d p p2.isList (by simpa using hu) (by simpa using hu2) λh' z' TO' h1' h2' hT hsz hk=>#[_,Z,Jn z' λW z'' Y=>?_]
  have hT2:=(Y.2 _ (fh hzl)).trans hT;have new:dC X.prog X.w (upd H s.heap.objs.size (.tup [x,y])) W _ (.tup _):=#[by show 2<=bp;decide,_,.cons ru (.cons ru2 .nil),_,hT2,Z,_,Z]
  have I1:=
   I.xF (t':=s.toks) (λc o G q=>(Y.2 c (λq'=>G (by simp[q']))).trans (hk c o (λq'=>G (by simp[q'])) (λq'=>G (by simp[q'])) (λq'=>G (by simp[q'])) (λq'=>G (by simp[q'])) q)) hf (bb _) new
  have inj:∀l,cM _ H a l->l=xs:=λl hl=>I.Lp hl O;refine#[.ref _,_,I1,Z,#[_,x,y,Z,I.ax.fresh (bb _),Z,λl hl=>by rw[inj l hl];omega,λl hl=>by rw[I.xj hl J];omega],#[z'',?_,#[u,u2,?_],?_,?_],λc hcm=>?_]
  .exact(Y.2 _ D.TIz).trans (hk _ _ D.TIz D.TITO D.TIi1 D.TIi2 B)
  .exact(Y.2 _ D.TOz).trans TO'
  .rcases h1' with⟨o,ho,r⟩;exact#[o,(Y.2 _ D.i1z).trans ho,r]
  .exact h2'.at λo q=>(Y.2 _ D.i2z).trans q
  .have hlt:c<s.heap.objs.size:=by
    have e':=by simpa using hcm
    obtain q|q|q|q|q:=e'
    .rw[q];omega
    .rw[q];exact bA B
    .rw[q];exact bA F
    .rw[q];obtain⟨_,e1,_⟩:=h1;exact bA e1
    .rw[q];obtain⟨_,e2,_⟩:=d;exact bA e2
   rw[aB (c6 hlt)];exact(hf c hcm).1
 done:=by
  intro X hP hw hK hc i pins s t H E I hf st hg;subst hP hw hK;rcases st with⟨hz,B,⟨x0,y0,F⟩,h1,d⟩;rcases hg with⟨xs,ys,O,J,hend⟩;rcases I.tuple O with⟨its,rv,p,_⟩;rcases I.list J with⟨U,V,p2,_⟩;have l1:=rv.length;have l2:=V.length;have he:its.toArray[i]? =ae\/U.toArray[i]? =ae:=by
   simp_all
  exact eL.W6 (I.ok.hd hc) D hz B F h1 d p p2.isList he λh' hk=>#[Z,I.MK (λc o G q=>hk c o (λq'=>G (by simp[q'])) (λq'=>G (by simp[q'])) (λq'=>G (by simp[q'])) (λq'=>G (by simp[q'])) q) hf]
 self:=λA i s Q E st h=>va st.1 h
inductive NL(K:aP)(R:It->Hp->Prop)(vs:List V)(H1:Hp):Prop|m:∀a b xs ys,vs=[.ref a,.ref b]->ao K H1 b ys->((ao K H1 a xs/\R (Itz K a b) H1)\/(cM K H1 a xs/\R (xP K a b) H1))->NL K R vs H1
def Xc(K:aP)(ta:TA):TI:=λB H R=>ta B H (NL K R)
theorem Xd{ta:TA}(hg:Gl X "zip")(hm:X.mg "zip"=ae)(ha:PA X [e,e2] ta)(hs:cq [e,e2] X.env=(az,bT e X.env)::cq [e2] X.env:=by rfl)(bC:(fA pos (cq [e2] X.env)).any (·.1)=az:=by rfl):
  PI X (.Tuple elts kk tpos) (.Call (.Name "zip" p) [e,e2] [] pos) (Xc X.K ta):=by
 intro pins s W H R I h;refine Call_ (rK I hg hm EY (tJ (ba (ha _ _ s W H _ I h) λus B ⟨vs,H1,G,r1,q1⟩=>?_) hs bC));obtain⟨a,b,xs,ys,ex,hqy,q⟩:=q1;subst ex;cases r1 with
 |cons r Y=>
  cases Y with
  |cons r' Y=>
   cases Y;cases r;cases r';obtain⟨its2,rv2,d,_⟩:=G.list hqy;have lb:=d.lt;have free:∀c∈[B.heap.objs.size+4,B.heap.objs.size+2,B.heap.objs.size+3,B.heap.objs.size,B.heap.objs.size+1],B.heap.objs.size<=c:=λc F=>by
    have e':=by simpa using F
    obtain z|z|z|z|z:=e'
    .rw[z];exact kZ _ _
    .rw[z];exact kZ _ _
    .rw[z];exact kZ _ _
    .rw[z];exact bb _
    .rw[z];exact kZ _ _
   obtain⟨J,q⟩|⟨J,q⟩:=q
   .obtain⟨its,rv,V,_⟩:=G.list J;have la:=V.lt;refine CV V.isList d.isList λh' hz U O h1 h2 hsz hk=>va hz ?_;have I2:=G.kept (t':=B.toks) hk
    exact#[_,_,_,_,H1,Z,I2,MP (zS _ a b la lb),#[hz,U,#[_,_,O],h1,h2],λc F=>G.lu (free c F) (G.ax.fresh (free c F)),q]
   .obtain⟨its,rv,V,_⟩:=G.tuple J;have la:=V.lt;refine eL.W8 V d.isList λh' hz U O h1 h2 hsz hk=>va hz ?_;have I2:=G.kept (t':=B.toks) hk
    exact#[_,_,_,_,H1,Z,I2,Xb (zS _ a b la lb),#[hz,U,#[_,_,O],h1,h2],λc F=>G.lu (free c F) (G.ax.fresh (free c F)),q]
end L2
namespace eL
abbrev vF(h:aU)(z TI TO T:af)(b:Bool):Prop:=h.get? z=aa {cls:=.type "zip",dict:=ae,data:=.fields (tAr [fB T,.bool b,.bool az,.ref TI,.ref TO]),slots:=#[]}
section
variable {w:aS}
theorem Xe{Q}(F:s.heap.get? a=aa o)(h:Q (aa o) s):aG M A (Ja a) Q E s:=λB p x=>by
 show Sem.wp M B (.loadIfAlive a _) _ _ _ _;rwa[Sem.wp_loadIfAlive,F]
theorem NM{TI TO}{b}{Q}(hz:vF s.heap z TI TO T b)(J:s.heap.get? T=aa oT)(h:∀h',vF h' z TI TO T ai->jJ z s.heap h'->Q az {s with heap:=h'}):aG (aH P w) A (SV (.ref z)) Q E s:=by
 refine aj (eC hz Z (x:=fB T) Z ?_);show aG _ _ (Ja _ >>=_) _ _ _;refine aj (Xe J ?_);refine aj (eC hz Z (x:=.bool b) Z ?_);cases b with
 |true=>
  exact aL (h _ hz (Kj _ _))
 |false=>
  refine aj (k_ hz (by simp) λG B F=>?_)
  exact aL (h G B F)
theorem Xf{TI TO}{k1 k2}{x}{b}{Q}(D:nz z TI TO i1 i2 l1 l2)(hz:vF s.heap z TI TO T b)(hT:s.heap.get? T=aa oT)(hTI:d8 s.heap TI (.ref i1) (.ref i2))(h1:s.heap.IsListIter i1 l1 k1)(h2:s.heap.IsListIter i2 l2 k2)(hl1:s.heap.IsList l1 xs)(Z:s.heap.IsList l2 ys)(hx:xs[k1]? =aa x)(hy:ys[k2]? =aa y)(hQ:∀h',vF h' z TI TO T ai->h'.IsListIter i1 l1 (k1+1)->h'.IsListIter i2 l2 (k2+1)->d8 h' s.heap.objs.size x y->(∀c o,c≠z->c≠i1->c≠i2->s.heap.get? c=aa o->h'.get? c=aa o)->Q (aa (.ref s.heap.objs.size)) {s with heap:=h'}):aG (aH P w) A (km (.ref z)) Q E s:=by
 have Y:s.TypeIs (.ref z) _:=#[_,hz,rfl];refine aj (mu (k7 Y rm (iK rm Y zF ?_ (zE _))));show aG _ _ (field _ 2 >>=_) _ _ _;refine aj (eC hz rfl (x:=.bool _) rfl ?_);refine aj (eC hz rfl (x:=.ref TI) rfl (aj (kn hTI rfl ?_)));refine aj (NM hz hT λh₁ U B=>?_);refine aj ?_;have h1a:=h1.extBut B.extBut D.i1z;have h2a:=h2.extBut B.extBut D.i2z;refine aj (aj (gE ?_));refine aj (DB h1a (hl1.extBut B.extBut D.l1z) hx λh₂ W F=>aL (aL ?_));refine aj (aj (gE ?_));refine aj (DB (h2a.extBut F.extBut D.i12.symm) ((Z.extBut B.extBut D.l2z).extBut F.extBut D.l2i1) hy λJ V G=>aL (aL (aL ?_)));have O:=G.extBut _ _ D.i2z.symm (F.extBut _ _ D.i1z.symm U);have hsz:J.objs.size=s.heap.objs.size:=by rw[G.1,F.1,B.1]
 show aG _ _ (SJ [x,y] >>=_) _ _ _;refine aj (DA (aL #[_,rfl,aL ?_]));have hT':d8 (J.push {cls:=.type "tuple",data:=.seq (tAr [x,y])}) s.heap.objs.size x y:=by rw[<-hsz];exact cJ _ rfl
 rw[hsz];refine hQ _ (bq _ O) ?_ ?_ hT' λc o c1 c2 c3 e=>bq _ (G.extBut _ _ c3 (F.extBut _ _ c2 (B.extBut _ _ c1 e)))
 .exact(W.extBut G.extBut D.i12).at λo e=>bq _ e
 .exact V.at λo e=>bq _ e
theorem Xg{TI TO}{k1 k2:Nat}{ys:Array aE}{b}{Q}(hh:A.handled=ae)(D:nz z TI TO i1 i2 l1 l2)(hz:vF s.heap z TI TO T b)(hT:s.heap.get? T=aa oT)(W:d8 s.heap TI (.ref i1) (.ref i2))(h1:s.heap.IsListIter i1 l1 k1)(U:s.heap.IsList l1 xs)(hx:xs[k1]? =ae)(hQ:∀h',(∀c o,c≠z->c≠i1->c≠i2->s.heap.get? c=aa o->h'.get? c=aa o)->Q ae {s with heap:=h'}):aG (aH P w) A (km (.ref z)) Q E s:=by
 have G:s.TypeIs (.ref z) _:=#[_,hz,Z];refine aj (mu (k7 G rm (iK rm G zF ?_ (zE _))));show aG _ _ (field _ 2 >>=_) _ _ _;refine aj (eC hz Z (x:=.bool _) Z ?_);refine aj (eC hz Z (x:=.ref TI) Z (aj (kn W Z ?_)));refine aj (NM hz hT λa J B=>?_);refine aj ?_;refine aj (aj (gE ?_));refine aj (Jp (by omega) (h1.extBut B.extBut D.i1z) (U.extBut B.extBut D.l1z) hx λY e F he=>?_)
 obtain⟨oe,O,V⟩:=he;refine aj (wU #[oe,O,V] zr ?_);exact aL (hQ _ λc o c1 c2 c3 e=>F _ _ c2 (B.extBut _ _ c1 e))
end
end eL
namespace L2
theorem Xh:u6 (.type "zip") "keys"=pure ae:=am_miss_of_fast (by first|decide +kernel|rfl)
theorem Xi:u6 (.type "zip") "__getattr__"=pure ae:=by rfl
theorem Xj:wK table "zip.__getattribute__"=aa fi.«object.__getattribute__»:=CY (id':="object.__getattribute__") (by kernel_rfl) (by decide +kernel) (by decide +kernel) (by kernel_rfl)
theorem Xk  a  xs  sl  name  u (G:u6 (.type "zip") name=pure ae)(B:(["__module__","__name__","__qualname__","__doc__","__annotations__"]:List au).contains name=az)(hsz:name.length+100<=bp):
  Meets (fi.«object.__getattribute__» #[[.ref a,.str name u],[]]) (λA R s=>s.heap.get? a=aa {cls:=.type "zip",dict:=ae,data:=.fields xs,slots:=sl}/\raisesAttr (.ref a) name A R s):=
 Meets.of_wp λprog w A R s F=>by
  obtain⟨J,g,d,tk,os⟩:=s;obtain⟨hx,F⟩:=F;have O:(#[J,g,d,tk,os]:aT).TypeIs (.ref a) _:=#[_,hx,Z];repeat (any_goals (first|assumption|wp_step))
  simp only[B,pC]
  repeat (any_goals (first|assumption|wp_step))
  exact wpAny_raiseAttrError F.1 F.2 (attrMsg_fits (by decide +kernel) hsz)
section
variable {w:aS}
theorem Xl{Q}(hx:s.heap.get? a=aa {cls:=.type "zip",dict:=ae,data:=.fields xs,slots:=#[]})(Y:A.handled=ae)(h:∀h' tk,(∀b U,s.heap.get? b=aa U->h'.get? b=aa U)->Q ae {s with heap:=h',toks:=tk}):aG (aH prog w) A (getAttr? (.ref a) "keys") Q E s:=by
 obtain⟨W,g,d,tk,os⟩:=s;have V:∀O,(#[W,g,d,O,os]:aT).TypeIs (.ref a) "zip":=λx=>#[_,hx,Z];have J:=Xh;have G:(["__module__","__name__","__qualname__","__doc__","__annotations__"]).contains "keys"=az:=by decide +kernel
 have hsz:("keys").length+100<=bp:=by first|size_fits|decide +kernel
 have f1:=sub_AttributeError;have f3:=DL.lookup;have f4:=DL.bind (.ref a);have f5:=Xi;delta getAttr? getAttrBy? getAttrBy
 repeat (any_goals (first|assumption|exact V _|((with_reducible show aG _ _ (call (zO "zip.__getattribute__") _ _) _ _ _);refine nB DL (V _) Xj (PySem.F.args_zip_getattribute_2 _ _) (Xk a xs #[] "keys" _ J G hsz) #[hx,Y,λh' O e B=>?_])|wp_step))
 rcases B.there with⟨t',c,he⟩;show aG _ _ (IY _ _ _ _ _ _ _) _ _ _;delta IY
 repeat (any_goals (first|assumption|wp_step))
 all_goals first|exact h _ _ B.keeps|(dsimp only;repeat (any_goals (first|assumption|exact h _ _ B.keeps|wp_step)))
def NN(h:aU)(z TI TO i1 i2:af):Prop:=(jI h z TI TO .none/\∃x y,d8 h TO x y)\/∃T b oT,eL.vF h z TI TO T b/\h.get? T=aa oT/\T≠z/\T≠i1/\T≠i2
theorem NO{R}{S z TI TO i1 i2 l1 l2}{xs ys}{res}(hh:A.handled=ae)(D:nz z TI TO i1 i2 l1 l2)(G:S≠z/\S≠TI/\S≠TO/\S≠i1/\S≠i2/\S≠l1/\S≠l2):
  ∀rest i acc ix t s,xs.size=i+rest.length->acc.length+rest.length<=bp->
   (∀j q,rest[j]? =aa q->∃u:aE,xs[i+j]? =aa u/\ys[i+j]? =aa q.2/\mC q.1 u=ai)->
   (NN s.heap z TI TO i1 i2/\d8 s.heap TI (.ref i1) (.ref i2)/\s.heap.IsListIter i1 l1 i/\s.heap.IsListIter i2 l2 i/\s.heap.IsList l1 xs/\s.heap.IsList l2 ys)->s.heap.DictOf (gH prog w) S acc->
   (∀h' tk,h'.DictOf (gH prog w) S (merged acc rest)->(∀b o,b≠S->b≠z->b≠TO->b≠i1->b≠i2->s.heap.get? b=aa o->h'.get? b=aa o)->R (.ok (.ret res)) {s with heap:=h',toks:=tk})->
   gD (aH prog w) A (.builtin "dict.update.loop" #[[.ref S,.ref z,.int ix t,res],[]]) R s
 |[],i,acc,ix,t,s,hsz,hln,ht,⟨hz,O,h1,h2,J,U⟩,hm,hR=>by
  refine qW MJ ?_;have hx:xs[i]? =ae:=uF (by simp at hsz;simp_all)
  have fin:∀h',(∀c o,c≠z->c≠TO->c≠i1->c≠i2->s.heap.get? c=aa o->h'.get? c=aa o)->aG (aH prog w) A.in1 (fi.Dict.addKeywords S [] >>=λx=>ret _) (λfin s'=>match fin with|.done f=>R (.ok f) s'|.again c'=>c'.quiet=ai/\gD (aH prog w) A c' R s') (λe s'=>R (.error e) s') {s with heap:=h'}:=λh' k=>by
   exact aj (aL (aL (hR h' _ (hm.at λo e=>k S o G.1 G.2.2.1 G.2.2.2.1 G.2.2.2.2.1 e) λb o x b1 b2 b3 b4 e=>k b o b1 b2 b3 b4 e)))
  rcases hz with⟨hz,x0,y0,d⟩|⟨T,b,oT,hz,W,Y,hT1,hT2⟩
  .exact aj (Js hh D hz O d h1 h2 J U (.inl hx) λh' k=>fin h' k)
  .exact aj (eL.Xg (k2:=0) (ys:=#[]) hh D hz W O h1 J hx λh' k=>fin h' λc o c1 x c3 c4 e=>k c o c1 c3 c4 e)
 |q::rest,i,acc,ix,t,s,hsz,hln,ht,⟨hz,O,h1,h2,J,U⟩,hm,hR=>by
  rcases ht 0 q Z with⟨u,hu,hy,hk⟩;rw[uK] at hu hy;rw[bP] at hsz hln;refine qW MJ ?_;rw[DH EV _];show aG _ _ _ _ _ s;have step:∀F,(∀c o,c≠z->c≠TO->c≠i1->c≠i2->s.heap.get? c=aa o->F.get? c=aa o)->d8 F s.heap.objs.size u q.2->NN F z TI TO i1 i2->F.IsListIter i1 l1 (i+1)->F.IsListIter i2 l2 (i+1)->
    aG _ _ (qY [dH s.heap.objs.size] (do
     let pair<-(JA (dH _)).tryCatch λe=>do
      if !(<-uY e (.type "TypeError")) then throw e
      rule "dict.update.element-no-sequence"
      raiseError "TypeError" s!"cannot convert dictionary update sequence element #{ix} to a sequence"
     match pair with
     |[k,v]=>qY [k,v] (dictSet S k v)
     |l=>
      rule "dict.update.element-length"
      raiseError "ValueError" s!"dictionary update sequence element #{ix} has length {l.length}; 2 is required") >>=λx=>again (.builtin _ #[[.ref S,.ref z,fB _,res],[]])) (λfin s'=>match fin with|.done f=>R (.ok f) s'|.again c'=>c'.quiet=ai/\gD _ A c' R s') (λe s'=>R (.error e) s') {s with heap:=F}:=λF k hp hz' h1n h2n=>by
   have hSlt:S<s.heap.objs.size:=by obtain⟨o,es,ep,ho,_⟩:=hm;exact bA ho
   have hm1:=hm.at λo e=>k S o G.1 G.2.2.1 G.2.2.2.1 G.2.2.2.2.1 e;refine aj (gE (aj (wpAny_tryCatch ?_)));delta JA;refine aj (zC #[_,hp,Z] ?_);rw[aC (by rfl)]
   refine aj (kn hp Z (aL ?_));show aG _ A.in1 _ _ _ _;refine gE (wpAny_dictSet_pairs hk hm1 (λV hm2 hs2=>?_) (by lia))
   have B:=λc o hc e=>hs2.extBut c o hc e;refine aL #[uZ EV _,NO (ys:=ys) hh D G _ _ _ (ix+1) 0 _ (show xs.size=i+1+rest.length by lia) ?_ (λj q' e=>?_) #[?_,?_,?_,?_,?_,?_] hm2 λh' tk hd' k'=>?_]
   .have:=stored_length_le acc q.1 q.2;lia
   .rcases ht (j+1) q' (by simpa using e) with⟨u',a1,a2,a3⟩
    refine#[u',?_,?_,a3]
    .rw[show i+1+j=i+ (j+1) by lia];omega
    .rw[show i+1+j=i+ (j+1) by lia];omega
   .rcases hz' with⟨a,x0,y0,b⟩|⟨T,b,oT,a,c,e⟩
    .exact .inl #[B _ _ (bG G.1) a,x0,y0,B _ _ (bG G.2.2.1) b]
    .by_cases hTS:T=S
     .rcases hm2 with⟨o2,_,_,ho2,_⟩;exact .inr #[T,b,o2,B _ _ (bG G.1) a,by rw[hTS];omega,e]
     .exact .inr #[T,b,oT,B _ _ (bG G.1) a,B _ _ hTS c,e]
   .exact B _ _ (bG G.2.1) (k _ _ D.TIz D.TITO D.TIi1 D.TIi2 O)
   .exact h1n.at λo e=>B _ _ (bG G.2.2.2.1) e
   .exact h2n.at λo e=>B _ _ (bG G.2.2.2.2.1) e
   .exact J.at λo e=>B _ _ (bG G.2.2.2.2.2.1) (k _ _ D.l1z D.l1TO D.l1i1 D.l1i2 e)
   .exact U.at λo e=>B _ _ (bG G.2.2.2.2.2.2) (k _ _ D.l2z D.l2TO D.l2i1 D.l2i2 e)
   .exact hR h' tk hd' λb o b0 b1 b2 b3 b4 e=>k' b o b0 b1 b2 b3 b4 (B _ _ b0 (k b o b1 b2 b3 b4 e))
  rcases hz with⟨hz,x0,y0,d⟩|⟨T,b,oT,hz,W,Y,hT1,hT2⟩
  .refine aj (Jt D hz O d h1 h2 J U hu hy λh' z' TO' F V W hsz' k=>?_);have hzl:=bA hz;have hi1:i1<s.heap.objs.size:=by obtain⟨_,e,_⟩:=h1;exact bA e
   have hi2:i2<s.heap.objs.size:=by obtain⟨_,e,_⟩:=h2;exact bA e
   exact step h' k W (.inr #[_,_,_,z',W,fh hzl,fh hi1,fh hi2]) F V
  .have hzl:=bA hz;have hTl:=bA W;exact aj (eL.Xf D hz W O h1 h2 J U hu hy λh' z' F V hp k=>step h' (λc o a1 x a3 a4 e=>k c o a1 a3 a4 e) hp (.inr #[T,_,oT,z',k T oT Y hT1 hT2 W,Y,hT1,hT2]) F V)
theorem Xm{TI TO}(hh:A.handled=ae)(D:nz z TI TO i1 i2 l1 l2)(hz:jI s.heap z TI TO .none)(Y:d8 s.heap TI (.ref i1) (.ref i2))(W:d8 s.heap TO x0 y0)(h1:s.heap.IsListIter i1 l1 0)(h2:s.heap.IsListIter i2 l2 0)(U:s.heap.IsList l1 xs)(O:s.heap.IsList l2 ys)(hsz:xs.size=prs.length)(hln:prs.length<=bp)(ht:∀(j:Nat) q,prs[j]? =aa q->∃u:aE,xs[j]? =aa u/\ys[j]? =aa q.2/\mC q.1 u=ai)(h:∀h' tk,h'.DictOf (gH prog w) s.heap.objs.size (merged [] prs)->(∀b o,b≠z->b≠TO->b≠i1->b≠i2->s.heap.get? b=aa o->h'.get? b=aa o)->Q (.ref s.heap.objs.size) {s with heap:=h',toks:=tk}):
  aG (aH prog w) A (call (.type "dict") [.ref z]) Q E s:=by
 refine callType_codes (Q₁:=λobj G=>obj=.ref _/\G={s with heap:=s.heap.push _}) PySem.F.kt_called_dict (PySem.F.kt_typeCall_dict_1 _) PySem.F.entry_dict_init (kt_code_dict_new _ #[Z,Z]) ?_
 rintro obj G ⟨rfl,rfl⟩;have B:(s.heap.push _).DictOf (gH prog w) _ []:=Kh _;have k0:∀b o,s.heap.get? b=aa o->(s.heap.push {cls:=.type "dict",data:=.dict #[]}).get? b=aa o:=λb o e=>bq _ e;exists B.typeIs,PySem.F.args_dict_init_2 _ _;refine aj (aj (Jq B.typeIs ?_));refine aL ?_;show aG _ _ (SR _ _ _ [] _) _ _ _;refine aj (zC  #[_,k0 _ _ hz,Z] (aj (Xl (k0 _ _ hz) hh λa tk1 V=>?_)));refine aj (pf ?_);have k1:∀b o,s.heap.get? b=aa o->a.get? b=aa o:=λb o e=>V _ _ (k0 _ _ e);refine aj (va (k1 _ _ hz) ?_);have lt:∀{b}{o},s.heap.get? b=aa o->s.heap.objs.size≠b:=λe=>fh (bA e);have e1:s.heap.objs.size≠i1:=by obtain⟨_,e,_⟩:=h1;exact lt e
 have e2:s.heap.objs.size≠i2:=by obtain⟨_,e,_⟩:=h2;exact lt e
 have e3:s.heap.objs.size≠l1:=by obtain⟨_,e,_⟩:=U;exact lt e
 have e4:s.heap.objs.size≠l2:=by obtain⟨_,e,_⟩:=O;exact lt e
 have key:=NO (A:=A.in1) (R:=wants (λr J=>r=.none/\Q _ J) E) hh D #[lt hz,lt Y,lt W,e1,e2,e3,e4] _ 0 [] 0 0 {s with heap:=a,toks:=tk1} (by rw[hsz,o7]) (by simp_all)
  (λj q e=>by rw[o7];exact ht j q e) #[.inl #[k1 _ _ hz,x0,y0,k1 _ _ W],k1 _ _ Y,h1.at λo e=>k1 _ _ e,h2.at λo e=>k1 _ _ e,U.at λo e=>k1 _ _ e,O.at λo e=>k1 _ _ e] (B.at λo e=>V _ _ e)
  (λh' tk hd' k=>#[Z,h h' tk hd' λb o b1 b2 b3 b4 e=>k b o (bG (lt e)) b1 b2 b3 b4 (k1 _ _ e)])
 first
  |exact aL #[uZ EV _,key]
  |exact aj _
end
noncomputable def nY(ks:List Int)(ys:List V):List (Key×V):=tu (ks.map fV) ys
inductive NP(K:aP)(Q:VK)(vs:List V)(H1:Hp):Prop|m:∀a b ks ys,vs=[.ref a,.ref b]->ao K H1 a (ks.map V.int)->ao K H1 b ys->ks.length=ys.length->(∀p,H1 p=ae->Q (.ref p) (upd H1 p (.dK (lC [] (nY ks ys)))))->NP K Q vs H1
def Xn(K:aP)(ta:TA):TE:=λB H Q=>ta B H (NP K Q)
theorem Xo:hA "dict"=aa (.type "dict"):=by decide +kernel
set_option tactic.hygienic true in
theorem NQ:∀{ks}{ys}{us ws},Vals (ks.map V.int) us->Vals ys ws->ks.length=ys.length->∃prs:List _,KV (nY ks ys) prs/\prs.length=us.length/\∀(j:Nat) q,prs[j]? =aa q->∃u:aE,us[j]? =aa u/\ws[j]? =aa q.2/\mC q.1 u=ai
 |[],ys,us,ws,B,G,F=>by
  cases B;exact#[[],.nil,Z,λj q e=>by simp at e]
 |k::ks,[],us,ws,B,G,F=>by simp at F
 |k::ks,y::ys,us,ws,B,G,F=>by
  cases B with
  |cons r1 Y=>
   cases G with
   |cons a W=>
    rename_i u U J O;obtain⟨prs,a1,a2,a3⟩:=NQ Y W (by simpa using F)
    refine#[(fV k,J)::prs,.cons #[Z,a] a1,by simp_all,λj q e=>?_]
    cases j with
    |zero=>
     have e':=bf e;subst e';obtain⟨t,rfl⟩:=r1;exact#[_,Z,Z,by simp[mC,mv]]
    |succ j=>exact a3 j q (by simpa using e)
section
variable {ta:TA}
theorem Xp(O:X.calm=ai)(hgd:Gl X "dict")(hmd:X.mg "dict"=ae)(hg:Gl X "zip")(hm:X.mg "zip"=ae)(ha:PA X [e,e2] ta)(hs:cq [e,e2] X.env=(az,bT e X.env)::cq [e2] X.env:=by rfl)(bC:(fA pos' (cq [e2] X.env)).any (·.1)=az:=by rfl)(V:cq [.Call (.Name "zip" p') [e,e2] [] pos'] X.env=(az,bT (.Call (.Name "zip" p') [e,e2] [] pos') X.env)::cq [] X.env:=by rfl)(W:(fA pos (cq [] X.env)).any (·.1)=az:=by rfl):
  PE X (.Call (.Name "dict" p) [.Call (.Name "zip" p') [e,e2] [] pos'] [] pos) (Xn X.K ta):=by
 intro pins s x H Q I h;refine Call_ (rK I hgd hmd Xo (tJ ?_ V W));show aG _ _ (Dh ((az,bT _ _)::fA _ _)) _ _ s;refine zD ?_;refine Call_ (rK I hg hm EY (tJ (ba (ha _ _ s x H _ I h) λus F ⟨vs,H1,U,r1,a,b,ks,ys,ex,hqx,hqy,Y,q⟩=>?_) hs bC));subst ex;obtain⟨u1,u2,rfl,ra,rb⟩:=Vals.two r1;obtain rfl:u1=dH a:=ra;obtain rfl:u2=dH b:=rb;obtain⟨its,rv,p1,G⟩:=U.list hqx;obtain⟨its2,rv2,p2,hz2⟩:=U.list hqy;have la:=p1.lt;have lb:=p2.lt;refine CV p1.isList p2.isList λh' hz hTI hTO h1 h2 hsz hk=>?_;refine DJ ?_;obtain⟨prs,rel,B,hpr⟩:=NQ rv rv2 Y;have J:=rv.length;refine Xm (prs:=prs) (U.ok.hd O) (zS _ a b la lb) hz hTI hTO h1 h2 (p1.isList.at λo e=>hk _ _ e) (p2.isList.at λo e=>hk _ _ e) (by simp[B]) (by rwa[B,<-J]) (λj q' e=>?_) λh'' tk hd' k=>?_
 .obtain⟨u,a1,a2,a3⟩:=hpr j q' e;exact#[u,by simpa using a1,by simpa using a2,a3]
 .have I2:=U.kept (t':=F.toks) hk
  have hm:=kz.mpr (fh I2.big);have hl2:(lC [] (nY ks ys)).length<=bp:=by
   refine bF (MG _ []) ?_;rw[uI,o7,rel.length,B,<-J];omega
  have keep:∀c o,F.heap.get? c=aa o->h''.get? c=aa o:=λc o e=>by
   have hc:=bA e;have ne:∀n,c≠F.heap.objs.size+n:=λn=>c6 (eW hc (kZ _ _));exact k c o (ne 4) (ne 3) (ne 0) (ne 1) (hk c o e)
  have d:F.heap.objs.size<=h'.objs.size:=by rw[hsz];simp
  exact#[.ref _,upd H1 _ (.dK _),U.laid keep d (#[hl2,hm,_,KV.merge rel .nil,hd']),Z,q _ (U.ax.fresh d)]
end
theorem gi:dR X (nA .Mult) (rI CO λi j=>.int (i*j)):=opI λx x x x x x x w q=>mul_int q w
theorem kF(hd:X.A.depth+DI<u0)(O:X.prog.given.tree=ae)(w:X.stack=X.env::X.outer:=by rfl)(B:X.env.scope.isGenerator=az:=by rfl)(F:X.env.scope.isCoroutine=az:=by rfl):dR X (nA .FloorDiv) (rI (λz j=>0<j) λi j=>.int (i/j)):=by
 intro pins s V H x y v u Q I J G h;obtain⟨i,j,rfl,rfl,U,q⟩:=h;obtain⟨t,rfl⟩:=J;obtain⟨t',rfl⟩:=G;refine Iw (by lia) #[.int (i/j),H,I.tok _,#[s.toks,?_],q] (.inr (Kn I.nolimit hd (Ko I.seer O (by rw[<-w];exact I.ok.frames) B F I.ok.blt I.ok.glob)));rw[Hb i (yK U)]
theorem dn.pP(w:dn k A)(B:40<=k):A.depth+DI<u0:=by
 have:=w.dp;show A.depth+100<u0;lia
noncomputable def rZ(h:aU)(d:g_)(u:aE):Bool:=@decide (∃e w,Reads h u e w/\e.canLay0=ai/\hJ e d=ai) (Cc _)
theorem NR{d e:g_}{F:List af}(r:Reads h u e F)(c:e.canLay0=ai):rZ h d u=hJ e d:=by
 delta rZ;by_cases z:hJ e d=ai
 .rw[z];exact @bX _ (Cc _) #[e,F,r,c,z]
 .rw[Bool.not_eq_true] at z;rw[z];refine @bO _ (Cc _) λ⟨J,B,G,O,w⟩=>?_;rw[<-SeqAt.Reads.unique e J u F B c r G,z] at w;cases w
theorem AU{A:iI}{pins:List (af×bN)}{Z:St}{H:Hp}{s:aT}{d:g_}{x:aE}{bs:List af}(I:Inv X pins Z H s)(O:Reads s.heap x d bs)(J:ku d=ai)(w:A.units+64<gC):
  ∀{xs:List V}{ds:List g_}{us:List aE},gg X.K H xs ds->Vals xs us->(∀e∈ds,ku e=ai)->(∀u∈us,hU A s u x (rZ s.heap d u))/\us.any (rZ s.heap d)=(ds.any λe=>hJ e d)
 |_,_,_,.nil,.nil,_=>#[λu w=>absurd w (by simp),rfl]
 |_,e::ds,u::us,.cons h1 h2,.cons r1 r2,W=>by
  obtain⟨as,U⟩:=Dp.reads I e _ u h1 r1;have B:=W e bH;obtain⟨i1,i2⟩:=AU I O J w h2 r2 λe he=>W e (bI _ he);have Y:=NR (d:=d) U (zL B);refine#[λG F=>?_,by rw[l7,l7,Y,i2]]
  obtain z|z:=bM.mp F
  .subst z;rw[Y];exact SeqAt.eqAt_reads e d A s G x as bs U O (zL B) (zL J) (SeqAt.room_of_shaped B w)
  .exact i1 G z
inductive AV(K:aP)(neg:Bool)(x:V)(y:V)(H:Hp)(Q:VK):Prop|m:∀p xs ds d,y=.ref p->ao K H p xs->gg K H xs ds->Dp K H x d->ku d=ai->(∀e∈ds,ku e=ai)->(Q (.bl (if neg then !(ds.any λe=>hJ e d) else ds.any λe=>hJ e d)) H)->AV K neg x y H Q
theorem NS(W:X.A.in1.units+64<gC):dR X (hG .In) (AV X.K az):=by
 intro pins s z H x y v u Q I U O h;obtain⟨p,xs,ds,d,rfl,Y,F,hd,J,G⟩:=h;cases O;obtain⟨B,r,pl,hz⟩:=I.list Y;obtain⟨bs,V⟩:=Dp.reads I d x v hd U;obtain⟨h1,a⟩:=AU I V J W F r G;refine Kp _ pl.isList (λw hw=>h1 w (by simpa using hw)) #[.bl _,H,I,Z,?_]
 rwa[show B.toArray.any _=B.any (rZ s.heap d) by simp,a]
theorem Xq(W:X.A.in1.units+64<gC):dR X (hG .NotIn) (AV X.K ai):=by
 intro pins s z H x y v u Q I U O h;obtain⟨p,xs,ds,d,rfl,Y,F,hd,J,G⟩:=h;cases O;obtain⟨B,r,pl,hz⟩:=I.list Y;obtain⟨bs,V⟩:=Dp.reads I d x v hd U;obtain⟨h1,a⟩:=AU I V J W F r G;refine Kr _ pl.isList (λw hw=>h1 w (by simpa using hw)) #[.bl _,H,I,Z,?_]
 rwa[show B.toArray.any _=B.any (rZ s.heap d) by simp,a]
theorem gg.get{K}:∀{xs}{ds}{j:Nat}{e},gg K H xs ds->ds[j]? =aa e->∃x,xs[j]? =aa x/\Dp K H x e
 |_,_,_,_,.nil,h=>by simp at h
 |_,_,0,_,.cons G _,h=>by simp at h;subst h;exact#[_,Z,G]
 |_,_,j+1,_,.cons _ F,h=>by
  obtain⟨x,B,w⟩:=gg.get F (by simpa using h)
  exact#[x,by simpa using B,w]
theorem gg.length{K}{H}:∀{xs}{ds},gg K H xs ds->xs.length=ds.length
 |_,_,.nil=>Z
 |_,_,.cons _ w=>by rw[bP,bP,gg.length w]
inductive NT(K:aP)(x:V)(vs:List V)(H:Hp)(Q:VK):Prop|m:∀(p:af)(xs:List V)(ds:List g_)(y:V)(d e:g_)(j:Nat),x=.ref p->vs=[y]->ao K H p xs->gg K H xs ds->Dp K H y d->ku d=ai->(∀e∈ds,ku e=ai)->ds[j]? =aa e->hJ e d=ai->(∀(m:Nat)(e':g_),m<j->ds[m]? =aa e'->hJ e' d=az)->Q (.int (j:Nat)) H->NT K x vs H Q
theorem Xr(Z:X.A.units+128<gC):MtR X "list.index" (NT X.K):=by
 intro pins s a H x xs v us Q I rx V h;rcases h with⟨p,xs',ds,y,d,e,j,rfl,rfl,hs,B,hd,sd,ss,hj,hje,hno,q⟩;cases rx;obtain⟨uy,rfl,ry⟩:=Vals.one V;rcases I.list hs with⟨w,W,⟨⟨cls,dd,data,sl⟩,n,ho,hc,hdn,O⟩,hlen⟩;simp at hc O;subst hc O;obtain⟨bs,rd⟩:=Dp.reads I d y uy hd ry;have at_:∀m U (hm:m<w.toArray.size),ds[m]? =aa U->rZ _ d w.toArray[m]=hJ U d:=λm U hm J=>by
  obtain⟨z,hz,hdz⟩:=B.get J;obtain⟨u,Z,ru⟩:=W.get hz;obtain⟨as,ra⟩:=Dp.reads I U z u hdz ru;have e1:w.toArray[m]=u:=by
   obtain⟨_,h2⟩:=bx.mp Z;simpa using h2
  rw[e1];exact NR ra (zL (ss U (dg J)))
 have hl1:=W.length;have hl2:=B.length;have hjl:=(bx.mp hj).1;have G:j<w.toArray.size:=by rw[dG];simp_all
 have hsl:=bQ;refine nB zH #[_,ho,rfl] JW (JQ ..)
   (Kq p _ n dd sl uy (rZ s.heap d) j G (by lia) ?_ ?_) #[ho,λu' Y=>?_,?_]
 .rwa[at_ j e G hj]
 .intro m hm hmj;have F:m<ds.length:=by simp_all
  rw[at_ m _ hm (aY F)];exact hno m _ hmj (aY F)
 .exact(AU I rd sd (by first|exact tE _ Z|(simp[SO];lia)) B W ss).1 u' (by simpa using Y)
 .exact#[.int j,H,I.tok _,#[_,rfl],q]
inductive NU(K:aP)(x:V)(vs:List V)(H:Hp)(Q:VK):Prop|m:∀l b xs zs,x=.ref l->vs=[.ref b]->H l=aa (.lst xs)->H b=aa (.tup zs)->xs.length+zs.length<=bp->Q .bB (upd H l (.lst (xs ++zs)))->NU K x vs H Q
theorem Xs l items n b B U dd sl (V:¬(!items.isEmpty&&wX (items.size+B.size))=ai)(J:items.size<=bp)(G:items.size+B.size<=bp+1):
  Meets (fi.«list.extend» #[[.ref l,.ref b],[]]) (λy R s=>s.heap.get? l=aa {cls:=.type "list",dict:=ae,data:=.seq items n,slots:=#[]}/\s.heap.get? b=aa {cls:=.type "tuple",dict:=dd,data:=.seq B U,slots:=sl}/\R (.ok (.ret jL)) {s with heap:=s.heap.update l (ro λx=>x ++B),toks:=s.toks}):=
 .of_wp λprog w A R s h=>by
  obtain⟨O,W,h⟩:=h;have f4:=AutoSeq1.sub_tuple_list;have a:=AutoSeq1.sub_list_tuple;have F:(items ++B).size<=bp+1:=by rwa[Array.size_append]
  wp_walk using(PySem.wpAny_updateSeq O Z (hz:=J)),Jz O,Jz W;exact#[_,Z,h]
theorem Fc:MtM X "list.extend" (NU X.K):=by
 intro pins s y H x vs v us Q I U V h;rcases h with⟨l,b,xs,zs,rfl,rfl,O,hB,hz,q⟩;cases U;obtain⟨u,rfl,W⟩:=V.one;cases W;obtain⟨z,B,n,r,hl,e⟩:=I.rT O;rcases I.tuple (cM.of hB) with⟨w,J,⟨⟨cls,dd,data,sl⟩,e2,G,Y,hd2⟩,a⟩;simp only at G hd2;subst G hd2;have hl2:=J.length;have hsz:B.toArray.size+w.toArray.size<=bp:=by rw[dG,dG];simp_all
 have F:¬(!B.toArray.isEmpty&&wX (B.toArray.size+w.toArray.size))=ai:=by
  rw[EI hsz,B_];exact cZ
 refine nB rj #[_,e,Z] JV (JP _ _)
  (Xs l B.toArray n b w.toArray Y dd sl F (by rw[dG];simp_all) (by lia)) #[e,e2,#[.bB,_,I.Au (its':=B ++w) O e (by simp) (r.append J) ?_,Z,q]]
 rw[b6];omega
inductive NV(X:Cx)(CX:mI)(k:Nat)(ps:List au)(E:XK)(t:TA)(σ:St)(Q:VK)(x:V)(H1:Hp):Prop|m:∀f fd sp,x=.ref f->aV X.prog X.w X.K X.mg X.base CX k f fd ps sp->nE X.K (.ref f)=ai->Binds X.K fd ps []->(t σ H1 λvs H2=>sp vs H2 Q E)->NV X CX k ps E t σ Q x H1
def Xt(X:Cx)(CX:mI)(k:Nat)(ps:List au)(E:XK)(tn:TE)(t:TA):TE:=λw H Q=>tn w H (NV X CX k ps E t w Q)
section
variable {E:XK}{es:List bW}{t:TA}
theorem Xu(V:dn k X.A)(hx:Passes CX X E)(W:PE X (.Name x p) tn)(ha:PA X (e::es) t)(Z:cq (e::es) X.env=(az,bT e X.env)::cq es X.env:=by rfl)(bC:(fA pos (cq es X.env)).any (·.1)=az:=by rfl):
  PE X (.Call (.Name x p) (e::es) [] pos) (Xt X CX k ps E tn t):=by
 intro pins s w H Q I h;refine q_ (ba (W pins s w H _ I h) λu J ⟨v,H1,G,O,f,fd,sp,ev,F,Y,hb,q⟩=>?_);subst ev;obtain rfl:u=dH f:=O;exact zP (h₀:=X.base) G.ok.mod.kin Y (ba (ha pos pins J w H1 _ G q) λus s1 ⟨vs,H2,B,r,U⟩=>#[B.dN,ED (ds:=[]) (dvs:=[]) F V hb .nil hx B r (by rw[l8];exact U)]) Z bC
end
noncomputable def intKeys(es:Array uT):Bool:=es.toList.all λe=>match e.key with
 |.int k _=>e.hash==hashInt k
 |_=>az
inductive NW(K:aP)(Q:VK)(x:V)(y:V)(H2:Hp):Prop|m:∀a es ep k u v,x=.ref a->y=.int k->K.lookup a=aa #[.type "dict",ae,.dict es ep,#[]]->intKeys es=ai->tK mv es k=aa u->RelV v u->Q v H2->NW K Q x y H2
def Xv(K:aP)(td ty:TE):TE:=λw H Q=>td w H λx H1=>ty w H1 (NW K Q x)
section
variable {o i:bW}{ty:TE}
theorem NX(ho:PE X o td)(hi:PE X i ty)(hs:EU i):PE X (.Subscript o i pos) (Xv X.K td ty):=by
 intro pins s B H Q I h;refine MC J7.lookup hs (ba (ho _ s B H _ I h) λu U ⟨x,H1,I1,W,q1⟩=>ba (hi _ U B H1 _ I1 q1) λiv O ⟨y,H2,J,V,a,es,ep,k,w',v,ex,ey,lk,ik,fb,Y,b⟩=>?_);subst ex ey;obtain rfl:u=dH a:=W;obtain⟨t,rfl⟩:=V;have F:O.heap.MapOf (intKind X.prog X.w) a (tK mv es):=by
  refine#[_,es,ep,J.dN _ _ lk,#[Z,Z,Z],Z,λe he=>?_,λz=>Z];have:=jE.mp ik e (by simpa using he)
  cases G:e.key with
  |int k t=>rw[G] at this;exact#[k,by simp[PySem.intKind,mv],eq_of_beq this]
  |_=>rw[G] at this;cases this
 exact#[F.typeIs,Jl (by simp[PySem.intKind,mv]) F fb #[v,H2,J.tok _,Y,b]]
end
theorem c_:hA "len"=aa (.builtin "len"):=by decide +kernel
theorem Xw:hA "ord"=aa (.builtin "ord"):=by decide +kernel
theorem NY:hA "str"=aa (.type "str"):=by decide +kernel
theorem Xx:hA "abs"=aa (.builtin "abs"):=by decide +kernel
theorem xQ:hA "sum"=aa (.builtin "sum"):=by decide +kernel
theorem Xy:hA "min"=aa (.builtin "min"):=by decide +kernel
theorem Fe:hA "max"=aa (.builtin "max"):=by decide +kernel
theorem Xz:hA "list"=aa (.type "list"):=by decide +kernel
theorem bZ{i:Int}(B:Gl X x)(w:∃t,X.mg x=aa (.int i t))(hd:(x==("__debug__":au))=az:=by decide):PE X (.Name x pos) (tC (.int i)):=by
 obtain⟨t,e⟩:=w;exact vq B e #[t,Z] hd
theorem pQ{z:au}(B:Gl X x)(w:∃t,X.mg x=aa (.str z t))(hd:(x==("__debug__":au))=az:=by decide):PE X (.Name x pos) (tC (.str z)):=by
 obtain⟨t,e⟩:=w;exact vq B e #[t,Z] hd
def Wm(Pv:St->Hp->Prop)(B:St->Hp->Nat):Nat->St->Hp->Prop:=λm w H=>Pv w H/\m=B w H
theorem AW{tb}{w} Pv F (U:Pv w H) (O:∀w H,Pv w H->c w H λb H1=>if b=ai then ∃N:St->Hp->Prop,(∀B J,N B J->∃G,G<F w H/\Wm Pv F G B J)/\tb {D with nx:=N,ct:=N,bk:=D.nx} w H1 else D.nx w H1):Ak c tb D w H:=
 #[Wm Pv F,#[_,U,Z],λm w H ⟨h,e⟩=>by subst e;exact O w H h]
theorem Ff{tb}{w}(Pv O:St->Hp->Prop) F (V:Pv w H) (U:(∀w H,O w H->D.nx w H)->∀w H,Pv w H->c w H λb H1=>if b=ai then ∃N:St->Hp->Prop,(∀B J,N B J->∃G,G<F w H/\Wm Pv F G B J)/\tb {D with nx:=N,ct:=N,bk:=D.nx} w H1 else D.nx w H1) (hd:∀w H,O w H->D.nx w H):Ak c tb D w H:=AW Pv F V (U hd)
theorem turn{tb:TS}{G}{Pv}{F}(h:tb {D with nx:=λw B=>Pv w B/\F w B<m,ct:=λw B=>Pv w B/\F w B<m,bk:=D.nx} G H):
  ∃N:St->Hp->Prop,(∀w B,N w B->∃J,J<m/\Wm Pv F J w B)/\tb {D with nx:=N,ct:=N,bk:=D.nx} G H:=
 #[_,λw B ⟨U,O⟩=>#[_,O,U,Z],h]
def LcK(J:It)(g:TG)(te:TE)(vs:List Nat)(G:St)(H1:Hp)(Q:VK):Prop:=∀D,H1 D=ae->∃W:Nat->Nat->Hp->Prop,(∃m,W 0 m (upd H1 D (.lst [])))/\∀i m H,W i m H->
 (J.stop i H/\Q (.ref D) H)\/(J.go i H/\∃F:Hp->Prop,(∀B,F B->∃O,O<m/\W (i+1) O B)/\∀x B,J.kA i H x B->g x (wipe G vs) B λw Y=>wipe w vs=wipe G vs/\xB w Y λb V=>
  if b=ai then te w V λy U=>∃acc,U D=aa (.lst acc)/\acc.length<bp/\F (upd U D (.lst (acc++[y]))) else F V)
theorem AX{J:It}{g:TG}{vs:List Nat}{w:St}{H1:Hp}{Q:VK}(n:Nat)(Pv:af->Nat->Hp->Prop)(h0:∀D,H1 D=ae->Pv D 0 (upd H1 D (.lst [])))(U:∀D i H,i<n->Pv D i H->J.go i H)(G:∀D H,Pv D n H->J.stop n H)(hs:∀D i H,i<n->Pv D i H->∀x B,J.kA i H x B->g x (wipe w vs) B λF Z=>wipe F vs=wipe w vs/\te F Z λy Y=>∃acc,Y D=aa (.lst acc)/\acc.length<bp/\Pv D (i+1) (upd Y D (.lst (acc++[y]))))(hm:∀x w H (P W:St->Hp->Prop),(∀w H,P w H->W w H)->g x w H P->g x w H W)(hd:∀D H,Pv D n H->Q (.ref D) H):LcK J g te vs w H1 Q:=λD hD=>by
 refine#[λi m H=>i<=n/\m=n-i/\Pv D i H,#[n,c7 _,rfl,h0 D hD],λi m H ⟨h1,h2,O⟩=>?_];by_cases V:i<n
 .refine .inr #[U D i H V O,λB=>Pv D (i+1) B,λB q=>#[n-(i+1),by grind,by assumption,rfl,q],λx B hy=>hm x (wipe w vs) B _ _ (λF Z q=>?_) (hs D i H V O x B hy)];refine#[q.1,?_];simp only[xB,↓reduceIte];exact q.2
 .obtain rfl:i=n:=by lia
  exact .inl #[G D H O,hd D H O]
theorem Fg:∀x w H P B,(∀w H,P w H->B w H)->aR i x w H P->aR i x w H B:=λy y y y y h q=>h _ _ q
theorem cX{t u}{w} k (F:∀Q,Q k H->c w H Q) (B:if k=ai then t D w H else u D w H):Eo c t u D w H:=F _ B
theorem XB{w}{Q} k (F:∀Q,Q k H->c w H Q) (B:Q k H):c w H Q:=F _ B
theorem XC{t:TE}{Q} v B (G:∀Q,Q v B->t w H Q) (F:Q v B):t w H Q:=G _ F
theorem uc{t u}{Q} k l (F:∀Q,Q k H->t w H Q) (B:k=az->∀Q,Q l H->u w H Q) (h:Q (k ||l) H):tOr t u w H Q:=by
 apply F _;cases k
 .exact br (B Z _ h)
 .exact bu h
theorem r0{t u}{Q} k l (F:∀Q,Q k H->t w H Q) (B:k=ai->∀Q,Q l H->u w H Q) (h:Q (k&&l) H):Lm t u w H Q:=by
 apply F _;cases k
 .exact br h
 .exact bu (B Z _ h)
theorem pR{t u}{B} k (G:∀Q,(∀w,ag H w->Q k w)->c B H Q) (F:∀w,ag H w->if k=ai then t D B w else u D B w):Eo c t u D B H:=G _ F
theorem ag.new{p}{o}(h:H p=ae):ag H (upd H p o):=λb u e=>by rwa[aB (bc e h)]
theorem ag.xR{w}{xs}(e:ag H w)(h:cM K H a xs):cM K w a xs:=by
 rcases h with(h|⟨o,h⟩)|h
 .exact .inl (.inl (e _ _ h))
 .exact .inl (.inr #[o,e _ _ h])
 .exact .inr h
section
variable {E:XK}{a b:bW}{es:List bW}{tb:TE}{t:TA}{f:af}
def aM(i:Nat)(G:PE X e te)(J:X.N.Nodup:=by exact nD)(B:X.N[i]? =aa x:=by rfl)(hx:Loc X.env.scope x:=by first|exact zg Z|exact wA Z)(w:pd e (aa (.Name x pos')) pos.line X.env=pure az:=by rfl)(F:X.fn x=ai\/X.env.scope.names.lookup x=aa .local:=by first|exact .inl Z|exact .inr Z|assumption):=T1 J B hx G w F
def bJ(i:Nat)(F:X.N.Nodup:=by exact nD)(w:X.N[i]? =aa x:=by rfl)(hx:Loc X.env.scope x:=by first|exact zg Z|exact wA Z)(B:X.fn x=ai\/X.env.scope.names.lookup x=aa .local:=by first|exact .inl Z|exact .inr Z|assumption):=TU (pos:=pos) F w hx B
def ek{N:List au}(D:nR X.K (X.mg x=aa (.ref f)) x q N i st f fd)(F:aV X.prog X.w X.K X.mg X.base CX k f fd (N.take i) sp)(hx:Passes CX X E)(O:PA X (e::es) t)(hr:dn j X.A:=by exact hr)(B:k<=j:=by decide)(G:Gl X x:=by rfl)(hd:(x==("__debug__":au))=az:=by decide)(J:cq (e::es) X.env=(az,bT e X.env)::cq es X.env:=by rfl)(bC:(fA pos (cq es X.env)).any (·.1)=az:=by rfl):=EE (p:=p) F (hr.mono B) G D.m D.g.kp D.b .nil hx O hd J bC
def a_{N:List au}(D:nR X.K (X.mg x=aa (.ref f)) x q N i st f fd)(F:aV X.prog X.w X.K X.mg X.base bo k f fd (N.take i) sp)(O:PA X (e::es) t)(hr:dn j X.A:=by exact hr)(B:k<=j:=by decide)(G:Gl X x:=by rfl)(hd:(x==("__debug__":au))=az:=by decide)(J:cq (e::es) X.env=(az,bT e X.env)::cq es X.env:=by rfl)(bC:(fA pos (cq es X.env)).any (·.1)=az:=by rfl):=EE (p:=p) F (hr.mono B) G D.m D.g.kp D.b .nil iT O hd J bC
def pMk{M:Prop}{y:au}{N:List au}(D:nR X.K M y q N i st f fd)(L:Mk X.K C f)(B:X.mg x=aa (.ref C))(F:aV X.prog X.w X.K X.mg X.base bo k f fd (N.take i) sp)(U:PA X (e::es) t)(hr:dn j X.A:=by exact hr)(G:k+1<=j:=by decide)(J:Gl X x:=by rfl)(hd:(x==("__debug__":au))=az:=by decide)(O:cq (e::es) X.env=(az,bT e X.env)::cq es X.env:=by rfl)(bC:(fA pos (cq es X.env)).any (·.1)=az:=by rfl):=Uy (p:=p) L F (hr.mono G) J B D.b .nil iT U hd O bC
theorem vw.c9{N P:List au}{w:fS}(_:vw N P w)(O:scope.kind=.function:=by rfl)(J:∀y∈scope.names,scope.names.lookup y.1=aa y.2:=by decide +kernel)(G:∀p∈own,N[p.2]? =aa p.1:=by decide +kernel)(F:∀y∈scope.names,y.2=.free->w.names.lookup y.1=aa .cell\/w.names.lookup y.1=aa .free:=by decide +kernel)(B:∀y∈scope.names,y.2=.local\/y.2=.cell->y.1∈own.map (·.1)\/y.1∉N:=by decide +kernel):t7 N w scope own:=#[O,J,G,F,B]
def bt(hr:ly X r)(F:PE X a ta)(B:PE X b tb)(w:L4 b:=by exact λx x=>Z):=UE (pos:=pos) hr F B w
theorem bE{A:Prop}(h:A:=by first|(rintro _ _ _ _ ⟨⟩;subst_vars;rfl)|(rintro _ _ _ _ ⟨_,rfl,_⟩;rfl)|(rintro _ _ _ _ ⟨_,_,rfl,_⟩;rfl)|(rintro _ _ _ _ ⟨_,_,_,rfl,_⟩;rfl)):A:=h
theorem AY{w:Type}{l:List w}(h:l.length=2):∃a b,l=[a,b]:=match l,h with|[_,_],_=>#[_,_,Z]
theorem len3{w:Type}{l:List w}(h:l.length=3):∃a b c,l=[a,b,c]:=match l,h with|[_,_,_],_=>#[_,_,_,Z]
theorem len4{w:Type}{l:List w}(h:l.length=4):∃a b c d,l=[a,b,c,d]:=match l,h with|[_,_,_,_],_=>#[_,_,_,_,Z]
theorem cb{n:Nat}(h:n.ble 999=ai:=by rfl):n<=bp:=by have:=Nat.le_of_ble_eq_true h;rw[bQ];lia
theorem dq{n:Nat}(h:n.ble 999=ai:=by rfl):n<1000:=by have:=Nat.le_of_ble_eq_true h;lia
theorem dW{j k:Nat}{A:iI}(h:dn j A)(e:k<=j:=by decide):dn k A:=h.mono e
end
end L2
end
section
variable {m:Model}{A B M b d g i j n:Nat}{l:List Int}{c:Column}{ch:List cx}{cs:List Column}{a:Int}{ls:List (List Int)}{k:eE}{W:Nat->Nat}{l':cB}{ks:List eE}{v:Val}{T:List (List Int×Nat)}{t:Tok}{x:h_}{raws:List ic}{r:cA}
namespace CC
open VaprbBase
noncomputable def pS:Nat->cA->Nat
 |0,_=>0
 |_+1,[]=>0
 |n+1,b::r=>if kx b=ai then 1+pS n r else if (b==35)=ai then 1+ (r.takeWhile (·!=10)).length+pS n (r.dropWhile (·!=10)) else 0
noncomputable def skip(r:cA):Nat:=pS r.length r
theorem vG{e:Type} p:∀l:List e,l.dropWhile p=l.drop (l.takeWhile p).length
 |[]=>Z
 |a::l=>by
  cases h:p a with
  |true=>simp[Hn,qI,h,vG p l]
  |false=>simp[Hn,qI,h]
theorem r6{e:Type} p:∀l:List e,(l.takeWhile p).length<=l.length
 |[]=>bb _
 |a::l=>by
  cases h:p a with
  |true=>simp[qI,h,r6 p l]
  |false=>simp[qI,h]
theorem ud{e:Type} p (l:List e):(l.dropWhile p).length<=l.length:=by
 simp[vG]
theorem Fh:∀n m r,r.length<=n->r.length<=m->pS n r=pS m r
 |0,0,_,_,_=>Z
 |0,m+1,r,h,_=>by cases r with|nil=>rfl|cons b r=>simp at h
 |n+1,0,r,_,h=>by cases r with|nil=>rfl|cons b r=>simp at h
 |n+1,m+1,[],_,_=>Z
 |n+1,m+1,b::r,f,e=>by
  have p:=by simpa using f
  have o:=by simpa using e
  have d:=ud (·!=10) r;simp only[pS];rw[Fh n m r p o,Fh n m _ (by exact Nat.le_trans ‹_› ‹_›) (by exact Nat.le_trans ‹_› ‹_›)]
theorem XD:skip []=0:=Z
theorem AZ{b}(h:kx b=ai):skip (b::r)=1+skip r:=by
 simp[skip,pS,h]
theorem A0{b}(e:kx b=az)(h:(b==35)=ai):skip (b::r)=1+ (r.takeWhile (·!=10)).length+skip (r.dropWhile (·!=10)):=by
 simp only[skip,bP,pS,e,h,pD,wh,pC];rw[Fh _ _ _ (ud _ _) (bb _)]
theorem A1{b}(e:kx b=az)(h:(b==35)=az):skip (b::r)=0:=by
 simp[skip,pS,e,h,pC]
theorem A2{l}{k}(h:token l=aa (t,k)):1<=k/\k<=l.length:=by
 delta token at h;cases l with
 |nil=>simp at h
 |cons b r=>
  simp only at h
  split at h
  .rename_i p
   split at h
   .cases h
   .injection h with h;injection h with o e
    subst e;refine#[?_,r6 _ _];simp[qI,p]
  .split at h
   .rename_i p;cases f:tT _ _ with
    |none=>rw[f] at h;cases h
    |some n=>
     rw[f] at h;injection h with h;injection h with o e
     subst e;refine#[?_,r6 _ _];simp[qI,p]
   .split at h
    .split at h
     .rename_i q;injection h with h;injection h with o e
      subst e;cases r with
      |nil=>simp at q
      |cons c r=>exact#[by simp,by simp]
     .cases f:tT ai (r.takeWhile dh) with
      |none=>simp_all
      |some n=>
       rw[f] at h;injection h with h;injection h with o e
       subst e;have:=r6 dh r;exact#[by simp,by rw[bP];simp_all]
    .split at h
     .injection h with h;injection h with o e
      subst e;exact#[bb _,by simp]
     .cases h
theorem xS:∀n m at_ r,r.length<n->r.length<m->lex n at_ r=lex m at_ r
 |0,_,_,r,h,_=>absurd h (ny _)
 |_+1,0,_,r,_,h=>absurd h (ny _)
 |n+1,m+1,at_,[],_,_=>Z
 |n+1,m+1,at_,b::r,o,f=>by
  have q:=by simpa using o
  have p:=by simpa using f
  have d:=ud (·!=10) r;simp only[lex];rw[xS n m _ r q p,xS n m _ _ (by exact Nat.lt_of_le_of_lt ‹_› ‹_›) (by exact Nat.lt_of_le_of_lt ‹_› ‹_›)]
  cases e:token _ with
  |none=>rfl
  |some x=>
   have:=A2 e;simp only;rw[xS n m _ _ (by rw[gY,bP];grind) (by rw[gY,bP];omega)]
noncomputable def jW(at_:Nat)(r:cA):Except Fault cB:=lex (r.length+1) at_ r
theorem XE{at_:Nat}{b:UInt8}{r:cA}(f:kx b=az)(h:(b==35)=az):jW at_ (b::r)=match token (b::r) with
  |none=>.error #[2,at_]
  |some (t,k)=>(jW (at_+k) ((b::r).drop k)).map λl=>#[at_,t]::l:=by
 simp only[jW,lex,f,h,wh,pC];cases e:token _ with
 |none=>rfl
 |some x=>
  have:=A2 e;simp only;rw[xS _ _ _ _ (by rw[gY,bP];omega) (iH _)]
theorem A3:∀n at_ r,r.length<=n->jW at_ r=jW (at_+skip r) (r.drop (skip r))
 |_,at_,[],_=>Z
 |0,_,b::r,h=>by simp at h
 |n+1,at_,b::r,h=>by
  have q:=by simpa using h
  by_cases f:kx b=ai
  .rw[AZ f,qK 1,wq,<-tw,Nat.add_right_comm,<-A3 n _ r q];simp[jW,lex,f]
  .have f:=by simpa using f
   by_cases o:(b==35)=ai
   .have d:=ud (·!=10) r;have p:=A3 n (at_+1+ (r.takeWhile (·!=10)).length) (r.dropWhile (·!=10)) (by exact Nat.le_trans ‹_› ‹_›)
    rw[A0 f o];have e:(b::r).drop (1+ (r.takeWhile (·!=10)).length+skip (r.dropWhile (·!=10)))=(r.dropWhile (·!=10)).drop (skip (r.dropWhile (·!=10))):=by
     rw[tw,qK 1,wq,<-kS,<-vG]
    rw[e,<-tw,<-tw,<-p];simp only[jW,lex,bP,f,o,pC];exact xS _ _ _ _ (by lia) (iH _)
   .have o:(b==35)=az:=by simpa using o
    rw[A1 f o];rfl
theorem A4:∀n r,r.length<=n->skip r<=r.length
 |_,[],_=>bb _
 |0,b::r,h=>by simp at h
 |n+1,b::r,h=>by
  have p:=by simpa using h
  by_cases f:kx b=ai
  .rw[AZ f,bP];have:=A4 n r p;lia
  .have f:=by simpa using f
   by_cases o:(b==35)=ai
   .have d:=ud (·!=10) r;rw[A0 f o,bP];have:=A4 n (r.dropWhile (·!=10)) (by exact Nat.le_trans ‹_› ‹_›)
    have e:=vG (·!=10) r;have q:(r.dropWhile (·!=10)).length=r.length-(r.takeWhile (·!=10)).length:=by rw[e,gY]
    have:=r6 (·!=10) r;omega
   .have o:(b==35)=az:=by simpa using o
    rw[A1 f o];exact c7 _
theorem A5:∀n (r:cA),r.length<=n->∀b q,r.drop (skip r)=b::q->kx b=az/\(b==35)=az
 |_,[],_,b,q,e=>by simp at e
 |0,b::r,h,_,_,_=>by simp at h
 |n+1,b::r,h,c,q,e=>by
  have s:=by simpa using h
  by_cases f:kx b=ai
  .rw[AZ f,qK 1,wq] at e;exact A5 n r s c q e
  .have f:=by simpa using f
   by_cases o:(b==35)=ai
   .have d:=ud (·!=10) r;rw[A0 f o,tw,qK 1,wq,<-kS,<-vG] at e;exact A5 n _ (by exact Nat.le_trans ‹_› ‹_›) c q e
   .have o:(b==35)=az:=by simpa using o
    rw[A1 f o] at e;injection e with p u
    subst p;exact#[f,o]
theorem Fi{e:Type}{p}{b:List e}{x}{r}(hd:b.drop j=x::r)(h:p x=ai):((b.drop j).takeWhile p).length=1+ ((b.drop (j+1)).takeWhile p).length:=by
 have:b.drop (j+1)=r:=by
  have:=congrArg (Ci 1) hd;rwa[kS] at this
 rw[this,hd,tr h,bP];lia
theorem NZ{e:Type}{p}{b:List e}{x}{r}(hd:b.drop j=x::r)(h:p x=az):((b.drop j).takeWhile p).length=0:=by
 simp_all
theorem N0{e:Type}{p}{b:List e}(h:b.length<=j):((b.drop j).takeWhile p).length=0:=by
 rw[wm h];rfl
theorem Fj{e:Type} p:∀l:List e,l.take (l.takeWhile p).length=l.takeWhile p
 |[]=>Z
 |x::l=>by
  cases h:p x with
  |true=>simp[qI,h,Fj p l]
  |false=>simp[qI,h]
theorem N1{f:Type} p:∀l:List f,∀x∈l.takeWhile p,p x=ai
 |[],x,h=>by simp at h
 |y::l,x,h=>by
  cases e:p y with
  |true=>
   rw[tr e] at h;obtain z|z:=bM.mp h
   .subst z;omega
   .exact N1 p l x z
  |false=>rw[CI (by simp[e])] at h;simp at h
noncomputable def ue(l:cA)(t:Nat):Nat:=l.foldl (λn b=>10*n+ (b.toNat-48)) t
theorem acs l:decimal l=ue l 0:=Z
theorem N2:∀l t,t*10^l.length<=ue l t
 |[],t=>by simp[ue]
 |x::l,t=>by
  show t*10^(l.length+1)<=ue l _;refine bF ?_ (N2 l _);rw[zb,d5 (10^l.length),<-jF,d5 t 10];exact ja _ (kZ _ _)
noncomputable def toldOf(l:cA):Int:=l.foldl (λt x=>t*10+ ((x.toNat:Int)-48)) 0
theorem N3:∀l t,(∀x∈l,dh x=ai)->l.foldl (λt x=>t*10+ ((x.toNat:Int)-48)) t=(ue l t)
 |[],t,_=>Z
 |x::l,t,h=>by
  have hx:=h x bH;have hx:=rF hx;show l.foldl _ (t*10+ ((x.toNat:Int)-48))=(ue l _);rw[show(t:Int)*10+ (x.toNat-48)=((10*t+ (x.toNat-48):Nat)) by lia]
  exact N3 l _ λy e=>h y (bI _ e)
theorem XF{l}(h:∀x∈l,dh x=ai):toldOf l=(decimal l):=N3 l 0 h
noncomputable def Fl(neg:Bool)(l:cA):Option Int:=if l.head? =aa 48/\(neg=ai\/1<l.length) then ae else if 1000000000<toldOf l then ae else aa (if neg=ai then -toldOf l else toldOf l)
theorem XG{neg:Bool}{l:cA}(C:l≠[])(h:∀x∈l,dh x=ai):Fl neg l=tT neg l:=by
 unfold Fl tT;rw[XF h];cases l with
 |nil=>exact absurd Z C
 |cons x r=>
  have hx:=rF (h x bH);have q:(x.toNat-48)*10^r.length<=decimal (x::r):=by
   show _<=ue r (10*0+ (x.toNat-48));rw[y_,o7];exact N2 r _
  have e:(x=48)↔x.toNat=48:=#[λz=>by simp_all,λz=>D1.mp z]
  simp only[HE,uR,bP];by_cases hz:x=48
  .have p:=e.mp hz;by_cases o:1<r.length+1
   .rw[aC #[hz,.inr o],aC (.inr (.inr #[o,hz]))]
   .have w:r=[]:=by
     simp_all
    have hd:decimal [x]=0:=by show 10*0+ (x.toNat-48)=0;simp_all
    simp_all
  .have p:1<=x.toNat-48:=by
    have:x.toNat≠48:=λz=>hz (e.mpr z);grind
   have f:=bF (by have:=ja (10^r.length) p;rwa [jG] at this) q
   have s:=eW (Nat.pow_pos (by simp)) f
   rw[aw (by intro z;exact hz z.1)]
   by_cases o:10<r.length+1
   .have:10^10<=decimal _:=bF (oZ (by decide) (by exact Nat.le_of_lt_succ ‹_›)) f
    rw[aC (show(1000000000:Int)<(decimal _) by lia),aC (.inr (.inl o))]
   .have D:¬((x::r)=[]\/10<r.length+1\/1<r.length+1/\x=48):=by
     rintro(z|z|z)
     .exact absurd z (by simp)
     .exact o z
     .exact hz z.2
    rw[aw D];have E:D5=1000000000:=Z;by_cases u:D5<decimal (x::r)
    .rw[aC (show(1000000000:Int)<(decimal _) by lia),aC (.inl u)]
    .rw[aw (show ¬(1000000000:Int)<(decimal _) by lia),aw (show ¬(D5<decimal _\/neg=ai/\decimal _=0) from λz=>z.elim u (λz=>by simp_all))]
def pT(x:h_):Prop:=match x.tok with
 |.name b=>∃c r,b=c::r/\ky c=ai
 |.num _=>True
 |.sign s=>s=1\/∃z∈SIGNS,s=z.toNat
 |.halt_=>True
inductive jX(l:cB):Prop|m:∀p,l.getLast? =aa #[p,.halt_]->jX l
theorem jX.ne{l}(h:jX l):l≠[]:=by
 obtain⟨p,h⟩:=h;intro z;simp_all
theorem jX.tail{l:cB}(h:jX (x::l))(hx:x.tok≠.halt_):jX l:=by
 obtain⟨p,h⟩:=h;cases l with
 |nil=>injection h with h;subst h;exact absurd Z hx
 |cons y l=>exact#[p,by rw[HC] at h;omega]
theorem jX.cons{l}(h:jX l):jX (x::l):=by
 obtain⟨p,h⟩:=h;cases l with
 |nil=>cases h
 |cons y l=>exact#[p,by rw[HC];omega]
theorem XH{l}{k p}(h:token l=aa (t,k)):pT #[p,t]:=by
 unfold token at h;cases l with
 |nil=>simp at h
 |cons b r=>
  simp only at h
  split at h
  .rename_i q
   split at h
   .cases h
   .injection h with h;injection h with e o
    subst e;refine#[b,_,tr (by simp[q]),q]
  .split at h
   .cases f:tT _ _ with
    |none=>rw[f] at h;cases h
    |some n=>rw[f] at h;injection h with h;injection h with e o;subst e;trivial
   .split at h
    .split at h
     .injection h with h;injection h with e o;subst e;exact .inl Z
     .cases f:tT ai (r.takeWhile dh) with
      |none=>simp_all
      |some n=>rw[f] at h;injection h with h;injection h with e o;subst e;trivial
    .split at h
     .rename_i s;injection h with h;injection h with e o;subst e
      exact .inr #[b,by simpa using s,Z]
     .cases h
theorem A6:∀n at_ r f,lex n at_ r=.ok f->jX f/\(∀x∈f,pT x)/\f.length<=r.length+1
 |0,at_,r,f,h=>by
  injection h with h;subst h
  exact#[#[_,Z],by simp[pT],by simp]
 |n+1,at_,[],f,h=>by
  injection h with h;subst h
  exact#[#[_,Z],by simp[pT],by simp]
 |n+1,at_,b::r,f,h=>by
  simp only[lex] at h
  split at h
  .obtain⟨q,p,u⟩:=A6 n _ r f h;exact#[q,p,by rw[bP];lia]
  .split at h
   .obtain⟨q,p,u⟩:=A6 n _ _ f h;have:=ud (·!=10) r;exact#[q,p,by rw[bP];lia]
   .split at h
    .cases h
    .rename_i t k o;cases s:lex n _ _ with
     |error e=>rw[s] at h;cases h
     |ok l=>
      rw[s] at h;injection h with h;subst h
      obtain⟨q,p,u⟩:=A6 n _ _ l s;have w:=A2 o;exists q.cons,λx hx=>?_
      .obtain z|z:=bM.mp hx
       .subst z;exact XH o
       .exact p x z
      .rw[gY] at u;rw[bP];lia
theorem XI{b}{e}(h:tokens b=.ok e):jX e/\(∀x∈e,pT x)/\e.length<=b.length+1:=by
 unfold tokens at h
 split at h
 .cases h
 .exact A6 _ _ _ _ h
noncomputable def nZ(c:Nat):cA:=if c=1 then[45,62] else[pq c]
noncomputable def content:Tok->Option cA
 |.name b=>aa b
 |.num _=>ae
 |.sign s=>aa (nZ s)
 |.halt_=>aa []
theorem Fm(hx:pT x){s}(h:3<=(word s).length):decide (content x.tok=aa (word s))=(x.tok==.name (word s)):=by
 obtain⟨p,t⟩:=x;cases t with
 |name b=>
  by_cases e:b=word s
  .rw[e];simp[content]
  .have f:¬vl b=vl _:=λz=>e (by injection z)
   rw[bO (by simpa[content] using e)]
   exact(kz.mpr f).symm
 |num n=>rfl
 |sign c=>
  have:¬nZ c=word s:=λz=>by
   rw[<-z] at h;unfold nZ at h;split at h<;>simp at h
  simp[content,this]
 |halt_=>
  have:¬([])=word s:=λz=>by rw[<-z] at h;simp at h
  simp[content,this]
theorem Fn(hx:pT x){z}(hz:z∈SIGNS):decide (content x.tok=aa [z])=(x.tok==.sign z.toNat):=by
 obtain⟨p,t⟩:=x;cases t with
 |name b=>
  obtain⟨c,r,rfl,f⟩:=hx;have:¬(c::r)=[z]:=λe=>by
   injection e with s u
   have:∀z∈SIGNS,ky z=az:=by decide
   simp_all
  simp only[content,uR,this];rfl
 |num n=>rfl
 |sign c=>
  have key:(nZ c=[z])↔c=z.toNat:=by
   obtain h|⟨y,o,h⟩:=hx
   .subst h;have:∀z∈SIGNS,¬(1=z.toNat):=by decide
    exact#[λe=>by simp[nZ] at e,λe=>absurd e (this z hz)]
   .subst h;have q:∀z∈SIGNS,nZ z.toNat=[z]:=by decide
    rw[q y o];constructor
    .intro e;injection e with e;rw[e]
    .intro e;rw[D1.mp e]
  simp only[content,uR,key];by_cases e:c=z.toNat
  .simp_all
  .simp[e]
 |halt_=>rfl
open VaprbBase Vaprbp
noncomputable def dJ(x:h_):Option cA:=match x.tok with
 |.name b=>if RESERVED.contains b=ai then ae else aa b
 |_=>ae
theorem uf(x:h_)(l:cB):nG (x::l)=match dJ x with
  |some b=>.ok (#[x.place,b],l)
  |none=>.error #[3,x.place]:=by
 obtain⟨p,t⟩:=x;cases t with
 |name b=>
  simp only[nG,dJ];cases RESERVED.contains b<;>rfl
 |num n=>rfl
 |sign s=>rfl
 |halt_=>rfl
theorem A7 x (l:cB):z3 (x::l)=(dJ x).isSome:=by
 obtain⟨p,t⟩:=x;cases t with
 |name b=>
  simp only[z3,dJ];cases RESERVED.contains b<;>rfl
 |num n=>rfl
 |sign s=>rfl
 |halt_=>rfl
theorem Fo:∀n m k l,l.length<n->l.length<m->lq n k l=lq m k l
 |0,_,_,_,h,_=>absurd h (ny _)
 |_+1,0,_,_,_,h=>absurd h (ny _)
 |n+1,m+1,k,l,f,e=>by
  simp only[lq]
  split
  .rfl
  .cases l with
   |nil=>rfl
   |cons x l=>
    rw[uf];cases dJ x with
    |none=>rfl
    |some b=>
     show(if next _ l=ai then _ else _)=(if next _ l=ai then _ else _)
     split
     .rename_i o;have:(l.drop 1).length<n/\(l.drop 1).length<m:=by
       rw[gY];cases l with
       |nil=>cases o
       |cons y l=>simp at f e⊢;lia
      rw[Fo n m _ _ this.1 this.2]
     .rfl
theorem N4 n k l:lq (n+1) k l=if z3 l=ai/\Ec<=k then .error #[4,here l] else(nG l).bind λx=>if next (.sign 44) x.2=ai then(lq n (k+1) (x.2.drop 1)).map λy=>(x.1::y.1,y.2) else .ok ([x.1],x.2):=Z
noncomputable def mN(k:Nat)(l:cB):Except Fault (List nF×cB):=lq (l.length+1) k l
theorem Fp(k:Nat)(x:h_)(l:cB):mN k (x::l)=match dJ x with
  |none=>.error #[3,x.place]
  |some b=>if 3<=k then .error #[4,x.place] else if next (.sign 44) l=ai then(mN (k+1) (l.drop 1)).map λy=>(#[x.place,b]::y.1,y.2) else .ok ([#[x.place,b]],l):=by
 unfold mN;rw[show(x::l).length+1=(l.length+1)+1 from Z,N4,A7,uf];cases dJ x with
 |none=>rfl
 |some b=>
  have f:Ec=3:=Z;by_cases e:3<=k
  .rw[aC #[Z,by rwa[f]]]
   simp only[e];rfl
  .rw[aw (by intro z;exact e z.2)]
   simp only[e];show(if next _ l=ai then _ else _)=(if next _ l=ai then _ else _)
   split
   .rw[Fo _ _ _ (l.drop 1) (by rw[gY];omega) (iH _)]
   .rfl
noncomputable def pU(pre:List nF)(l:cB):Except Fault (List nF×cB):=if next (.sign 44) l=ai then(mN pre.length (l.drop 1)).map λy=>(pre ++y.1,y.2) else .ok (pre,l)
theorem XJ x (l:cB){b}(h:dJ x=aa b):mN 0 (x::l)=pU [#[x.place,b]] l:=by
 rw[Fp,h];rfl
theorem XM{pre}{l}(h:next (.sign 44) l=az):pU pre l=.ok (pre,l):=by
 unfold pU;rw[h];rfl
theorem XN{pre:List nF}{c x:h_}{l:cB}(h:c.tok=.sign 44):pU pre (c::x::l)=match dJ x with
  |none=>.error #[3,x.place]
  |some b=>if 3<=pre.length then .error #[4,x.place] else pU (pre++[#[x.place,b]]) l:=by
 have o:next (.sign 44) (c::x::l)=ai:=by show(c.tok==.sign 44)=ai;rw[h];rfl
 unfold pU;rw[o,aC Z,Ho,HV,Fp];cases dJ x with
 |none=>rfl
 |some b=>
  dsimp only;by_cases f:3<=pre.length
  .rw[aC f,aC f];rfl
  .rw[aw f,aw f,b6]
   split
   .cases mN _ _ with
    |error e=>rfl
    |ok y=>show s_ _=s_ ((pre++[_]) ++y.1,y.2);rw[kf];rfl
   .rfl
theorem A8(x:h_)(l:cB):mB (x::l)=match dJ x with
  |none=>.error #[3,x.place]
  |some b=>(lj l).bind λk=>if next (.sign 124) k.2=ai then(mN 0 (k.2.drop 1)).bind λps=>(lp 59 ps.2).map λl=>(#[#[x.place,b],k.1,ps.1],l) else(lp 59 k.2).map λl=>(#[#[x.place,b],k.1,[]],l):=by
 unfold mB;rw[uf];cases dJ x with
 |none=>rfl
 |some b=>
  show(lj l).bind _=(lj l).bind _
  congr 1
  funext k
  split
  .have:lq (k.2.length+1) 0 _=mN 0 (k.2.drop 1):=Fo _ _ _ _ (by rw[gY];omega) (iH _)
   rw[this]
  .rfl
def lI:eE->Prop
 |.flag=>True
 |.num lo e=>lo<=e/\e<=lo+63/\-1000<=lo/\e<=1000
noncomputable def N5:eE->Int
 |.flag=>2
 |.num lo e=>e-lo+1
theorem N6(h:lI k):N5 k=(aD k):=by
 cases k with
 |flag=>rfl
 |num lo e=>
  have h:lo<=e/\e<=lo+63/\-1000<=lo/\e<=1000:=h;show e-lo+1=(((fg _).map _).length);rw[aJ,me];lia
theorem size_pos(h:lI k):1<=aD k/\aD k<=64:=by
 have e:=N6 h;cases k with
 |flag=>exact#[by decide,by decide]
 |num lo f=>
  have h:lo<=f/\f<=lo+63/\-1000<=lo/\f<=1000:=h;have e:f-lo+1=(aD _):=e;lia
theorem N7{l}{x}(h:pw l=.ok (x,l')):∃p,l=#[p,.num x.2]::l'/\x.1=p:=by
 cases l with
 |nil=>cases h
 |cons y l=>
  obtain⟨p,t⟩:=y;cases t with
  |num n=>injection h with h;injection h with f e;subst f e;exact#[p,Z,Z]
  |name b=>cases h
  |sign b=>cases h
  |halt_=>cases h
theorem XO{l}(h:lj l=.ok (k,l')):lI k:=by
 unfold lj at h
 split at h
 .injection h with h;injection h with o q;subst o;trivial
 .split at h
  .cases o:pw _ with
   |error e=>rw[o] at h;cases h
   |ok x=>
    obtain⟨lo,p⟩:=x;rw[o] at h;cases q:pw p with
    |error e=>
     have h:(do let (f,l)<-pw p;if lo.2 < -lh\/lh<lo.2 then .error _ else if f.2<lo.2\/lh<f.2\/lo.2+63<f.2 then .error #[7,f.1] else .ok (.num _ f.2,l):Except _ (eE×cB))=.ok _:=h
     rw[q] at h;cases h
    |ok y=>
     obtain⟨f,s⟩:=y;have h:(do let (f,l)<-pw p;if lo.2 < -lh\/lh<lo.2 then .error _ else if f.2<lo.2\/lh<f.2\/lo.2+63<f.2 then .error #[7,f.1] else .ok (.num _ f.2,l):Except _ (eE×cB))=.ok _:=h
     rw[q] at h;have h:(if lo.2 < -1000\/1000<lo.2 then .error _ else if f.2<lo.2\/1000<f.2\/lo.2+63<f.2 then .error _ else .ok _:Except _ _)=.ok _:=h
     split at h
     .cases h
     .split at h
      .cases h
      .injection h with h;injection h with u w
       subst u;show lo.2<=f.2/\f.2<=lo.2+63/\-1000<=lo.2/\f.2<=1000;simp_all
  .cases h
noncomputable def dA(cols:List Column)(i:Nat):Nat:=((cols[i]?).map λc=>aD c.kind).getD 1
noncomputable def bw(cols:List Column)(ps:List Nat):Nat:=ps.foldl (λg i=>g*dA cols i) 1
theorem A9(f:Nat->Nat):∀(l:List _) a,l.foldl (λg i=>g*f i) a=a*l.foldl (λg i=>g*f i) 1
 |[],a=>by simp
 |x::l,a=>by
  rw[ma,ma,A9 f l _,A9 f l (1*f x),jG,jF]
theorem XQ cols k ps:cells cols k ps=aD k*bw cols ps:=by
 unfold cells bw dA;rw[List.foldl_map];exact A9 _ ps _
theorem N8 cols ps i:bw cols (ps++[i])=bw cols ps*dA cols i:=by unfold bw;rw[tj];rfl
noncomputable def pV(cs:List Column)(x:ic):Except Fault (List Nat):=
 if (cs.any λc=>c.name==x.name.name)=ai then .error #[5,x.name.place]
 else(pB cs [] x.parents).bind λps=>if 512<aD x.kind*bw cs ps then .error #[12,x.name.place] else .ok ps
theorem N9 cs x r:ji cs (x::r)=(pV cs x).bind λps=>ji (cs++[#[x.name.name,x.kind,ps]]) r:=by
 show(if (cs.any _)=ai then .error _
  else(pB cs [] _).bind _)=_
 unfold pV
 split
 .rfl
 .cases pB cs [] _ with
  |error e=>rfl
  |ok ps=>
   show(if CELLS<cells cs _ ps then .error _ else ji _ r)=Except.bind (if 512<aD _*bw cs ps then .error _ else .ok ps) _
   have f:CELLS=512:=Z;rw[XQ,f]
   split<;>rfl
theorem N_(cs:List Column)(l:List Nat)(p:nF)(r:List nF):pB cs l (p::r)=match cs.findIdx? λc=>c.name==p.name with
  |none=>.error #[6,p.place]
  |some i=>if l.contains i=ai then .error #[5,p.place] else pB cs (l++[i]) r:=Z
def xT(cs:List Column)(ps:List Nat):Prop:=(∀i∈ps,i<cs.length)/\ps.Nodup
theorem Oa{e:Type}{p:e->Bool}{l:List e}(h:l.findIdx? p=aa i):i<l.length:=(yT.mp h).1
theorem Ob{cs}:∀{r}{l ps},xT cs l->pB cs l r=.ok ps->xT cs ps/\ps.length=l.length+r.length
 |[],l,ps,h,e=>by injection e with e;subst e;exact#[h,Z]
 |p::r,l,ps,h,e=>by
  rw[N_] at e;cases q:cs.findIdx? λc=>c.name==p.name with
  |none=>simp_all
  |some i=>
   rw[q] at e;dsimp only at e
   split at e
   .cases e
   .rename_i w;have u:=λz=>w (yR.mpr z);have o:xT cs (l++[i]):=by
     exists λj f=>?_
     .obtain f|f:=df.mp f
      .exact h.1 j f
      .rw[cj] at f;subst f;exact Oa q
     .rw[oV];exact#[h.2,by simp,λa y b s=>by rw[cj] at s;subst s;exact λz=>u (z▸y)]
    obtain⟨D,C⟩:=Ob o e;exists D;rw[C];simp only[b6,bP,uI];lia
theorem XR(cs:List Column) b:(cs.map λc=>c.name).contains b=cs.any λc=>c.name==b:=by
 induction cs with
 |nil=>rfl
 |cons c cs e=>rw[b7,yQ,l7,e,yH]
def r8(x:h_):Prop:=∀b,x.tok=.name b->b.length<=16
theorem XS{l}{k p}(h:token l=aa (t,k)):r8 #[p,t]:=by
 intro b q;subst q;delta token at h;cases l with
 |nil=>cases h
 |cons c r=>
  dsimp only at h
  split at h
  .split at h
   .cases h
   .have u:NAME=16:=Z;injection h with h;injection h with e o;injection e with e
    subst e;lia
  .split at h
   .cases f:tT _ _ with
    |none=>rw[f] at h;cases h
    |some n=>rw[f] at h;injection h with h;injection h with e o;cases e
   .split at h
    .split at h
     .simp_all
     simp_all
    simp_all
theorem A_:∀n at_ r f,lex n at_ r=.ok f->∀x∈f,r8 x
 |0,at_,r,f,h=>by
  injection h with h;subst h
  intro x hx;rw[cj] at hx;subst hx;intro b q;cases q
 |n+1,at_,[],f,h=>by
  injection h with h;subst h
  intro x hx;rw[cj] at hx;subst hx;intro b q;cases q
 |n+1,at_,b::r,f,h=>by
  simp only[lex] at h
  split at h
  .exact A_ n _ r f h
  .split at h
   .exact A_ n _ _ f h
   .split at h
    .cases h
    .rename_i t k s;cases p:lex n _ _ with
     |error e=>rw[p] at h;cases h
     |ok o=>
      rw[p] at h;injection h with h;subst h
      intro x hx;obtain rfl|hx:=bM.mp hx
      .exact XS s
      .exact A_ n _ _ o p x hx
theorem XT{b}{e}(h:tokens b=.ok e):∀x∈e,r8 x:=by
 delta tokens at h
 split at h
 .cases h
 .exact A_ _ _ _ _ h
inductive dX(l':cB)(l:cB):Prop|m:∀x p,l=x::(p ++l')->dX l' l
theorem dX.trans{a b c}(f:dX a b)(e:dX b c):dX a c:=by
 obtain⟨x,p,rfl⟩:=f;obtain⟨y,q,rfl⟩:=e;exact#[y,q ++x::p,by simp]
theorem dX.len{a b}(h:dX a b):a.length<b.length:=by
 obtain⟨x,p,rfl⟩:=h;simp;lia
theorem dX.sub{a b}(h:dX a b):∀x∈a,x∈b:=by
 obtain⟨x,p,rfl⟩:=h;intro y e;simp[e]
theorem dX.vH{l}(h:next t l=ai):dX (l.drop 1) l:=by
 cases l with
 |nil=>cases h
 |cons x l=>exact#[x,[],Z]
theorem dX.one x l:dX l (x::l):=#[x,[],Z]
theorem Fq{l}{n}(h:nG l=.ok (n,l')):dX l' l/\((∀x∈l,r8 x)->n.name.length<=16):=by
 cases l with
 |nil=>cases h
 |cons x l=>
  rw[uf] at h;cases e:dJ x with
  |none=>simp_all
  |some b=>
   rw[e] at h;injection h with h;injection h with o f;subst o f
   refine#[dX.one x l,λq=>q x bH b ?_];obtain⟨p,t⟩:=x;cases t with
   |name c=>
    delta dJ at e;dsimp only at e
    split at e
    .cases e
    .injection e with e;subst e;rfl
   |num n=>cases e
   |sign s=>cases e
   |halt_=>cases e
theorem Oc{c}{l}(h:lp c l=.ok l'):dX l' l:=by
 delta lp take at h
 split at h
 .rename_i e;injection h with h;subst h;exact dX.vH e
 .cases h
theorem XU{l}(h:lj l=.ok (k,l')):dX l' l:=by
 delta lj at h
 split at h
 .rename_i s;injection h with h;injection h with p o;subst o;exact dX.vH s
 .split at h
  .rename_i s;refine dX.trans ?_ (dX.vH s);cases p:pw _ with
   |error e=>rw[p] at h;cases h
   |ok x=>
    obtain⟨lo,q⟩:=x;rw[p] at h;cases o:pw q with
    |error e=>
     have h:(do let (f,l)<-pw q;if lo.2 < -lh\/lh<lo.2 then .error _ else if f.2<lo.2\/lh<f.2\/lo.2+63<f.2 then .error #[7,f.1] else .ok (.num _ f.2,l):Except _ (eE×cB))=.ok _:=h
     rw[o] at h;cases h
    |ok y=>
     obtain⟨f,u⟩:=y;have h:(do let (f,l)<-pw q;if lo.2 < -lh\/lh<lo.2 then .error _ else if f.2<lo.2\/lh<f.2\/lo.2+63<f.2 then .error #[7,f.1] else .ok (.num _ f.2,l):Except _ (eE×cB))=.ok _:=h
     rw[o] at h;have h:(if lo.2 < -1000\/1000<lo.2 then .error _ else if f.2<lo.2\/1000<f.2\/lo.2+63<f.2 then .error _ else .ok _:Except _ _)=.ok _:=h
     obtain⟨E,C,_⟩:=N7 p;obtain⟨D,z,_⟩:=N7 o
     split at h
     .cases h
     .split at h
      .cases h
      .injection h with h;injection h with F w
       subst w;rw[C,z];exact(dX.one _ _).trans (dX.one _ _)
  .cases h
theorem Od:∀n k l l' ps,lq n k l=.ok (ps,l')->dX l' l/\k+ps.length<=max 3 k/\((∀x∈l,r8 x)->∀p∈ps,p.name.length<=16)
 |0,_,_,_,_,h=>by cases h
 |n+1,k,l,l',ps,h=>by
  rw[N4] at h
  split at h
  .cases h
  .rename_i z;cases f:nG l with
   |error e=>rw[f] at h;cases h
   |ok x=>
    obtain⟨G,s⟩:=x;rw[f] at h;obtain⟨F,I⟩:=Fq f;have L:=by
     have N:Ec=3:=Z;cases l with
     |nil=>cases f
     |cons y l=>
      rw[A7,N] at z;rw[uf] at f;cases H:dJ y with
      |none=>simp_all
      |some b=>
       rw[H] at z;by_cases O:3<=k
       .exact absurd #[Z,O] z
       .omega
    have h:(if next _ s=ai then(lq n _ (s.drop 1)).map λy=>(G::y.1,y.2) else .ok ([G],s))=.ok _:=h
    split at h
    .rename_i K;cases w:lq n _ _ with
     |error e=>rw[w] at h;cases h
     |ok y=>
      obtain⟨u,Q⟩:=y;rw[w] at h;injection h with h;injection h with D C
      subst D C;obtain⟨J,R,P⟩:=Od n _ _ _ _ w;have E:=(dX.vH K).trans F;refine#[J.trans E,by show k+ (u.length+1)<=max 3 k;lia,λq p o=>?_]
      obtain rfl|o:=bM.mp o
      .exact I q
      .exact P (λx hx=>q x (E.sub x hx)) p o
    .injection h with h;injection h with D C
     subst D C;exact#[F,by simp;lia,λq p o=>by rw[cj] at o;subst o;exact I q]
def xU(x:ic):Prop:=lI x.kind/\x.parents.length<=3
def Ba(x:ic):Prop:=x.name.name.length<=16/\∀p∈x.parents,p.name.length<=16
theorem xV{l}{x}(h:mB l=.ok (x,l')):dX l' l/\xU x/\((∀x∈l,r8 x)->Ba x):=by
 delta mB at h;cases w:nG l with
 |error e=>rw[w] at h;cases h
 |ok I=>
  obtain⟨n,F⟩:=I;rw[w] at h;obtain⟨D,G⟩:=Fq w;have h:((lj F).bind _)=.ok _:=h
  cases u:lj F with
  |error e=>rw[u] at h;cases h
  |ok K=>
   obtain⟨k,f⟩:=K;rw[u] at h;have C:=XU u;have ok:=XO u;have h:(if next _ f=ai then(lq (f.length+1) 0 (f.drop 1)).bind _ else(lp 59 f).map _)=.ok _:=h
   split at h
   .rename_i L;cases s:lq _ 0 _ with
    |error e=>rw[s] at h;cases h
    |ok pl=>
     obtain⟨ps,E⟩:=pl;rw[s] at h;obtain⟨H,O,N⟩:=Od _ _ _ _ _ s;have h:(lp 59 E).map (λl=>((#[n,k,ps]),l))=.ok (x,l'):=h;cases o:lp 59 E with
     |error e=>rw[o] at h;cases h
     |ok J=>
      rw[o] at h;injection h with h;injection h with z y
      subst z y;have sa:=((dX.vH L).trans C).trans D;exact#[((Oc o).trans H).trans sa,#[ok,by show ps.length<=3;simp_all],λq=>#[G q,N λx hx=>q x (sa.sub x hx)]]
   .cases o:lp 59 f with
    |error e=>rw[o] at h;cases h
    |ok J=>
     rw[o] at h;injection h with h;injection h with z y
     subst z y;exact#[((Oc o).trans C).trans D,#[ok,by simp],λq=>#[G q,λp s=>(dB s).elim]]
theorem vI n k l:iL (n+1) k l=if next .halt_ l=ai/\0<k then .ok [] else if z3 l=ai/\z6<=k then .error #[4,here l] else(mB l).bind λx=>(iL n (k+1) x.2).map λr=>x.1::r:=Z
theorem Fs:∀n m k l,l.length<n->l.length<m->iL n k l=iL m k l
 |0,_,_,_,h,_=>absurd h (ny _)
 |_+1,0,_,_,_,h=>absurd h (ny _)
 |n+1,m+1,k,l,p,o=>by
  rw[vI,vI]
  split
  .rfl
  .split
   .rfl
   .cases f:mB l with
    |error e=>rfl
    |ok x=>
     have:=(xV f).1.len;show(iL n _ _).map _=(iL m _ _).map _;rw[Fs n m _ _ (by lia) (by lia)]
noncomputable def tcR(k:Nat)(l:cB):Except Fault (List ic):=iL (l.length+1) k l
noncomputable def n0(pre:List ic)(l:cB):Except Fault (List ic):=(tcR pre.length l).map λr=>pre ++r
theorem Oe:∀n k l r,iL n k l=.ok r->k+r.length<=max 6 k/\(∀x∈r,xU x)/\(0<k+r.length)/\((∀x∈l,r8 x)->∀x∈r,Ba x)
 |0,_,_,_,h=>by cases h
 |n+1,k,l,r,h=>by
  rw[vI] at h
  split at h
  .injection h with h;subst h
   exact#[by simp;lia,λx hx=>(dB hx).elim,by simp_all,λa x hx=>(dB hx).elim]
  .split at h
   .cases h
   .rename_i p;cases o:mB l with
    |error e=>rw[o] at h;cases h
    |ok x=>
     obtain⟨x,u⟩:=x;rw[o] at h;obtain⟨z,D,I⟩:=xV o;have E:=by
      have F:z6=6:=Z;cases l with
      |nil=>cases o
      |cons y l=>
       rw[A7,F] at p;rw[A8] at o;cases w:dJ y with
       |none=>simp_all
       |some b=>
        rw[w] at p;by_cases G:6<=k
        .exact absurd #[Z,G] p
        .omega
     have h:(iL n _ u).map (λr=>x::r)=.ok r:=h;cases s:iL n _ u with
     |error e=>rw[s] at h;cases h
     |ok J=>
      rw[s] at h;injection h with h;subst h
      obtain⟨K,C,_,H⟩:=Oe n _ _ _ s;refine#[by rw[bP];lia,λy f=>?_,by rw[bP];lia,λq y f=>?_]
      .obtain rfl|f:=bM.mp f
       .omega
       .exact C y f
      .obtain rfl|f:=bM.mp f
       .exact I q
       .exact H (λx hx=>q x (z.sub x hx)) y f
theorem XX{d}(h:i<cs.length):dA (cs ++d) i=dA cs i:=by
 delta dA;rw[yU h]
theorem XY{f g}:∀{ps},(∀p∈ps,dA f p=dA g p)->bw f ps=bw g ps:=by
 intro ps h;have:∀(ps:List _) a,(∀p∈ps,dA f p=dA g p)->ps.foldl (λx i=>x*dA f i) a=ps.foldl (λx i=>x*dA g i) a:=by
  intro ps
  induction ps with
  |nil=>intros;rfl
  |cons p ps e=>intro a h;rw[ma,ma,h p bH];exact e _ λq o=>h q (bI _ o)
 exact this ps 1 h
theorem Of{d}{ps}(h:∀p∈ps,p<cs.length):bw (cs ++d) ps=bw cs ps:=XY λp e=>XX (h p e)
def Ft(cs:List Column)(i:Nat)(c:Column):Prop:=lI c.kind/\c.parents.length<=3/\(∀p∈c.parents,p<i)/\c.parents.Nodup/\aD c.kind*bw cs c.parents<=512
def cO(cs:List Column):Prop:=∀i c,cs[i]? =aa c->Ft cs i c
theorem XZ{x}{ps}(h:pV cs x=.ok ps):xT cs ps/\ps.length=x.parents.length/\aD x.kind*bw cs ps<=512:=by
 delta pV at h
 split at h
 .cases h
 .cases o:pB cs [] _ with
  |error e=>rw[o] at h;cases h
  |ok f=>
   rw[o] at h;have h:(if 512<aD _*bw cs f then(.error _:Except _ _) else .ok f)=.ok ps:=h
   split at h
   .cases h
   .injection h with h;subst h
    obtain⟨q,p⟩:=Ob #[λy h=>(dB h).elim,mi] o;exact#[q,by simpa using p,by simp_all]
theorem cO.snoc(h:cO cs)(D:Ft cs cs.length c):cO (cs++[c]):=by
 intro i z e;by_cases f:i<cs.length
 .rw[yU f] at e;obtain⟨w,u,o,s,q⟩:=h i z e;exact#[w,u,o,s,by rw[Of λp C=>gy (o p C) f];omega]
 .rw[Cq (by simp_all)] at e
  obtain⟨hz,rfl⟩:i-cs.length=0/\c=z:=by
   cases y:i-cs.length with
   |zero=>rw[y] at e;exact#[Z,by simpa using e]
   |succ k=>simp_all
  obtain rfl:i=cs.length:=by lia
  obtain⟨w,u,o,s,q⟩:=D;exact#[w,u,o,s,by rw[Of o];omega]
theorem X0{x}{ps}(hx:xU x)(h:pV cs x=.ok ps):Ft cs cs.length #[x.name.name,x.kind,ps]:=by
 obtain⟨e,o,f⟩:=XZ h;exact#[hx.1,by rw[o];exact hx.2,e.1,e.2,f]
theorem Og:∀{raws}{cs o},cO cs->(∀x∈raws,xU x)->ji cs raws=.ok o->cO o/\o.length=cs.length+raws.length/\((∀c∈cs,c.name.length<=16)->(∀x∈raws,Ba x)->∀c∈o,c.name.length<=16)
 |[],cs,o,h,_,e=>by injection e with e;subst e;exact#[h,Z,λh a=>h]
 |x::r,cs,o,h,w,e=>by
  rw[N9] at e;cases s:pV cs x with
  |error f=>rw[s] at e;cases e
  |ok ps=>
   rw[s] at e;obtain⟨E,D,C⟩:=Og (h.snoc (X0 (w x bH) s)) (λy q=>w y (bI _ q)) e;refine#[E,by rw[D,b6,bP];simp;lia,λz u=>C (λc p=>?_) λy q=>u y (bI _ q)]
   obtain p|p:=df.mp p
   .exact z c p
   .rw[cj] at p;subst p;exact(u x bH).1
theorem X1(h:n<=1000):(showNat n).length<=4:=by
 have:∀k:Fin 1001,(showNat k.val).length<=4:=by decide +kernel
 exact this #[n,by lia]
theorem Bb{n}(f:-1000<=n)(e:n<=1000):(vj n).length<=5:=by
 have:=X1 (n:=n.natAbs) (by lia)
 delta vj
 split
 .simp_all
 .lia
theorem Fu(h:lI k):(rA k).length<=15:=by
 cases k with
 |flag=>decide +kernel
 |num lo e=>
  have h:lo<=e/\e<=lo+63/\-1000<=lo/\e<=1000:=h;show(word _ ++vj lo++[32] ++vj e).length<=15;have hw:(word "num ").length=4:=by decide +kernel
  have o:=Bb (n:=lo) (by simp_all) (by lia)
  have f:=Bb (n:=e) (by lia) (by simp_all)
  simp only[b6,hw,bP,uI];lia
theorem Fv:∀ l ,(∀x∈l,x.length<=16)->(vi (word ", ") l).length<=18*l.length
 |[],_=>by show 0<=_;simp
 |[x],h=>by
  have:=h x bH;show x.length<=_;rw[kT];lia
 |x::y::r,h=>by
  have f:=h x bH;have e:=Fv _ λz hz=>h z (bI _ hz);show(x ++word _ ++vi _ _).length<=_;have hw:(word ", ").length=2:=by decide +kernel
  simp only[b6,hw,bP] at e⊢;lia
theorem Fw(h:∀c∈cs,c.name.length<=16) i:(gG cs i).length<=16:=by
 delta gG;cases e:cs[i]? with
 |none=>simp
 |some c=>exact h c (dg e)
theorem Oh(h:∀c∈cs,c.name.length<=16)(o:c.name.length<=16)(e:lI c.kind)(f:c.parents.length<=3):(tW cs c).length<=100:=by
 delta tW;have q:=Fu e;have p:(if c.parents=[] then[] else word " | " ++vi (word ", ") (c.parents.map (gG cs))).length<=57:=by
  split
  .simp
  .have hw:(word " | ").length=3:=by decide +kernel
   have:=Fv (c.parents.map _) λx hx=>by
    obtain⟨i,_,rfl⟩:=bK.mp hx;exact Fw h i
   rw[aJ] at this;rw[b6,hw];lia
 have hw:(word " ;").length=2:=by decide +kernel
 simp only[b6,hw,bP,uI];lia
theorem Fy{e:Type}{f:e->cA}{n}:∀{l:List e},(∀x∈l,(f x).length<=n)->(l.flatMap f).length<=n*l.length
 |[],_=>by simp
 |x::l,h=>by
  have q:=h x bH;have p:=Fy λy o=>h y (bI _ o);rw[l_,b6,bP,uN,tF];lia
theorem Oi{l}{t}(h:ig l=.ok (t,raws)):raws.length<=6/\(∀x∈raws,xU x)/\0<raws.length/\((∀x∈l,r8 x)->t.length<=16/\∀x∈raws,Ba x):=by
 delta ig at h;cases hw:takeWord _ l with
 |error e=>rw[hw] at h;cases h
 |ok p=>
  rw[hw] at h;have u:dX p l:=by
   delta takeWord take at hw
   split at hw
   .rename_i f;injection hw with hw;subst hw;exact dX.vH f
   .cases hw
  have h:((nG p).bind _)=.ok _:=h;cases f:nG p with
  |error e=>rw[f] at h;cases h
  |ok y=>
   obtain⟨n,o⟩:=y;rw[f] at h;obtain⟨w,F⟩:=Fq f;have h:(iL _ 0 o).map (λr=>(n.name,r))=.ok _:=h;cases s:iL (o.length+1) 0 o with
   |error e=>rw[s] at h;cases h
   |ok r=>
    rw[s] at h;injection h with h;injection h with C z
    subst C z;obtain⟨H,E,G,D⟩:=Oe _ _ _ _ s;exact#[by simp_all,E,by simp_all,λq=>#[F λx hx=>q x (u.sub x hx),D λx hx=>q x ((w.trans u).sub x hx)]]
def r9(m:Model):Prop:=0<m.columns.length/\m.columns.length<=6/\cO m.columns/\m.title.length<=16/\∀c∈m.columns,c.name.length<=16
theorem r9.Oj(h:r9 m):m.shown.length<=4096:=by
 obtain⟨y,w,s,u,o⟩:=h;have hw:(word "table ").length=6:=by decide +kernel
 have:=Fy (f:=tW _) λc e=>by
  obtain⟨i,q⟩:=kh.mp e;obtain⟨p,k2,_⟩:=s i c q;exact Oh o (o c e) p k2
 delta El;simp only[b6,hw,bP,uI];lia
theorem Ol{b}{l}{t}(p:tokens b=.ok l)(o:ig l=.ok (t,raws))(f:ji [] raws=.ok cs):r9 #[t,cs]:=by
 obtain⟨D,z,C,y⟩:=Oi o;obtain⟨w,e,u⟩:=Og (λi c h=>by simp at h) z f
 obtain⟨s,q⟩:=y (XT p);have e:cs.length=0+raws.length:=e;exact#[by show 0<cs.length;simp_all,by show cs.length<=6;simp_all,w,s,u (λx h=>(dB h).elim) q]
theorem Om{b}{l}{t}(h:tokens b=.ok l)(f:ig l=.ok (t,raws))(e:ji [] raws=.ok cs):read b=.ok #[t,cs]:=by
 have o:=(Ol h f e).Oj;delta nI;rw[h];show((ig l).bind _)=_
 rw[f];show((ji [] _).bind _)=_
 rw[e];show(if TEXT<(El #[t,cs]).length then .error _ else .ok _:Except _ _)=_
 have p:TEXT=4096:=Z;rw[aw (by simp_all)]
theorem xW{b}{l}{f}(h:tokens b=.ok l)(e:ig l=.error f):read b=.error f:=by
 delta nI;rw[h];show((ig l).bind _)=_;rw[e];rfl
theorem Oo{b}{l}{t}{f}(o:tokens b=.ok l)(h:ig l=.ok (t,raws))(e:ji [] raws=.error f):read b=.error f:=by
 delta nI;rw[o];show((ig l).bind _)=_;rw[h];show((ji [] _).bind _)=_;rw[e];rfl
theorem X2{b}(h:read b=.ok m):r9 m:=by
 cases e:tokens b with
 |error f=>delta nI at h;rw[e] at h;cases h
 |ok l=>
  cases o:ig l with
  |error f=>rw[xW e o] at h;cases h
  |ok x=>
   cases p:ji [] _ with
   |error f=>rw[Oo e o p] at h;cases h
   |ok cs=>
    rw[Om e o p] at h;injection h with h;subst h
    exact Ol e o p
noncomputable def ug(f n:cA):cA:=f ++word (if f=[] then " | " else ", ") ++n
noncomputable def iU(l:List cA):cA:=l.foldl ug []
theorem X3 l n:iU (l++[n])=ug (iU l) n:=by unfold iU;rw[tj];rfl
theorem Oq sep x:∀r,vi sep (x::r)=x ++r.flatMap λn=>sep ++n
 |[]=>by rw[Co,l8];rfl
 |y::r=>by
  show x ++sep ++vi _ _=_;rw[Oq _ y r,l_];simp
theorem X4{f:cA}(e:f≠[]) n :ug f n=f++(word ", " ++n):=by unfold ug;rw[aw e,kf]
theorem Ot:∀(l:List _)(f:cA),f≠[]->l.foldl ug f=f ++l.flatMap λn=>word ", " ++n
 |[],f,_=>by simp
 |x::l,f,e=>by
  rw[ma,X4 e,Ot l _ (by intro z;exact e (Hm.mp z).1),l_,kf]
theorem Ou  l :iU l=if l=[] then[] else word " | " ++vi (word ", ") l:=by
 cases l with
 |nil=>rfl
 |cons x l=>
  rw[aw (by simp),Oq]
  show l.foldl ug _=_;have e:ug [] x=word " | " ++x:=Z;have hw:word " | "≠[]:=by decide +kernel
  rw[e,Ot _ _ (by intro z;exact hw (Hm.mp z).1),kf]
theorem Ov:∀l,(∀x∈l,x.length<=16)->l.length<=3->(iU l).length<=57:=by
 intro l h e;rw[Ou]
 split
 .simp
 .have hw:(word " | ").length=3:=by decide +kernel
  have:=Fv l h;rw[b6,hw];lia
theorem X5  m  c :tW m c=c.name ++word " " ++rA c.kind ++iU (c.parents.map (gG m)) ++word " ;\n":=by
 unfold tW;rw[Ou];have h:word " "=[32]:=by decide +kernel
 have f:word " ;\n"=word " ;" ++ [10]:=by decide +kernel
 simp_all
noncomputable def kG(m:Model)(i:Nat):cA:=word "table " ++m.title ++word "\n" ++ (m.columns.take i).flatMap (tW m.columns)
theorem X6 m:kG m m.columns.length=m.shown:=by
 unfold kG El;rw[eV];rfl
theorem X7  m  i  c (h:m.columns[i]? =aa c):kG m (i+1)=kG m i ++c.name ++word " " ++rA c.kind ++iU (c.parents.map (gG m.columns)) ++word " ;\n":=by
 simp[kG,qJ,h,X5]
theorem X8(h:r9 m) i:(kG m i).length<=700:=by
 obtain⟨z,y,u,w,p⟩:=h;have hw:(word "table ").length=6:=by decide +kernel
 have o:(word "\n").length=1:=by decide +kernel
 have:=Fy (f:=tW _) (l:=m.columns.take i) λc e=>by
  have e:=qH e;obtain⟨i,s⟩:=kh.mp e;obtain⟨q,k2,_⟩:=u i c s;exact Oh p (p c e) q k2
 rw[gw] at this;unfold kG;simp only[b6,hw,o];lia
noncomputable def fL:eE->Int
 |.flag=>0
 |.num lo _=>lo
noncomputable def Bc:eE->Int
 |.flag=>1
 |.num _ e=>e
noncomputable def lJ(k:eE)(n:Int):Bool:=(decide (fL k<=n)&&decide (n<=Bc k)) ||decide (n=5000)
noncomputable def X9:Option Val->Int
 |none=>5000
 |some v=>my v
theorem X_ k n:(entry k n).isSome=lJ k n:=by
 have o:GAP=5000:=Z;unfold entry lJ;rw[o];by_cases e:n=5000
 .rw[aC e,bX e,Bool.or_true];rfl
 .rw[aw e,bO e,Cb];cases k with
  |flag=>
   show(if n=0 then aa _ else if n=1 then aa _ else ae).isSome=(decide ((0)<=n)&&decide (n<=1))
   split
   .rename_i h;subst h;rfl
   .split
    .rename_i h;subst h;rfl
    .symm
     show(decide _&&decide _)=az;rw[Ss,xi,xi];lia
  |num lo f=>
   show(if lo<=n/\n<=f then aa _ else ae).isSome=(decide (lo<=n)&&decide (n<=f))
   split
   .rename_i h;rw[bX h.1,bX h.2];rfl
   simp_all
theorem Fz{n:Int}{x:Option Val}(h:entry k n=aa x):X9 x=n/\(x=ae↔n=5000):=by
 have f:GAP=5000:=Z;unfold entry at h;rw[f] at h
 split at h
 .rename_i e;injection h with h;subst h;exact#[e.symm,by simp[e]]
 .rename_i e;cases k with
  |flag=>
   dsimp only at h
   split at h
   .rename_i p;injection h with h;subst h;subst p;exact#[Z,by simp]
   .split at h
    .rename_i o;injection h with h;subst h;subst o;exact#[Z,by simp]
    .cases h
  |num lo q=>
   dsimp only at h
   split at h
   .injection h with h;subst h;exact#[Z,by simp[e]]
   .cases h
theorem Bd:∀{ks}{l}{r},entries ks l=aa r->l.length=ks.length/\r.length=ks.length
 |[],[],r,h=>by injection h with h;subst h;exact#[Z,Z]
 |[],_::_,r,h=>by cases h
 |_::_,[],r,h=>by cases h
 |k::ks,n::l,r,h=>by
  have h:(entry k n).bind _=aa r:=h;cases f:entry k n with
  |none=>simp_all
  |some x=>
   rw[f] at h;cases e:entries ks l with
   |none=>rw[e] at h;cases h
   |some q=>
    rw[e] at h;injection h with h;subst h
    obtain⟨p,o⟩:=Bd e;simp_all
theorem FA:∀{ks}{l}{r},entries ks l=aa r->∀(i:Nat) k n,ks[i]? =aa k->l[i]? =aa n->∃x,r[i]? =aa x/\entry k n=aa x
 |[],[],r,h=>λi k n e y=>by simp at e
 |[],_::_,r,h=>by cases h
 |_::_,[],r,h=>by cases h
 |k::ks,n::l,r,h=>by
  have h:(entry k n).bind _=aa r:=h;cases p:entry k n with
  |none=>simp_all
  |some x=>
   rw[p] at h;cases o:entries ks l with
   |none=>rw[o] at h;cases h
   |some u=>
    rw[o] at h;injection h with h;subst h
    intro i s q e f;cases i with
    |zero=>
     have e:=by simpa using e
     have f:=by simpa using f
     subst e f;exact#[x,Z,p]
    |succ i=>exact FA o i s q (by simpa using e) (by simpa using f)
theorem Ow:∀ks l,(entries ks l).isSome=(decide (l.length=ks.length)&&(tu ks l).all λx=>lJ x.1 x.2)
 |[],[]=>Z
 |[],n::l=>by
  rfl
 |k::ks,[]=>by
  rfl
 |k::ks,n::l=>by
  show((entry k n).bind _).isSome=_;rw[List.zip_cons_cons,yO,<-X_];have e:decide ((n::l).length=(k::ks).length)=decide (l.length=ks.length):=by simp
  rw[e];cases entry k n with
  |none=>simp
  |some x=>
   show((entries ks l).map _).isSome=_;rw[Iq,Ow ks l,Ir,yI]
theorem FC:∀ks r k g,r.length=ks.length->gapsSize (ks++[k]) (r++[g])=gapsSize ks r* (if g=ae then aD k else 1)
 |[],[],k,ae,_=>by show aD k*1=1*_;rw[aC Z];simp
 |[],[],k,aa v,_=>by rfl
 |[],_::_,_,_,h=>by simp at h
 |_::_,[],_,_,h=>by simp at h
 |c::ks,ae::r,k,g,h=>by
  show aD c*gapsSize (ks++[k]) (r++[g])=aD c*gapsSize ks r*_;rw[FC ks r k g (by simpa using h),jF]
 |c::ks,aa v::r,k,g,h=>by
  exact FC ks r k g (by simpa using h)
theorem n4 n (d k:Nat)(f:0<k):aW (n*k) (d*k)=aW n d:=by
 unfold aW;by_cases hd:d=0
 .simp_all
 .rw[aw (by intro z;obtain z|z:=Nat.mul_eq_zero.mp z<;>simp_all),aw hd]
  have e:(n* k).natAbs=n.natAbs*k:=by rw[Int.natAbs_mul,wk]
  rw[e,Nat.gcd_mul_right];have o:n* k/((n.natAbs.gcd d*k:Nat))=n/((n.natAbs.gcd d:Nat)):=by
   rw[fH];exact Int.mul_ediv_mul_of_pos_left _ _ (by simp_all)
  have h:d*k/(n.natAbs.gcd d*k)=d/n.natAbs.gcd d:=Nat.mul_div_mul_right _ _ f;rw[o,h]
theorem Be{c}(e:0<b)(hd:0<d)(h:a*d=c*b):aW a b=aW c d:=by
 rw[<-n4 a b d hd,<-n4 c d b e,h,d5]
theorem mO(e:0<b):0<(aW a b).den:=by
 unfold aW;rw[aw (by lia)]
 exact uL (mq e (kX _ _)) (kY _ e)
theorem mP(h:0<b):(aW a b).num*b=a* (aW a b).den:=by
 unfold aW;rw[aw (by lia)]
 show a/((a.natAbs.gcd b:Nat))*b=a* ((b/a.natAbs.gcd b:Nat));have f:0<a.natAbs.gcd b:=kY _ h;obtain⟨x,hx⟩:((a.natAbs.gcd b):Int)∣a:=Hj.mpr (qM _ _);obtain⟨y,e⟩:a.natAbs.gcd b∣b:=kX _ _;generalize a.natAbs.gcd b=g at *;rw[hx,e,Int.mul_ediv_cancel_left _ (by lia),f7 _ f,fH]
 grind
def iW(f:cK):Prop:=0<f.den/\bj f.num.natAbs f.den=1
theorem Bf{f}(h:iW f):aW f.num f.den=f:=by
 unfold aW;rw[aw (by have:=h.1;lia),h.2]
 simp
theorem vJ(f:0<b):iW (aW a b):=by
 exists mO f;unfold aW;rw[aw (by lia)]
 have h:0<a.natAbs.gcd b:=kY _ f;have hd:((a.natAbs.gcd b):Int)∣a:=Hj.mpr (qM _ _);have e:(a/((a.natAbs.gcd b:Nat))).natAbs=a.natAbs/a.natAbs.gcd b:=by
  rw[Int.natAbs_ediv_of_dvd hd,wk]
 rw[e];exact wy h
theorem Bg{c}(e:0<b)(hd:0<d):(aW a b).add (aW c d)=aW (a*d+c*b) (b*d):=by
 have o:=mP (a:=a) e;have h:=mP (a:=c) hd;have f:=mO (a:=a) e;have k2:=mO (a:=c) hd;refine Be (gA f k2) (gA e hd) ?_;grind
theorem FD{c}(e:0<b)(hd:0<d):(aW a b).mul (aW c d)=aW (a*c) (b*d):=by
 have o:=mP (a:=a) e;have h:=mP (a:=c) hd;have f:=mO (a:=a) e;have k2:=mO (a:=c) hd;refine Be (gA f k2) (gA e hd) ?_;grind
theorem Ox{c:Nat}(f:0<b)(p:0<c)(hd:0<d):(aW a b).div (aW c d)=aW (a*d) (b*c):=by
 have u:=mP (a:=a) f;have q:=mP (a:=c) hd;have o:=mO (a:=a) f;have k2:=mO (a:=c) hd;have s:=by
  have h:0<(c:Int)* (aW c d).den:=Int.mul_pos (by simp_all) (by simp_all)
  rw[<-q] at h;exact Int.pos_of_mul_pos_left h (by simp_all)
 unfold cK.div;rw[aw (by lia)]
 have e:((aW (c:Int) d).num.natAbs)=(aW c d).num:=by lia
 refine Be (gA o (by lia)) (gA f p) ?_
 rw[fH,fH,e]
 grind
noncomputable def vK:eE->Nat->Val
 |.flag,j=>.flag (j==1)
 |.num lo _,j=>.num (lo+j)
noncomputable def gM(k:eE)(v:Val):Nat:=(my v-fL k).toNat
def lK(k:eE)(v:Val):Prop:=v∈ia k
theorem uh k j (h:j<aD k):(ia k)[j]? =aa (vK k j):=by
 cases k with
 |flag=>
  match j,h with
  |0,_=>rfl
  |1,_=>rfl
 |num lo e=>
  unfold aD ia at h;rw[aJ,me] at h;show((fg _).map _)[j]? =_;rw[bL,wx h];rfl
theorem Oy k j (h:j<aD k):my (vK k j)=fL k+j:=by
 cases k with
 |flag=>
  match j,h with
  |0,_=>rfl
  |1,_=>rfl
 |num lo e=>rfl
theorem n6(h:lK k v):gM k v<aD k/\(ia k)[gM k v]? =aa v/\my v=fL k+gM k v:=by
 obtain⟨j,f⟩:=kh.mp h;have e:=(bx.mp f).1;rw[uh k j e] at f;have o:=bf f;have p:=Oy k j e;rw[o] at p;have q:gM k v=j:=by unfold gM;lia
 rw[q];exact#[e,by rw[uh k j e,o],p]
theorem Bh{e q:Type}{f:e->List q}{n}:∀{L:List e},(∀x∈L,(f x).length=n)->∀j r x,L[j]? =aa x->r<n->(L.flatMap f)[j*n+r]? =(f x)[r]?
 |[],_,j,r,x,hx,_=>by simp_all
 |y::L,h,0,r,x,hx,o=>by
  have hx:=by simpa using hx
  subst hx;rw[l_,uP,o7,yU (by rw[h y bH];omega)]
 |y::L,h,j+1,r,x,hx,o=>by
  have p:=h y bH;rw[l_,Cq (by rw[p,qL,jG];lia),p]
  rw[show(j+1)*n+r-n=j*n+r by rw[qL,jG];lia]
  exact Bh (λz hz=>h z (bI _ hz)) j r x (by simpa using hx) o
theorem FE{e o:Type}{f:e->List o}{n}:∀{L:List e},(∀x∈L,(f x).length=n)->(L.flatMap f).length=L.length*n
 |[],_=>by simp
 |y::L,h=>by
  rw[l_,b6,h y bH,FE λz hz=>h z (bI _ hz),bP,qL];lia
noncomputable def eF(ks:List eE):Nat:=ks.foldr (λk n=>aD k*n) 1
theorem vL:∀ks,(mw ks).length=eF ks
 |[]=>Z
 |k::ks=>by
  show((ia k).flatMap _).length=aD k*eF ks;rw[FE λv x=>by rw[aJ,vL ks]]
  rfl
noncomputable def iu:List eE->List Val->Nat
 |k::ks,v::vs=>gM k v*eF ks+iu ks vs
 |_,_=>0
inductive Vs:List eE->List Val->Prop
 |nil:Vs [] []
 |cons {k ks v vs}:lK k v->Vs ks vs->Vs (k::ks) (v::vs)
theorem xX{ks}{vs}(h:Vs ks vs):iu ks vs<eF ks:=by
 induction h with
 |nil=>show 0<1;simp
 |@cons k ks v vs h t f=>
  have e:=(n6 h).1;show gM k v*eF ks+iu ks vs<aD k*eF ks;have:(gM k v+1)*eF ks<=aD k*eF ks:=ja _ e;rw[qL,jG] at this;lia
theorem Bi:∀{ks}{vs},Vs ks vs->(mw ks)[iu ks vs]? =aa vs
 |_,_,.nil=>Z
 |k::ks,v::vs,.cons h t=>by
  obtain⟨f,e,_⟩:=n6 h;show((ia k).flatMap _)[gM k v*eF ks+iu ks vs]? =_;rw[Bh (λv x=>by rw[aJ,vL ks]) _ _ v e (xX t),bL,Bi t]
  rfl
theorem Oz:∀{ks}{vs},vs∈mw ks->Vs ks vs
 |[],vs,h=>by
  have h:=by simpa[mw] using h
  subst h;exact .nil
 |k::ks,vs,h=>by
  have h:vs∈(ia k).flatMap _:=h;rw[List.mem_flatMap] at h;obtain⟨v,e,h⟩:=h;obtain⟨l,f,rfl⟩:=bK.mp h;exact .cons e (Oz f)
theorem Bj k j (h:j<aD k):gM k (vK k j)=j:=by
 unfold gM;rw[Oy k j h];lia
theorem FF:∀{ks}{vs}{j},(mw ks)[j]? =aa vs->j=iu ks vs
 |[],vs,j,h=>by
  have f:j<1:=(bx.mp h).1;cases vs with
  |nil=>show j=0;simp_all
  |cons v vs=>show j=0;simp_all
 |k::ks,vs,j,h=>by
  have f:=(bx.mp h).1;rw[vL] at f;have f:j<aD k*eF ks:=f;have q:0<eF ks:=by
   cases u:eF ks with
   |zero=>simp_all
   |succ n=>simp
  have p:=(CJ q).mpr f;have s:j%eF ks<eF ks:=nu _ q;have e:j=j/eF ks*eF ks+j%eF ks:=by rw[d5];exact(y3 j _).symm
  have h:((ia k).flatMap _)[j]? =aa vs:=h;rw[e,Bh (λv x=>by rw[aJ,vL ks]) _ _ _ (uh k _ p) s,bL] at h
  cases o:(mw ks)[j%eF ks]? with
  |none=>rw[o] at h;cases h
  |some l=>
   rw[o] at h;have h:=bf h;subst h;show j=gM k _*eF ks+iu ks l;rw[Bj k _ p,<-FF o];omega
theorem xY{vs}(h:Vs ks vs):placeOf (mw ks) vs=iu ks vs:=by
 have e:=xX h;rw[<-vL] at e;have o:=Bi h;have:(mw ks).findIdx? (λx=>x==vs)=aa (iu ks vs):=by
  rw[yT];refine#[e,?_,λj p=>?_]
  .rw[aY e] at o;rw[bf o];simp
  .intro z;have z:=eq_of_beq z;have f:(mw ks)[j]? =aa vs:=by rw[aY (by lia),z]
   have:=FF f;lia
 unfold placeOf;rw[this];rfl
noncomputable def lL(cs:List Column)(i:Nat):Int:=((cs[i]?).map λc=>fL c.kind).getD 0
noncomputable def pW(cs:List Column)(l:List Int)(ps:List Nat):Int:=ps.foldl (λg p=>g* (dA cs p:Nat)+ ((l[p]?).getD 0-lL cs p)) 0
theorem Ya cs l ps p:pW cs l (ps++[p])=pW cs l ps* (dA cs p)+ ((l[p]?).getD 0-lL cs p):=by simp[pW]
theorem iX(h:m.columns[i]? =aa c):kindOf m i=c.kind:=by unfold kindOf;rw[h];rfl
theorem r_(h:m.columns[i]? =aa c):Ef m i=c.parents:=by unfold Ef;rw[h];rfl
theorem vM(h:i<m.columns.length):dA m.columns i=aD (kindOf m i):=by
 unfold dA kindOf;rw[aY h];rfl
theorem OA(h:i<m.columns.length):lL m.columns i=fL (kindOf m i):=by
 unfold lL kindOf;rw[aY h];rfl
theorem horner{m}{val}:∀(ps:List _) g,(∀p∈ps,p<m.columns.length/\lK (kindOf m p) (val p)/\(l[p]?).getD 0=my (val p))->
  ps.foldl (λg p=>g* (dA m.columns p)+ ((l[p]?).getD 0-lL m.columns p)) g=g* (eF (ps.map (kindOf m)))+ (iu (ps.map (kindOf m)) (ps.map val))
 |[],g,_=>by show g=g* ((1:Nat))+ ((0:Nat));simp
 |p::ps,g,h=>by
  rcases h p bH with⟨e,u,s⟩;rw[ma,horner ps _ λq f=>h q (bI _ f)];rcases n6 u with⟨_,_,o⟩;rw[vM e,OA e,s,o];show _=g* ((aD _*eF _:Nat))+ ((gM _ _*eF _+iu _ _:Nat));grind
theorem xZ{m}{val}:∀(ps:List _),(∀p∈ps,lK (kindOf m p) (val p))->Vs (ps.map (kindOf m)) (ps.map val)
 |[],_=>.nil
 |p::ps,h=>.cons (h p bH) (xZ ps λq e=>h q (bI _ e))
theorem OB{val}{ps}(h:∀p∈ps,p<m.columns.length/\lK (kindOf m p) (val p)/\(l[p]?).getD 0=my (val p)):
  pW m.columns l ps=(placeOf (mw (ps.map (kindOf m))) (ps.map val)):=by
 unfold pW;rw[horner ps 0 h,xY (xZ ps λp e=>(h p e).2.1),Cf,yN]
theorem FG{ps}(h:∀p∈ps,p<m.columns.length):eF (ps.map (kindOf m))=bw m.columns ps:=by
 induction ps with
 |nil=>rfl
 |cons p ps e=>
  have:=e λq f=>h q (bI _ f);show aD _*eF _=ps.foldl _ _;rw[A9 _ ps (1*dA _ p),this,jG,vM (h p bH)];rfl
theorem Bk(f:cO m.columns)(h:m.columns[i]? =aa c):(groups m i).length=bw m.columns c.parents:=by
 have o:=(bx.mp h).1;unfold groups;rw[vL,r_ h];exact FG λp e=>gy ((f i c h).2.2.1 p e) o
theorem FH(h:cO m.columns):tV m=m.columns.map λc=>cR (bw m.columns c.parents) (rB (aD c.kind)):=by
 unfold tV;refine l9 λi=>?_;rw[bL,bL];by_cases f:i<m.columns.length
 .have e:=aY f;rw[wx f,e];show aa ((groups m i).map _)=aa _;rw[Cz,Bk h e,iX e]
 .rw[fz (by rw[me];simp_all),fz (by simp_all)];rfl
theorem Yb{n:Int}(h:entry k n=aa (aa v)):lK k v/\my v=n:=by
 have p:n≠5000:=λz=>by
  have:=(Fz h).2.mpr z;cases this
 delta entry at h;rw[aw (show ¬n=GAP from p)] at h;cases k with
 |flag=>
  dsimp only at h;by_cases e:n=0
  .rw[aC e] at h;cases h;subst e;exact#[by delta lK ia;simp,Z]
  .rw[aw e] at h;by_cases f:n=1
   .rw[aC f] at h;cases h;subst f;exact#[by delta lK ia;simp,Z]
   .rw[aw f] at h;cases h
 |num lo o=>
  dsimp only at h;by_cases e:lo<=n/\n<=o
  .rw[aC e] at h;cases h;refine#[?_,Z];show K6 n∈(fg (o-lo+1).toNat).map λ(i:Nat)=>K6 (lo+i);exact bK.mpr #[(n-lo).toNat,gx.mpr (by lia),by congr 1;lia]
  .rw[aw e] at h;cases h
noncomputable def rowOf(ks:List eE)(l:List Int):Row:=(entries ks l).getD []
def cG(ks:List eE)(l:List Int):Prop:=(entries ks l).isSome=ai
theorem cG.eq(h:cG ks l):entries ks l=aa (rowOf ks l):=by
 delta cG at h;delta rowOf;cases e:entries ks l with
 |none=>simp_all
 |some r=>rfl
theorem cG.len(h:cG ks l):l.length=ks.length:=(Bd h.eq).1
theorem cG.Bl(h:cG ks l):(rowOf ks l).length=ks.length:=(Bd h.eq).2
theorem cG.at(h:cG ks l)(o:ks[i]? =aa k):∃n x,l[i]? =aa n/\(rowOf ks l)[i]? =aa x/\(x=ae↔n=5000)/\∀v,x=aa v->lK k v/\my v=n:=by
 have s:i<ks.length:=(bx.mp o).1;have e:i<l.length:=by rw[h.len];exact s
 have f:l[i]? =aa l[i]:=aY e;obtain⟨x,hx,p⟩:=FA h.eq i k _ o f;exact#[_,x,f,hx,(Fz p).2,λv q=>Yb (by rw[p,q])]
theorem vN(h:i<m.columns.length):(aq m)[i]? =aa (kindOf m i):=by
 delta aq kindOf;rw[bL,aY h];rfl
noncomputable def aO{e:Type}(n:Nat)(f:Nat->e):List e:=(fg n).map f
theorem b5{e} n (f:Nat->e):(aO n f).length=n:=by delta aO;rw[aJ,me]
theorem cT{e}(f:Nat->e)(h:i<n):(aO n f)[i]? =aa (f i):=by delta aO;rw[bL,wx h];rfl
theorem OC{o}(f:Nat->o){x}:(aO n f).set i x=aO n λj=>if j=i then x else f j:=by
 refine l9 λj=>?_;rw[HA,b5];by_cases h:j<n
 .rw[cT _ h,cT _ h];by_cases e:i=j
  .subst e;simp_all
  .rw[aw e,aw (bG e)]
 .rw[fz (by rw[b5];simp_all),fz (by rw[b5];simp_all)]
  by_cases e:i=j
  .subst e;rw[aC Z,aw h]
  .rw[aw e]
theorem jY{e}{f g:Nat->e}(h:∀i,i<n->f i=g i):aO n f=aO n g:=i9 λi o=>h i (gx.mp o)
theorem vO{e} n (x:e):aO n (λy=>x)=cR n x:=by delta aO;rw[Cz,me]
theorem x4{p o:Type}(l:List p) f (g:Nat->o)(h:∀i x,l[i]? =aa x->f x=g i):l.map f=aO l.length g:=by
 refine l9 λj=>?_;rw[bL];by_cases e:j<l.length
 .rw[cT _ e,aY e];show aa _=_;rw[h j _ (aY e)]
 .rw[fz (by simp_all),fz (by rw[b5];simp_all)];rfl
noncomputable def mQ(cs:List Column)(l:List Int)(i:Nat)(c:Column):Option (Nat×Nat):=
 if 5000∈(i::c.parents).map (λp=>(l[p]?).getD 0) then ae else aa ((pW cs l c.parents).toNat,((l[i]?).getD 0-fL c.kind).toNat)
noncomputable def eQ(cs:List Column)(i:Nat)(c:Column)(ls:List (List Int)):List (List Nat):=
 aO (bw cs c.parents) λa=>aO (aD c.kind) λb=>(ls.filter λl=>mQ cs l i c==aa (a,b)).length
theorem mapM_some{e o:Type}{f}{g:e->o}:∀(l:List e),(∀x∈l,f x=aa (g x))->l.mapM f=aa (l.map g)
 |[],_=>Z
 |x::l,h=>by
  rw[HH,h x bH,mapM_some l λy p=>h y (bI _ p)];rfl
theorem mapM_none{e o:Type}{f:e->Option o}:∀(l:List e) x,x∈l->f x=ae->l.mapM f=ae
 |[],x,h,_=>(dB h).elim
 |y::l,x,h,hx=>by
  rw[HH];obtain rfl|h:=bM.mp h
  .rw[hx];rfl
  .cases p:f y with
   |none=>rfl
   |some z=>rw[mapM_none l x h hx];rfl
noncomputable def se(r:Row)(p:Nat):Val:=((r[p]?).bind λx=>x).getD (.flag az)
theorem Yc(s:cO m.columns)(u:cG (aq m) l)(f:m.columns[i]? =aa c)(h:5000∈(i::c.parents).map (λp=>(l[p]?).getD 0)):family m (rowOf (aq m) l) i=ae:=by
 have o:=(bx.mp f).1;obtain⟨p,e,q⟩:=bK.mp h;have bC:p<m.columns.length:=by
  obtain rfl|e:=bM.mp e
  .omega
  .exact gy ((s i c f).2.2.1 p e) o
 obtain⟨n,x,z,y,w,C⟩:=u.at (vN bC);rw[z] at q;obtain rfl:=w.mpr q;refine mapM_none _ p ?_ (by rw[y];rfl)
 rw[r_ f];obtain rfl|e:=bM.mp e
 .exact gZ _ (cj.mpr Z)
 .exact kg _ e
theorem OD{ps:List _}(w:cG (aq m) l)(f:∀p∈ps,p<m.columns.length)(h:¬5000∈ps.map (λp=>(l[p]?).getD 0)):∀p∈ps,p<m.columns.length/\(rowOf (aq m) l)[p]? =aa (aa (se (rowOf (aq m) l) p))/\lK (kindOf m p) (se (rowOf (aq m) l) p)/\(l[p]?).getD 0=my (se (rowOf (aq m) l) p):=by
 intro p o;have bC:=f p o;rcases w.at (vN bC) with⟨n,x,s,q,E,D⟩;have u:=λz=>h (bK.mpr #[p,o,by rwa[s]])
 cases x with
 |none=>exact absurd (E.mp Z) u
 |some v=>
  obtain⟨C,y⟩:=D v Z;have e:se (rowOf (aq m) l) p=v:=by delta se;rw[q];rfl
  rw[e];exact#[bC,q,C,by rw[s,y];rfl]
theorem Yd:∀{ks}{u v},Vs ks u->Vs ks v->iu ks u=iu ks v->u=v:=by
 intro ks u v o f h;have e:=Bi o;rw[h,Bi f] at e;exact(bf e).symm
theorem Ye(L:cO m.columns)(N:cG (aq m) l)(o:m.columns[i]? =aa c){a}{g}(E:(groups m i)[a]? =aa g)(D:(ia (kindOf m i))[b]? =aa v):(family m (rowOf (aq m) l) i==aa (g++[v]))=(mQ m.columns l i c==aa (a,b)):=by
 have O:=(bx.mp o).1;have H:∀p∈(i::c.parents),p<m.columns.length:=λp f=>by
  obtain rfl|f:=bM.mp f
  .omega
  .exact gy ((L i c o).2.2.1 p f) O
 delta mQ;by_cases F:5000∈(i::c.parents).map (λp=>(l[p]?).getD 0)
 .rw[Yc L N o F,aC F];rfl
 .rw[aw F];have y:=OD N H F;generalize V:rowOf _ l=r at y;have e:family m r i=aa (c.parents.map (se r)++[se r i]):=by
   delta family;rw[r_ o,mapM_some _ λp f=>?_]
   .rw[bR];rfl
   .have I:p∈(i::c.parents):=by
     obtain f|f:=df.mp f
     .exact bI _ f
     .rw[cj] at f;rw[f];exact bH
    rw[(y p I).2.1];rfl
  rw[e];have J:=OB λp f=>by
   obtain⟨C,_,q,R⟩:=y p (bI _ f);exact#[C,q,R]
  have s:=xZ _ λp f=>(y p (bI _ f)).2.2.1;rw[J,cI,xY s];rcases y i bH with⟨_,_,Q,P⟩;have f:=n6 Q;have u:((l[i]?).getD 0-fL c.kind).toNat=gM (kindOf m i) (se r i):=by
   rw[P,f.2.2,iX o];lia
  rw[u];have K:=by
   have:=dg E;unfold groups at this;rw[r_ o] at this;omega
  have w:=by
   delta groups at E;rw[r_ o] at E;exact FF E
  have z:b<aD _:=(bx.mp D).1;have G:=by rw[uh _ _ z] at D;exact(bf D).symm
  rw[gu,fJ,fJ];constructor
  .intro h;have h:=bf h;obtain⟨C,q⟩:=List.append_inj' h Z;have q:=by simpa using q
   simp[C,w,q,G,Bj,z]
  .intro h;have h:=bf h;have C:=(qT h).1;have q:=(qT h).2;have U:=Yd s (Oz K) (by rw[C,w])
   have S:=by
    have:=f.2.1;rw[q,D] at this;exact(bf this).symm
   rw[U,S]
theorem OE(o:cO m.columns)(f:m.columns[i]? =aa c)(h:∀l∈ls,cG (aq m) l):K9 m (ls.map (rowOf (aq m))) i=eQ m.columns i c ls:=by
 delta K9 eQ;rw[x4 _ _ _]
 .rw[Bk o f]
 .intro a g s;have e:aD c.kind=(ia (kindOf m i)).length:=by rw[iX f];rfl
  rw[e];refine x4 _ _ _ λb v p=>?_;rw[Hu,aJ]
  congr 1
  exact Ht λl q=>Ye o (h l q) f s p
theorem Yf(h:mQ cs l i c=ae):eQ cs i c (ls++[l])=eQ cs i c ls:=by
 simp[eQ,h]
theorem Yg{v}(h:mQ cs l i c=aa (g,v))(p:g<bw cs c.parents)(o:v<aD c.kind):∃cnt n,(eQ cs i c ls)[g]? =aa cnt/\cnt[v]? =aa n/\n<=ls.length/\eQ cs i c (ls++[l])=(eQ cs i c ls).set g (cnt.set v (n+1)):=by
 exists _,_,cT _ p,cT _ o,HG _ _;delta eQ;rw[OC];refine jY λa x=>?_;by_cases e:a=g
 .rw[aC e,OC];subst e;refine jY λb x=>?_;rw[Cm,b6,yS,h];by_cases f:b=v
  .subst f;simp
  .rw[aw f];simp[bG f]
 simp[e,h,bG]
theorem Yh cs i c:eQ cs i c []=cR (bw cs c.parents) (cR (aD c.kind) 0):=by
 rw[<-vO];exact jY λa x=>vO _ _
theorem Yi(E:cO m.columns)(F:cG (aq m) l)(w:m.columns[i]? =aa c){a}(h:mQ m.columns l i c=aa (a,b)):a<bw m.columns c.parents/\b<aD c.kind/\pW m.columns l c.parents=a/\(l[i]?).getD 0-fL c.kind=b:=by
 have C:=(bx.mp w).1;have o:∀p∈(i::c.parents),p<m.columns.length:=λp e=>by
  obtain rfl|e:=bM.mp e
  .omega
  .exact gy ((E i c w).2.2.1 p e) C
 delta mQ at h;by_cases y:5000∈(i::c.parents).map (λp=>(l[p]?).getD 0)
 .rw[aC y] at h;cases h
 .rw[aw y] at h;have s:=OD F o y;have q:=OB λp e=>by
   rcases s p (bI _ e) with⟨z,_,D,H⟩;exact#[z,D,H]
  have f:=xZ _ λp e=>(s p (bI _ e)).2.2.1;rw[xY f] at q;have u:=xX f;rw[FG λp e=>o p (bI _ e)] at u;rcases s i bH with⟨_,_,G,J⟩;have e:=n6 G;rw[iX w] at e;have h:=bf h;have z:=(qT h).1;have D:=(qT h).2;refine#[by simp_all,by omega,by simp_all,by lia]
theorem Bm:∀cnt∈eQ cs i c ls,cnt.length=aD c.kind/\∀n∈cnt,n<=ls.length:=by
 intro cnt h;obtain⟨a,_,rfl⟩:=bK.mp h;refine#[b5 _ _,λn e=>?_];obtain⟨b,_,rfl⟩:=bK.mp e;exact HG _ _
theorem x5:(eQ cs i c ls).length=bw cs c.parents:=b5 _ _
theorem OF{B}(e:0<B):∀(l:List _) a,(l.map λx=>aW x B).foldl D_ (aW a B)=aW (a+l.sum) B
 |[],a=>by simp
 |x::l,a=>by
  rw[b7,ma,Bg e e,show a* B+x*B=(a+x)*B by grind,n4 _ _ _ e,OF e l,kW]
  congr 1;lia
theorem FI(e:0<B):aW 0 B=K5:=by
 delta aW;rw[aw (by lia)]
 show(#[_,B/bj 0 B]:cK)=#[0,1];rw[Nat.gcd_zero_left,Nat.div_self e,Int.zero_ediv]
theorem OG(e:0<B)(l:List _):ib (l.map λx=>aW x B)=aW l.sum B:=by
 delta ib;rw[<-FI e,OF e l 0,yN]
theorem Yj{e:Type}(h:0<B)(l:List e) f:ib (l.map λx=>aW (f x) B)=aW (l.map f).sum B:=by
 rw[<-OG h,eU];rfl
theorem vP(f:0<b):(aW a b).num=0↔a=0:=by
 have e:=mP (a:=a) f;have p:=mO (a:=a) f;constructor
 .intro h;rw[h,Cf] at e;obtain h|h:=He.mp e.symm
  .omega
  .simp_all
 .intro h;rw[h,Cf] at e;obtain o|o:=He.mp e
  .rw[h];omega
  .simp_all
theorem x6(f:0<b)(e:0<=a):0<=(aW a b).num:=by
 delta aW;rw[aw (by lia)]
 exact Int.ediv_nonneg e (by simp)
theorem OH(f:0<b)(e:0<=a):(aW a b).num<=a:=by
 delta aW;rw[aw (by lia)]
 exact Int.ediv_le_self _ e
theorem OI(e:0<b):(aW a b).den<=b:=by
 delta aW;rw[aw (by lia)]
 exact oX _ _
theorem FJ(e:0<b):(aW a b).den∣b:=by
 delta aW;rw[aw (by lia)]
 exact Nat.div_dvd_of_dvd (kX _ _)
theorem x8:∀{ws:List Int},(∀x∈ws,0<=x)->0<=ws.sum
 |[],_=>by simp
 |x::ws,h=>by
  have o:=h x bH;have f:=x8 λy e=>h y (bI _ e);rw[kW];lia
theorem FK:∀{ws:List Int},(∀x∈ws,0<=x)->∀x∈ws,x<=ws.sum
 |[],_,x,h=>(dB h).elim
 |y::ws,h,x,hx=>by
  have f:=h y bH;have e:=x8 λz hz=>h z (bI _ hz);rw[kW];obtain rfl|hx:=bM.mp hx
  .lia
  .have:=FK (λz hz=>h z (bI _ hz)) x hx;lia
noncomputable def e_(ws:List Int)(old:List cK):List cK:=if ws.sum=0 then old else ws.map λx=>aW x ws.sum.toNat
noncomputable def kH(A B:Nat)(cnt:List Nat):List Int:=cnt.map λ(n:Nat)=>(n:Int)*B+A
noncomputable def sf(A B:Nat)(ct:List (List Nat))(old:cx):cx:=oW (λcnt o=>e_ (kH A B cnt) o) ct old
theorem FL{cnt}:∀x∈kH A B cnt,0<=x:=λx hx=>by
 obtain⟨n,_,rfl⟩:=bK.mp hx;have:(0)<=(n:Int)*B:=Int.mul_nonneg (by simp) (by simp)
 lia
theorem FN{L}(f:0<L){ws}(hw:∀x∈ws,0<=x) old:shares (ws.map λx=>aW x L) old=e_ ws old:=by
 delta shares e_;rw[OG f];have p:=x8 hw;by_cases h:ws.sum=0
 .rw[aC ((vP f).mpr h),aC h]
 .rw[aw (λz=>h ((vP f).mp z)),aw h,eU];refine i9 λx hx=>?_;have e:ws.sum=((ws.sum.toNat:Nat)):=by lia
  show(aW x L).div _=_;have o:0<ws.sum.toNat:=by lia
  generalize ws.sum.toNat=S at e o;rw[e,Ox f o f,d5 L S];exact n4 _ _ _ f
theorem OJ n:z4 n=aW n 1:=by
 delta z4 aW;simp
theorem FO:∀ws os,Ei ws os=oW shares ws os
 |[],os=>by rfl
 |w::ws,[]=>Z
 |w::ws,o::os=>by
  show shares w o::Ei ws os=shares w o::oW _ ws os;rw[FO ws os]
theorem OK{o h e p:Type}(f:h->e->p) g:∀(l:List o) k,oW f (l.map g) k=oW (λx y=>f (g x) y) l k
 |[],k=>Z
 |x::l,[]=>Z
 |x::l,y::k=>by rw[b7,HY,HY,OK f g l k]
theorem Yk(e:0<B) cnt old:shares (cnt.map λ(n:Nat)=>(z4 n).add (aW A B)) old=e_ (kH A B cnt) old:=by
 rw[<-FN e FL];delta kH;rw[eU]
 congr 1
 refine i9 λn x=>?_;rw[OJ,Bg (by simp) e]
 simp
noncomputable def mR(cs:List Column)(ls:List (List Int))(A B:Nat)(ch:List cx):List cx:=ch.mapIdx λi t=>match cs[i]? with
 |some c=>sf A B (eQ cs i c ls) t
 |none=>[]
theorem Yl(q:cO m.columns)(h:∀l∈ls,cG (aq m) l)(u:0<B)(s:ch.length=m.columns.length):fitted m (ls.map (rowOf (aq m))) (aW A B) ch=mR m.columns ls A B ch:=by
 delta fitted mR;refine l9 λi=>?_;rw[bL,wu];by_cases p:i<m.columns.length
 .have f:=aY p;have e:ch[i]? =aa _:=aY (by simp_all)
  rw[wx p,e,f];show aa (Ei _ _)=aa _;rw[e,OE q f h,FO,OK];congr 2
  funext cnt o
  exact Yk u _ o
 .rw[fz (by rw[me];simp_all),fz (l:=ch) (by simp_all)];rfl
def Bn(f:cK):Prop:=iW f/\0<=f.num/\f.num<=10^40/\f.den<=10^40
def vQ(n:Nat)(g:List cK):Prop:=g.length=n/\∀f∈g,Bn f
def nU(cs:List Column)(c:Column)(t:cx):Prop:=t.length=bw cs c.parents/\∀g∈t,vQ (aD c.kind) g
def gN(cs:List Column)(ch:List cx):Prop:=ch.length=cs.length/\∀(i:Nat)(c:Column)(t:cx),cs[i]? =aa c->ch[i]? =aa t->nU cs c t
theorem OL{ws:List Int}{old:List cK}(s:ws.length=n)(hw:∀x∈ws,0<=x)(q:ws.sum<=10^40)(e:vQ n old\/ws.sum≠0):vQ n (e_ ws old):=by
 delta e_;by_cases h:ws.sum=0
 .rw[aC h];obtain e|e:=e
  .exact e
  .exact absurd h e
 .rw[aw h];refine#[by rw[aJ];exact s,λf u=>?_]
  obtain⟨x,hx,rfl⟩:=bK.mp u;have C:=x8 hw;have o:0<ws.sum.toNat:=by lia
  have p:=hw x hx;have z:=FK hw x hx;have y:=OH (a:=x) o p;have w:=OI (a:=x) o;refine#[vJ o,x6 o p,Cd y (Cd z q),bF w ?_];have:((ws.sum.toNat:Nat):Int)<=((10^40:Nat):Int):=by
   rw[show((10^40:Nat):Int)=10^40 by norm_cast];lia
  simp_all
theorem FP:∀{ws:List Int},(∀x∈ws,x<=b)->ws.sum<=(ws.length*b:Nat)
 |[],_=>by simp
 |x::ws,h=>by
  have o:=h x bH;have f:=FP λy e=>h y (bI _ e);rw[kW,bP,qL,jG];lia
theorem Ym(e:0<n)(h:n<=64):vQ n (rB n):=by
 delta rB;refine#[by rw[aJ,me],λf o=>?_]
 obtain⟨x,_,rfl⟩:=bK.mp o;have p:=OH (a:=1) e (by simp)
 have q:=OI (a:=1) e;have:(64:Nat)<=10^40:=by decide
 refine#[vJ e,x6 e (by simp),Cd p (by decide),by lia]
theorem OM(f:cO m.columns):gN m.columns (tV m):=by
 rw[FH f];refine#[by rw[aJ],λi c t h e=>?_]
 rw[bL,h] at e;obtain rfl:=(bf e).symm;refine#[Cw,λg o=>?_];rw[List.eq_of_mem_replicate o];have:=size_pos (f i c h).1;exact Ym (by lia) this.2
theorem Yn(C:cO cs)(D:ls.length<=100)(K:A<=10^18)(G:B<=10^18)(h:gN cs ch):gN cs (mR cs ls A B ch):=by
 delta mR;refine#[by rw[yX];exact h.1,λi c t q p=>?_]
 rw[wu] at p;have E:i<ch.length:=by
  have:=(bx.mp q).1;have:=h.1;simp_all
 have e:=aY E;generalize ch[i]=o at e;rw[e,q] at p;obtain rfl:sf A B _ o=t:=bf p;obtain⟨y,k2⟩:=h.2 i c o q e;have hsz:=size_pos (C i c q).1;refine#[?_,λg s=>?_]
 .delta sf;rw[Cy,x5,y,Nat.min_self]
 .unfold sf at s;rw[<-List.map_uncurry_zip_eq_zipWith] at s;obtain⟨⟨cnt,u⟩,hz,rfl⟩:=bK.mp s;have f:=yZ hz;obtain⟨J,I⟩:=Bm _ f.1;have F:∀x∈kH A B cnt,x<=((101*10^18:Nat)):=λx hx=>by
   obtain⟨n,z,rfl⟩:=bK.mp hx;have:=I n z;have H:=nv (by omega) G
   lia
  show vQ _ (e_ (kH A B cnt) u);refine OL (by delta kH;rw[aJ];omega) FL ?_ (.inl (k2 u f.2))
  have H:=FP F;have w:(kH A B cnt).length* (101*10^18)<=64* (101*10^18):=ja _ (by delta kH;simp_all)
  lia
theorem ON k ks v (r:Row):fillings (k::ks) (aa v::r)=(fillings ks r).map λl=>v::l:=by
 show[v].flatMap _=_;simp
theorem OO k ks (r:Row):fillings (k::ks) (ae::r)=(ia k).flatMap λv=>(fillings ks r).map λl=>v::l:=Z
theorem Bo:∀ks r,r.length=ks.length->(fillings ks r).length=gapsSize ks r
 |[],[],_=>Z
 |k::ks,aa v::r,h=>by
  rw[ON,aJ,Bo ks r (by simpa using h)];rfl
 |k::ks,ae::r,h=>by
  have:=Bo ks r (by simpa using h)
  rw[OO,FE λv x=>by rw[aJ,this]];rfl
theorem Bp:∀i ks r,r.length=ks.length->gapsSize (ks.drop i) (r.drop i)∣gapsSize ks r
 |0,ks,r,_=>by simp
 |i+1,[],[],_=>Ib _
 |i+1,k::ks,aa v::r,h=>Bp i ks r (by simpa using h)
 |i+1,k::ks,ae::r,h=>tB (Bp i ks r (by simpa using h)) (nt _ _)
theorem OP:∀i (ks:List _) (r:Row) k,ks[i]? =aa k->r[i]? =aa ae->gapsSize (ks.drop i) (r.drop i)=aD k*gapsSize (ks.drop (i+1)) (r.drop (i+1)):=by
 intro i ks r k o h;have q:=(bx.mp o);have p:=(bx.mp h);obtain⟨f,u⟩:=q;obtain⟨e,s⟩:=p;rw[tf f,tf e,u,s];rfl
theorem Yo:∀i (ks:List _) (r:Row) k v,ks[i]? =aa k->r[i]? =aa (aa v)->gapsSize (ks.drop i) (r.drop i)=gapsSize (ks.drop (i+1)) (r.drop (i+1)):=by
 intro i ks r k v o h;have q:=(bx.mp o);have p:=(bx.mp h);obtain⟨f,u⟩:=q;obtain⟨e,s⟩:=p;rw[tf f,tf e,u,s];rfl
theorem Yp(j g s t:Nat):j%(s*g*t)/g%s=j/g%s:=by
 rw[show s*g*t=g* (s*t) by rw[d5 s g,jF],Nat.mod_mul_right_div_self,Nat.mod_mul_right_mod]
theorem Bq:∀ks r j,r.length=ks.length->j<gapsSize ks r->∃vs,(fillings ks r)[j]? =aa vs/\vs.length=ks.length/\∀i k,ks[i]? =aa k->∃v,vs[i]? =aa v/\(∀u,r[i]? =aa (aa u)->v=u)/\(r[i]? =aa ae->v=vK k (j/gapsSize (ks.drop (i+1)) (r.drop (i+1))%aD k)/\0<aD k)
 |[],[],j,_,o=>by
  have:j=0:=by have:j<1:=o;simp_all
  subst this;exact#[[],Z,Z,λi k h=>by simp at h]
 |k::ks,aa v::r,j,h,o=>by
  rcases Bq ks r j (by simpa using h) o with⟨vs,F,E,D⟩
  refine#[v::vs,by simp[ON,F],by simp_all,λi p f=>?_]
  cases i with
  |zero=>exact#[v,Z,λu s=>by simpa using s,λz=>by simp at z]
  |succ i=>exact D i p (by simpa using f)
 |k::ks,ae::r,j,h,o=>by
  have C:=by simpa using h
  have o:j<aD k*gapsSize ks r:=o;have y:0<gapsSize ks r:=by
   cases H:gapsSize ks r with
   |zero=>simp_all
   |succ n=>simp
  have w:=(CJ y).mpr o;rcases Bq ks r _ C (nu _ y) with⟨vs,F,E,D⟩;have e:j=j/gapsSize ks r*gapsSize ks r+j%gapsSize ks r:=by rw[d5];exact(y3 j _).symm
  refine#[vK k (j/gapsSize ks r)::vs,?_,by rw[bP,E,bP],λi p f=>?_]
  .rw[OO]
   conv=>lhs;rw[e]
   rw[Bh (λv x=>by rw[aJ,Bo ks r C]) _ _ _ (uh k _ w) (nu _ y),bL,F];rfl
  .cases i with
   |zero=>
    have f:=by simpa using f
    subst f;refine#[_,Z,λu s=>by simp at s,λx=>#[?_,tE (c7 _) w]]
    show _=vK k (j/gapsSize ks r%aD k);rw[uM w]
   |succ i=>
    rcases D i p f with⟨v,N,L,K⟩;refine#[v,N,L,λq=>?_];obtain⟨J,I⟩:=K q;refine#[?_,I];rw[J]
    congr 1
    have hd:=Bp i ks r C;rw[OP i ks r p f q] at hd;obtain⟨t,G⟩:=hd;rw[G];exact Yp _ _ _ _
noncomputable def er(ks:List eE)(l:List Int)(j:Nat):List Val:=((fillings ks (rowOf ks l))[j]?).getD []
noncomputable def aI(ks:List eE)(l:List Int):Nat:=gapsSize ks (rowOf ks l)
theorem Yq(h:cG ks l):fillings ks (rowOf ks l)=aO (aI ks l) (er ks l):=by
 have:=x4 _ (λx=>x) (er ks l) λi x hx=>by delta er;rw[hx];rfl
 rw[CD] at this;rwa[Bo _ _ h.Bl] at this
noncomputable def rk(m:Model)(l:List Int)(j i:Nat):Nat:=gM (kindOf m i) (valAt (er (aq m) l j) i)
theorem sg(h:cG (aq m) l)(F:j<aI (aq m) l)(z:i<m.columns.length):(er (aq m) l j).length=m.columns.length/\(er (aq m) l j)[i]? =aa (valAt (er (aq m) l j) i)/\lK (kindOf m i) (valAt (er (aq m) l j) i)/\((l[i]?).getD 0≠5000->(l[i]?).getD 0=fL (kindOf m i)+rk m l j i)/\((l[i]?).getD 0=5000->rk m l j i=j/gapsSize ((aq m).drop (i+1)) ((rowOf (aq m) l).drop (i+1))%aD (kindOf m i)):=by
 rcases Bq _ _ j h.Bl F with⟨vs,I,H,G⟩;have e:er (aq m) l j=vs:=by delta er;rw[I];rfl
 rcases G i _ (vN z) with⟨v,E,D,C⟩;have J:valAt vs i=v:=by delta valAt;rw[E];rfl
 rcases h.at (vN z) with⟨n,x,y,k2,w,s⟩;delta rk;rw[e,J];exists by rw[H];delta aq;rw[aJ],E,?_,?_
 .cases x with
  |none=>
   obtain⟨f,p⟩:=C k2;rw[f];have q:=nu (j/gapsSize ((aq m).drop (i+1)) ((rowOf (aq m) l).drop (i+1))) p;exact dg (uh _ _ q)
  |some u=>rw[D u k2];exact(s u Z).1
 .intro o;rw[y] at o⊢;cases x with
  |none=>exact absurd (w.mp Z) o
  |some u=>
   rw[D u k2];obtain⟨f,p⟩:=s u Z;have:=(n6 f).2.2;show n=_;simp_all
 .intro o;rw[y] at o;obtain rfl:=w.mpr o;obtain⟨f,p⟩:=C k2;rw[f,Bj _ _ (nu _ p)]
theorem OQ(h:cG (aq m) l)(e:j<aI (aq m) l)(f:i<m.columns.length):rk m l j i<aD (kindOf m i):=(n6 (sg h e f).2.2.1).1
noncomputable def clF(m:Model)(l:List Int)(j:Nat)(ps:List Nat):Nat:=ps.foldl (λc p=>c*dA m.columns p+rk m l j p) 0
theorem OR m l j ps p:clF m l j (ps++[p])=clF m l j ps*dA m.columns p+rk m l j p:=by delta clF;rw[tj];rfl
noncomputable def cl(m:Model)(l:List Int)(j i:Nat):Nat:=clF m l j (Ef m i++[i])
theorem OS{m}{j}:∀(ps:List _) g,(∀p∈ps,p<m.columns.length)->ps.foldl (λc p=>c*dA m.columns p+rk m l j p) g=g*eF (ps.map (kindOf m))+iu (ps.map (kindOf m)) (ps.map (valAt (er (aq m) l j)))
 |[],g,_=>by show g=g*1+0;simp
 |p::ps,g,h=>by
  rw[ma,OS ps _ λq e=>h q (bI _ e),vM (h p bH)];show _=g* (aD _*eF _)+ (rk m l j p*eF _+iu _ _)
  grind
theorem Yr(h:lK k v):placeOf ((ia k).map λv=>[v]) [v]=gM k v:=by
 have e:((ia k).map λv=>[v])=mw [k]:=by
  show _=(ia k).flatMap λv=>[[v]];rw[List.map_eq_flatMap]
 rw[e,xY (.cons h .nil)];show gM k v*1+0=_;simp
theorem Br(D:cO m.columns)(h:cG (aq m) l)(z:j<aI (aq m) l)(o:m.columns[i]? =aa c):cellOf m (er (aq m) l j) i=(cl m l j i/aD c.kind,cl m l j i%aD c.kind)/\cl m l j i<bw m.columns c.parents*aD c.kind:=by
 have u:=(bx.mp o).1;have f:=λp y=>gy ((D i c o).2.2.1 p y) u;have q:=xZ _ λp y=>(sg h z (f p y)).2.2.1;have s:=xX q;rw[FG f] at s;have e:cl m l j i=iu (c.parents.map (kindOf m)) (c.parents.map (valAt (er (aq m) l j)))*aD c.kind+rk m l j i:=by
  delta cl;rw[OR,r_ o,vM u,iX o];delta clF;rw[OS _ _ f,uP,o7]
 have w:=OQ h z u;rw[iX o] at w;delta cellOf groups;rw[r_ o,xY q,Yr (sg h z u).2.2.1,e];generalize iu _ _=R at *;have C:0<aD c.kind:=by lia
 exists ?_
 .rw[d5,Ig C,Ia w,uK,Ih,uM w];rfl
 .have:(R+1)*aD _<=bw _ _*aD c.kind:=ja _ s;rw[qL,jG] at this;lia
noncomputable def dD(t:cx)(s cell:Nat):cK:=((t[cell/s]?.getD [])[cell%s]?).getD K5
theorem FQ{t}(u:nU cs c t){cell}(h:cell<bw cs c.parents*aD c.kind):∃g,t[cell/aD c.kind]? =aa g/\g[cell%aD c.kind]? =aa (dD t (aD c.kind) cell)/\Bn (dD t (aD c.kind) cell):=by
 have w:0<aD c.kind:=by
  cases e:aD _ with
  |zero=>simp_all
  |succ n=>simp
 have z:cell/aD c.kind<t.length:=by rw[u.1];exact(CJ w).mpr h
 have q:=aY z;have o:=u.2 _ (ff z);generalize t[cell/aD _]=g at q o;have y:cell%aD c.kind<g.length:=by rw[o.1];exact nu _ w
 have s:=aY y;have p:=o.2 _ (ff y);generalize g[cell%aD _]=f at s p;have e:dD t (aD c.kind) cell=f:=by delta dD;rw[q];show(g[cell%aD _]?).getD _=f;rw[s];rfl
 exact#[g,q,by rw[s,e],by simp_all]
theorem OT{x:Nat}{y:Nat}(p:0<b)(e:0<y)(o:bj x y=1)(h:(x:Int)*b=a*y):aW a b=#[(x:Int),y]:=by
 rw[<-Be e p h];exact Bf (f:=#[(x:Int),y]) #[e,by simpa using o]
theorem Ys{a c:Nat}(D:bj a b=1)(C:bj c d=1)(s:0<b)(hd:0<d):
  Eb #[(a:Int),b] #[(c:Int),d]=#[(((a/bj a d)* (c/bj b c):Nat):Int),(b/bj b c)* (d/bj a d)]:=by
 unfold Eb;have f:0<bj a d:=kY _ hd;have e:0<bj b c:=y4 _ s;have w:=wy f;have u:=wy e;obtain⟨I,z⟩:=qM a d;obtain⟨d',h⟩:=kX a d;obtain⟨H,o⟩:=qM b c;obtain⟨G,y⟩:=kX b c;generalize bj a d=p at *;generalize bj b c=q at *;subst z h o y;rw[f7 _ f,f7 _ f] at w;rw[f7 _ e,f7 _ e] at u;rw[f7 _ f,f7 _ f,f7 _ e,f7 _ e];refine OT (gA s hd) (gA (tG s) (tG hd)) ?_ ?_
 .have F:ml I H:=zd (nt _ _) (ze (nt _ _) D);have E:ml G d':=zd (nt _ _) (ze (nt _ _) C);exact CL (zf F w) (zf u.symm E)
 .push_cast;grind
theorem OU a k m:ml (a+k*m) m↔ml a m:=by
 unfold ml;rw[Nat.gcd_add_mul_right_left]
theorem Yt{a c:Nat}(J:bj a b=1)(I:bj c d=1)(H:0<b)(hd:0<d)(s r t g:Nat)(f:s=bj b d)(G:r=b/s)(p:t=a* (d/s)+c*r)(h:g=bj t s):
  D_ #[(a:Int),b] #[(c:Int),d]=#[((t/g:Nat):Int),r* (d/g)]:=by
 unfold D_;have o:0<s:=by rw[f];exact kY _ hd
 have q:0<g:=by rw[h];exact kY _ o
 have e:=wy (f▸o);rw[<-f] at e;obtain⟨P,E⟩:s∣b:=f▸qM b d;obtain⟨d',C⟩:s∣d:=f▸kX b d;clear f;subst E C;rw[f7 _ o] at e G p;rw[f7 _ o] at e;subst G;have ct:=wy (h▸q);rw[<-h] at ct;obtain⟨t',u⟩:g∣t:=h▸qM t s;obtain⟨F,y⟩:g∣s:=h▸kX t s;clear h;subst u y;rw[f7 _ q,f7 _ q] at ct;rw[f7 _ q,jF g F d',f7 _ q];have D:0<r:=tG H;have z:0<d':=tG hd;have w:0<F:=tG o;refine OT (gA H (by rw[<-jF];exact hd)) (gA D (gA w z)) ?_ ?_
 .
  have L:ml (g*t') r:=by
   have O:ml a r:=ze (nt _ _) J;have x:ml (a*d') r:=CL O e.symm;rw[p];exact(OU _ _ _).mpr x
  have K:ml (g*t') d':=by
   have N:ml c d':=ze (nt _ _) I;have x:ml (c*r) d':=CL N e;rw[p,qK];exact(OU _ _ _).mpr x
  exact zf (zd (nt _ _) L) (zf ct (zd (nt _ _) K))
 .have p:((g:Int)*t')=a*d'+c*r:=by exact_mod_cast p
  push_cast;grind
noncomputable def lM(b d:Nat):Nat:=b/bj b d*d
noncomputable def eR(l:List Nat):Nat:=l.foldl lM 1
theorem FR b d:lM b d=Ie b d:=by
 unfold lM Ie;rw[d5,<-Nat.mul_div_assoc _ (qM b d),d5]
theorem Yu l d:eR (l++[d])=lM (eR l) d:=by unfold eR;rw[tj];rfl
theorem Bs:∀(l:List _) a,0<a->(∀d∈l,0<d)->0<l.foldl lM a/\a∣l.foldl lM a/\(∀d∈l,d∣l.foldl lM a)/\(∀M,a∣M->(∀d∈l,d∣M)->l.foldl lM a∣M)
 |[],a,e,_=>#[e,Ib _,λd h=>(dB h).elim,λM h y=>h]
 |x::l,a,e,h=>by
  have hx:=h x bH;have s:0<lM a x:=by rw[FR];exact Nat.lcm_pos e hx
  obtain⟨q,f,p,o⟩:=Bs l _ s λd hd=>h d (bI _ hd);rw[FR] at q f p o;rw[ma,FR];refine#[q,tB (Nat.dvd_lcm_left _ _) f,λd hd=>?_,λM u hd=>o M (Nat.lcm_dvd u (hd x bH)) λd h=>hd d (bI _ h)];obtain rfl|hd:=bM.mp hd
  .exact tB (Nat.dvd_lcm_right _ _) f
  .exact p d hd
theorem FT{l}(h:∀d∈l,0<d):0<eR l:=(Bs l 1 (by simp) h).1
theorem FU{l}(h:∀d∈l,0<d)(hd:d∈l):d∣eR l:=(Bs l 1 (by simp) h).2.2.1 d hd
theorem OV{l}(h:∀d∈l,0<d)(e:∀d∈l,d∣M):eR l∣M:=(Bs l 1 (by simp) h).2.2.2 M (Nat.one_dvd _) e
theorem OW{b}:∀(l:List _) a,(∀d∈l,d<=b)->l.foldl lM a<=a*b^l.length
 |[],a,_=>by simp
 |x::l,a,h=>by
  rw[ma,bP];refine bF (OW l _ λd hd=>h d (bI _ hd)) ?_;have e:lM a x<=a*b:=nv (oX _ _) (h x bH);rw[zb,d5 _ b,<-jF];exact ja _ e
theorem Bt:∀n (l:List _),l.Nodup->(∀x∈l,x<n)->l.length<=n
 |0,[],_,_=>bb _
 |0,x::l,_,h=>absurd (h x bH) (by simp)
 |n+1,l,e,h=>by
  by_cases f:n∈l
  .have o:=List.length_erase_of_mem f;have p:=Bt n _ (e.erase n) λx hx=>by
    have:=(List.Nodup.mem_erase_iff e).mp hx;have:=h x this.2;lia
   simp_all
  .have:=Bt n l e λx hx=>by
    have o:=h x hx;have:x≠n:=λz=>f (z▸hx);lia
   lia
noncomputable def fM(f:cK)(L:Nat):Nat:=f.num.toNat* (L/f.den)
theorem Bu{f}{L}(h:iW f)(s:0<=f.num)(p:0<L)(hd:f.den∣L):aW (fM f L) L=f:=by
 obtain⟨q,rfl⟩:=hd;have o:=tG p;unfold fM;rw[f7 _ h.1];have e:((f.num.toNat*q:Nat))=f.num*q:=by rw[fH,yM s]
 simp[e,n4,o,Bf,h]
noncomputable def sumTo(n:Nat)(f:Nat->Nat):Nat:=(aO n f).sum
theorem iY{e} n (f:Nat->e):aO (n+1) f=aO n f++[f n]:=by delta aO;rw[y1,bR];rfl
theorem si n f:sumTo (n+1) f=sumTo n f+f n:=by simp[sumTo,iY]
theorem FV{b}:∀{n}{f},(∀j,j<n->f j<=b)->sumTo n f<=n*b
 |0,f,_=>by delta sumTo aO;simp
 |n+1,f,h=>by
  have:=FV (n:=n) λj e=>h j (by lia)
  have o:=h n (by simp)
  rw[si,qL,jG];lia
theorem OX{f g}:∀{n},(∀j,j<n->f j<=g j)->sumTo n f<=sumTo n g
 |0,_=>bb _
 |n+1,h=>by
  have:=OX (n:=n) λj e=>h j (by lia)
  have o:=h n (by simp)
  rw[si,si];lia
theorem OY{f g}(h:∀j,j<n->f j=g j):sumTo n f=sumTo n g:=by delta sumTo;rw[jY h]
theorem FW{d}:∀{n},sumTo n (λj=>f j*d)=sumTo n f*d
 |0=>by delta sumTo aO;simp
 |n+1=>by rw[si,si,FW,qL]
theorem OZ l x:ib (l++[x])=(ib l).add x:=by delta ib;rw[tj];rfl
theorem O0 l x:tU (l++[x])=(tU l).mul x:=by delta tU;rw[tj];rfl
theorem sum_filter{f:Type}{B:Nat}(e:0<B){p:Nat->Bool}{w:Nat->Nat}{F:Nat->f}{q:f->Bool}{φ:f->cK}:∀{n:Nat},(∀j,j<n->q (F j)=p j)->(∀j,j<n->φ (F j)=aW (w j:Nat) B)->ib (((aO n F).filter q).map φ)=aW (sumTo n λj=>if p j=ai then w j else 0:Nat) B
 |0,_,_=>(FI e).symm
 |n+1,h,u=>by
  have o:=sum_filter e (n:=n) (p:=p) (w:=w) (F:=F) (q:=q) (φ:=φ) (λj y=>h j (by lia)) λj y=>u j (by lia)
  rw[iY,Cm,bR,si];cases s:p n with
  |false=>
   have:[F n].filter q=[]:=by rw[yS,h n (by simp),s];rfl
   rw[this,kU,l8,o,aw (by simp),uK]
  |true=>
   have:[F n].filter q=[F n]:=by rw[yS,h n (by simp),s];rfl
   rw[this,b7,kU,OZ,o,u n (by simp),Bg e e,aC Z,show((sumTo n (λj=>if p j=ai then w j else 0):Nat):Int)*B+ (w n:Nat)*B=((sumTo n (λj=>if p j=ai then w j else 0)+w n:Nat):Int)*B by rw[yL];grind]
   exact n4 _ _ _ e
theorem Yv(e:0<B){w:Nat->Nat}{φ:Nat->cK}(h:∀j,j<n->φ j=aW (w j:Nat) B):ib (aO n φ)=aW (sumTo n w:Nat) B:=by
 have:=sum_filter e (p:=λy=>ai) (w:=w) (F:=φ) (q:=λy=>ai) (φ:=λx=>x) (n:=n) (λy y=>Z) h;rw[CD,List.filter_eq_self.mpr (λy y=>Z)] at this;rw[this]
 congr 2
noncomputable def CB:Nat:=68229
def WUp(m:Model)(ch:List cx)(l:List Int)(k:Nat)(W:Nat->Nat)(B:Nat):Prop:=
 0<B/\B<=2^(CB*k)/\(∀j,j<aI (aq m) l->W j<=2^(CB*k))/\∀j,j<aI (aq m) l->aW (W j:Nat) B=tU ((fg k).map λi=>cellAt ch i (cellOf m (er (aq m) l j) i))
def fN(m:Model)(ch:List cx)(l:List Int)(W:Nat->Nat)(B:Nat):Prop:=WUp m ch l m.columns.length W B
theorem Yw m ch l:WUp m ch l 0 (λx=>1) 1:=by
 refine#[by simp,za,λj x=>za,λj x=>?_]
 show aW 1 1=vk;rfl
theorem O1 n:((10^40))^n<=2^(133*n):=by
 rw[Nat.pow_mul];exact Nat.pow_le_pow_left (by decide) n
theorem Yx(f:cO m.columns)(h:cG (aq m) l){k}(o:j<aI (aq m) l){t}(p:m.columns[k]? =aa c)(e:ch[k]? =aa t):cellAt ch k (cellOf m (er (aq m) l j) k)=dD t (aD c.kind) (cl m l j k):=by
 rw[(Br f h o p).1];delta cellAt dD;rw[e];rfl
theorem Yy(O:cO m.columns)(H:gN m.columns ch)(h:cG (aq m) l){k}(hw:WUp m ch l k W B){t}(I:m.columns[k]? =aa c)(N:ch[k]? =aa t){L:List _}(u:∀j,j<aI (aq m) l->cl m l j k∈L)(E:∀x∈L,x<bw m.columns c.parents*aD c.kind)(J:L.Nodup):
  (0<eR (L.map λx=>(dD t (aD c.kind) x).den))/\(∀x∈L,fM (dD t (aD c.kind) x) (eR (L.map λx=>(dD t (aD c.kind) x).den))<=2^CB)/\eR (L.map λx=>(dD t (aD c.kind) x).den)<=2^CB/\
  WUp m ch l (k+1) (λj=>W j*fM (dD t (aD c.kind) (cl m l j k)) (eR (L.map λx=>(dD t (aD c.kind) x).den))) (B*eR (L.map λx=>(dD t (aD c.kind) x).den)):=by
 rcases hw with⟨K,V,U,R⟩;have G:=H.2 k c t I N;have y:=bF (Bt _ L J E) (by have:=(O k c I).2.2.2.2;rw[d5] at this;omega)
 have o:∀x∈L,Bn _:=λx hx=>by
  obtain⟨_,_,_,q⟩:=FQ G (E x hx);omega
 have p:∀d∈L.map (λx=>(dD t (aD c.kind) x).den),0<d:=λd hd=>by
  obtain⟨x,hx,rfl⟩:=bK.mp hd;exact(o x hx).1.1
 have D:=FT p;have f:eR (L.map λx=>(dD t (aD c.kind) x).den)<=(10^40)^512:=by
  have F:=OW _ 1 λd hd=>by
   obtain⟨x,hx,rfl⟩:=bK.mp hd;exact(o x hx).2.2.2
  rw[aJ,jG] at F;exact bF F (oZ (by decide) y)
 have z:=λx hx=>FU p (bK.mpr #[x,hx,Z]);generalize eR _=S at D f z;have w:∀x∈L,fM _ S<=2^CB:=λx hx=>by
  have F:(dD t (aD c.kind) x).num.toNat<=10^40:=by
   have:=(o x hx).2.2.1;simp_all
  have Y:S/(dD t (aD c.kind) x).den<=(10^40)^512:=bF (oX _ _) f;have Q:=nv F Y;have X:10^40* (10^40)^512=(10^40)^513:=by rfl
  rw[X] at Q;exact bF Q (O1 _)
 have C:S<=2^CB:=by
  refine bF f (bF (O1 _) (oZ (by simp) ?_))
  show 133*512<=68229;simp
 refine#[D,w,C,gA K D,?_,λj s=>?_,λj s=>?_]
 .rw[uN,tF,qQ];exact nv V C
 .rw[uN,tF,qQ];exact nv (U j s) (w _ (u j s))
 .have P:=o _ (u j s);rw[y1,bR,b7,kU,O0,<-R j s,Yx O h s I N]
  conv=>rhs;rw[<-Bu P.1 P.2.1 D (z _ (u j s))]
  rw[FD K D,fH]
theorem ui(hw:fN m ch l W B)(e:j<aI (aq m) l):xb m ch (er (aq m) l j)=aW (W j) B:=(hw.2.2.2 j e).symm
theorem Bv(h:cG (aq m) l):weighed m ch (rowOf (aq m) l)=aO (aI (aq m) l) λj=>(er (aq m) l j,xb m ch (er (aq m) l j)):=by
 delta weighed;rw[Yq h];delta aO;rw[eU];rfl
theorem Bw(h:cG (aq m) l)(hw:fN m ch l W B):ib ((weighed m ch (rowOf (aq m) l)).map λx=>x.2)=aW (sumTo (aI (aq m) l) W) B:=by
 rw[Bv h,<-Yv hw.1 λj e=>ui hw e];delta aO;rw[eU];rfl
theorem x9(h:cG (aq m) l)(hw:fN m ch l W B):rowChance m ch (rowOf (aq m) l)=aW (sumTo (aI (aq m) l) W) B:=Bw h hw
theorem O2(h:cG (aq m) l)(hw:fN m ch l W B)(f:0<sumTo (aI (aq m) l) W){q:List Val×cK->Bool}{p:Nat->Bool}(e:∀j,j<aI (aq m) l->q (er (aq m) l j,xb m ch (er (aq m) l j))=p j):
  (ib (((weighed m ch (rowOf (aq m) l)).filter q).map λx=>x.2)).div (ib ((weighed m ch (rowOf (aq m) l)).map λx=>x.2))=aW (sumTo (aI (aq m) l) λj=>if p j=ai then W j else 0:Nat) (sumTo (aI (aq m) l) W):=by
 rw[Bw h hw,Bv h,sum_filter (p:=p) hw.1 e (w:=W) λj o=>ui hw o,Ox hw.1 f hw.1,d5 B];exact n4 _ _ _ hw.1
theorem O3{a v s}(e:v<s):(a/s=g/\a%s=v)↔a=g*s+v:=by
 constructor
 .rintro⟨rfl,rfl⟩;rw[d5];exact(y3 a s).symm
 .rintro rfl;rw[d5,Ig (by lia),Ia e,Ih,uM e]
  exact#[by rfl,Z]
theorem Yz(o:cO m.columns)(h:cG (aq m) l)(hw:fN m ch l W B)(f:0<sumTo (aI (aq m) l) W)(s:m.columns[i]? =aa c){v}(e:v<aD c.kind):
  pA m i (g,v) (weighed m ch (rowOf (aq m) l))=aW (sumTo (aI (aq m) l) λj=>if cl m l j i=g*aD c.kind+v then W j else 0) (sumTo (aI (aq m) l) W):=by
 delta pA;rw[O2 h hw f (p:=λj=>decide (cl m l j i=g*aD c.kind+v)) λj q=>?_]
 .simp
 .rw[(Br o h q s).1,gu,fJ,fD,Prod.mk.injEq];exact O3 e
theorem YA(h:cG (aq m) l)(hw:fN m ch l W B)(s:0<sumTo (aI (aq m) l) W)(y:i<m.columns.length)(f:(ia (kindOf m i))[b]? =aa v):
  (ib (((weighed m ch (rowOf (aq m) l)).filter λx=>valAt x.1 i==v).map λx=>x.2)).div (ib ((weighed m ch (rowOf (aq m) l)).map λx=>x.2))=aW (sumTo (aI (aq m) l) λj=>if rk m l j i=b then W j else 0) (sumTo (aI (aq m) l) W):=by
 rw[O2 h hw s (p:=λj=>decide (rk m l j i=b)) λj w=>?_]
 .simp
 .have o:=(bx.mp f).1;have u:=n6 (sg h w y).2.2.1;rw[gu,fJ,fD];constructor
  .intro e;delta rk;rw[e];rw[uh _ _ o] at f;rw[<-bf f];exact Bj _ _ o
  .intro e;have q:=u.2.1;unfold rk at e;rw[e,f] at q;exact(bf q).symm
theorem O4{a c:Nat}(o:0<B):Ea (aW (a:Int) B) (aW (c:Int) B)=decide (a<=c):=by
 unfold Ea;rw[d9];have w:=mP (a:=(a:Int)) o;have u:=mP (a:=(c:Int)) o;have s:=mO (a:=(a:Int)) o;have k2:=mO (a:=(c:Int)) o;generalize aW (a:Int) B=x at *;generalize aW (c:Int) B=y at *;have e:0<((x.den*y.den:Nat):Int):=by have:=gA s k2;lia
 have f:(0:Int)<B:=by simp_all
 have q:x.num*y.den*B=(a:Int)* ((x.den*y.den:Nat):Int):=by rw[fH];grind
 have p:y.num*x.den*B=(c:Int)* ((x.den*y.den:Nat):Int):=by rw[fH];grind
 constructor
 .intro h;have:=Hf h (yK f);rw[q,p] at this;have:=Hd this e;simp_all
 .intro h;have h:(a:Int)<=c:=by simp_all
  have:=Hf h (yK e);rw[<-q,<-p] at this;exact Hd this f
theorem YB(h:cG (aq m) l)(hw:fN m ch l W B){p f}(C:∀j,j<aI (aq m) l->W j<=p)(w:f<aI (aq m) l)(D:W f=p)(I:∀j,j<f->W j≠p):
  (z8 (weighed m ch (rowOf (aq m) l))).length=(aO (aI (aq m) l) W).count p/\∃rest,z8 (weighed m ch (rowOf (aq m) l))=(er (aq m) l f,aW p B)::rest:=by
 have u:∀j,j<aI _ l->((weighed m ch _).all λy=>Ea y.2 (xb m ch (er _ l j)))=(W j==p):=λj z=>by
  rw[gu,jE,fJ,Bv h];constructor
  .intro E;have:=E _ (bK.mpr #[f,gx.mpr w,Z]);rw[ui hw w,ui hw z,O4 hw.1,fD,D] at this;have:=C j z;lia
  .intro E x hx;obtain⟨G,o,rfl⟩:=bK.mp hx;have o:=gx.mp o;rw[ui hw o,ui hw z,O4 hw.1,fD,E];exact C G o
 have F:z8 (weighed m ch (rowOf (aq m) l))=((fg (aI (aq m) l)).filter λj=>W j==p).map λj=>(er (aq m) l j,xb m ch (er (aq m) l j)):=by
  delta z8;generalize H:(λ(x:List _×cK)=>(weighed m ch _).all _)=q;rw[Bv h];delta aO;rw[Hu]
  congr 1
  refine Ht λj z=>?_;rw[<-u j (gx.mp z),<-H];rfl
 exists ?_
 .rw[F,aJ,List.count_eq_countP];delta aO;rw[List.countP_map,List.countP_eq_length_filter];rfl
 .rw[F];have e:fg (aI (aq m) l)=fg f ++f::(List.range' (f+1) (aI (aq m) l-f-1)):=by
   rw[HR,HR,<-List.range'_succ];have:=List.range'_append (s:=0) (m:=f) (n:=aI (aq m) l-f-1+1) (step:=1);rw[jG,o7] at this;rw[this]
   congr 1
   grind
  rw[e,Cm,List.filter_eq_nil_iff.mpr λj z=>by simpa using I j (gx.mp z),HM,yS,aC (by simpa using D),b7,ui hw w,D]
  exact#[_,Z]
noncomputable def ups{f:Type}[DecidableEq f]:List (f×Nat)->f->Nat->List (f×Nat)
 |[],k,x=>[(k,x)]
 |e::T,k,x=>if e.1=k then(e.1,e.2+x)::T else e::ups T k x
noncomputable def jq{f:Type}[DecidableEq f]:List (f×Nat)->f->Nat
 |[],_=>0
 |e::T,k=>if e.1=k then e.2 else jq T k
noncomputable def cD{f:Type}(g:f->Nat)(T:List (f×Nat)):Nat:=(T.map λe=>g e.1*e.2).sum
noncomputable def gj{h:Type}(f:h->Nat):List (h×Nat)->Nat
 |[]=>1
 |e::T=>f e.1^e.2*gj f T
noncomputable def iw:List Nat->Nat
 |[]=>1
 |x::l=>x*iw l
theorem Bx x:∀l,iw (l++[x])=iw l*x
 |[]=>by show x*1=1*x;simp
 |y::l=>by show y*iw (l++[x])=y*iw l*x;rw[Bx x l,jF]
theorem FY{h} f (e:h×Nat):∀T,gj f (T++[e])=gj f T*f e.1^e.2
 |[]=>by show _*1=1*_;simp
 |y::T=>by show _*gj f (T++[e])=_*gj f T*_;rw[FY f e T,jF]
theorem uj{f} g e (T:List (f×Nat)):cD g (T++[e])=cD g T+g e.1*e.2:=by
 simp[cD,tq]
theorem FZ{f}[DecidableEq f] g (k:f) x:∀T,cD g (ups T k x)=cD g T+g k*x
 |[]=>by simp[cD,ups]
 |e::T=>by
  unfold ups;by_cases h:e.1=k
  .rw[aC h];delta cD;rw[b7,b7,kW,kW,h,uN];lia
  .rw[aw h];have:=FZ g k x T;unfold cD at this⊢;rw[b7,b7,kW,kW,this];lia
theorem O5{o}[DecidableEq o] f (k:o) x:∀T,gj f (ups T k x)=gj f T*f k^x
 |[]=>by show f k^x*1=1*f k^x;simp
 |e::T=>by
  unfold ups;by_cases h:e.1=k
  .rw[aC h];show f e.1^(e.2+x)*gj f T=f _^e.2*gj f T*f k^x;rw[h,qQ];grind
  .rw[aw h];show f _^e.2*gj f _=f _^e.2*gj f T*f k^x;rw[O5 f k x T,jF]
theorem F0{f}[DecidableEq f]{k}{x}:∀{T}{e:f×Nat},e∈ups T k x->e.1=k\/e.1∈T.map d7
 |[],e,h=>by
  have:=by simpa[ups] using h
  rw[this];exact .inl Z
 |y::T,e,h=>by
  unfold ups at h;by_cases o:y.1=k
  .rw[aC o] at h;obtain rfl|h:=bM.mp h
   .exact .inl o
   .exact .inr (bK.mpr #[e,bI _ h,Z])
  .rw[aw o] at h;obtain rfl|h:=bM.mp h
   .exact .inr (bK.mpr #[e,bH,Z])
   .obtain h|h:=F0 h
    .exact .inl h
    .exact .inr (bI _ h)
theorem F1{f}[DecidableEq f]{k}{x}:∀{T:List (f×Nat)},k∈(ups T k x).map d7/\∀e∈T.map d7,e∈(ups T k x).map d7
 |[]=>#[by simp[ups],λe h=>by simp at h]
 |y::T=>by
  obtain⟨q,p⟩:=F1 (T:=T);unfold ups;by_cases o:y.1=k
  .rw[aC o];refine#[by simp[o],λe h=>?_]
   simpa using h
  .rw[aw o];refine#[bI _ q,λe h=>?_]
   obtain rfl|h:=bM.mp h
   .exact bH
   .exact bI _ (p e h)
theorem F2{e}[DecidableEq e]{k}{x}:∀{T:List (e×Nat)},(ups T k x).length<=T.length+1
 |[]=>by simp[ups]
 |y::T=>by
  have:=F2 (k:=k) (x:=x) (T:=T);unfold ups;by_cases f:y.1=k
  .rw[aC f];simp
  simp_all
noncomputable def cv(ls:List (List Int)):List (List Int×Nat):=ls.foldl (λT l=>ups T l 1) []
theorem uk ls l:cv (ls++[l])=ups (cv ls) l 1:=by simp[cv]
theorem snoc_ind{e:Type}{p:List e->Prop}(o:p [])(h:∀l x,p l->p (l++[x])) l:p l:=by
 have:∀r:List e,p r.reverse:=λr=>by
  induction r with
  |nil=>exact o
  |cons x r f=>rw[List.reverse_cons];exact h _ _ f
 have:=this l.reverse
 simp_all
theorem O6 g ls:cD g (cv ls)=(ls.map g).sum:=by
 refine snoc_ind (p:=λls=>cD g _=(ls.map g).sum) Z (λls l e=>?_) ls;simp[uk,FZ,e,tq]
theorem O7 f ls:gj f (cv ls)=iw (ls.map f):=by
 refine snoc_ind (p:=λls=>gj f _=iw _) Z (λls l e=>?_) ls;rw[uk,O5,e,bR,b7,kU,Bx,Nat.pow_one]
theorem O8:∀e∈cv ls,e.1∈ls:=by
 refine snoc_ind (p:=λls=>∀e∈cv ls,e.1∈ls) (λe h=>by simp[cv] at h) (λls l o e f=>?_) ls
 rw[uk] at f;obtain h|h:=F0 f
 .rw[h];exact gZ _ (cj.mpr Z)
 .obtain⟨u,s,q⟩:=bK.mp h;rw[<-q];exact kg _ (o u s)
theorem F3:∀l∈ls,l∈(cv ls).map d7:=by
 refine snoc_ind (p:=λls=>∀l∈ls,l∈(cv ls).map _) (λe h=>(dB h).elim) (λls l f x hx=>?_) ls;rw[uk];obtain h|h:=df.mp hx
 .exact F1.2 x (f x h)
 .rw[cj] at h;subst h;exact F1.1
theorem F4 ls:(cv ls).length<=ls.length:=by
 refine snoc_ind (p:=λls=>(cv ls).length<=ls.length) (bb _) (λls l e=>?_) ls;rw[uk,b6];have:=F2 (k:=l) (x:=1) (T:=cv ls);simp;lia
theorem F5 ls:cD (λy=>1) (cv ls)=ls.length:=by
 rw[O6]
 induction ls with
 |nil=>rfl
 |cons x l e=>rw[b7,kW,e,bP];lia
theorem F6{e} g (T:List (e×Nat)) i:cD g (T.take i)<=cD g T:=by
 have:cD g T=cD g (T.take i)+cD g (T.drop i):=by
  delta cD;rw[<-tq,<-bR,HW]
 simp_all
theorem YC{f}(u:∀l,iW (f l)/\0<=(f l).num)(ls:List (List Int)):0<iw (ls.map λl=>(f l).den)/\tU (ls.map f)=aW (iw (ls.map λl=>(f l).num.toNat)) (iw (ls.map λl=>(f l).den)):=by
 refine snoc_ind (p:=λls=>0<iw (ls.map _)/\tU (ls.map f)=aW (iw (ls.map _)) (iw (ls.map _))) #[show 0<1 by simp,show vk=aW 1 1 from Z] (λls l o=>?_) ls
 obtain⟨h,q⟩:=o;rw[bR,bR,bR,b7,kU,b7,kU,b7,kU,Bx,Bx,O0,q];obtain⟨e,s⟩:=u l;exists gA h e.1
 conv=>lhs;rw[<-Bf e]
 rw[FD h e.1,fH,yM s]
noncomputable def cS(T:List (Nat×Nat)):cK:=ib (T.map λe=>aW (e.2:Nat) e.1)
theorem O9 T e:cS (T++[e])=(cS T).add (aW (e.2) e.1):=by simp[cS,OZ]
theorem O_{a:Nat}(f:0<b)(o:0<M)(h:b∣M):aW a b=aW (M/b*a:Nat) M:=by
 obtain⟨q,rfl⟩:=h;have e:=tG o;rw[f7 _ f,<-n4 a b q e,d5 q a,fH]
theorem F7(f:0<M) T (h:∀e∈T,e.1∣M):cS T=aW (cD (λb=>M/b) T) M:=by
 revert h;refine snoc_ind (p:=λT=>(∀e∈T,e.1∣M)->cS T=aW (cD _ T) M) (λy=>(FI f).symm) (λT e s h=>?_) T;have q:=h e (gZ _ (cj.mpr Z));have o:=Ii q f;rw[O9,s λx hx=>h x (kg _ hx),uj,O_ o f q,Bg f f,show((cD _ T:Nat))*M+ ((M/e.1*e.2:Nat))*M=((cD (λb=>M/b) T+M/e.1*e.2:Nat):Int)*M by grind]
 exact n4 _ _ _ f
structure Part where
 n:Nat
 b:Nat
 a:Nat->Nat->Nat
end CC
variable {ps:List CC.Part}
namespace CC
open VaprbBase
open VaprbBase Vaprbp
noncomputable def cQ(ps:List Part)(i x:Nat):List (Nat×Nat):=ps.foldl (λT p=>if p.a i x=0 then T else ups T p.b (p.a i x*p.n)) []
theorem x_ ps p i x:cQ (ps++[p]) i x=if p.a i x=0 then cQ ps i x else ups (cQ ps i x) p.b (p.a i x*p.n):=by simp[cQ]
noncomputable def fm(ps:List Part):Nat:=iw (ps.map λp=>p.b)
theorem Pa:∀{l}{x},x∈l->x∣iw l
 |[],x,h=>(dB h).elim
 |y::l,x,h=>by
  obtain rfl|h:=bM.mp h
  .exact Nat.dvd_mul_right _ _
  .exact tB (Pa h) (nt _ _)
theorem Pb:∀{l},(∀x∈l,0<x)->0<iw l
 |[],_=>by show 0<1;simp
 |y::l,h=>gA (h y bH) (Pb λx hx=>h x (bI _ hx))
theorem Pc{e}:∀{l},(∀x∈l,x<=2^e)->iw l<=2^(e*l.length)
 |[],_=>by show 1<=2^(e*0);simp
 |y::l,h=>by
  have o:=h y bH;have f:=Pc λx hx=>h x (bI _ hx);rw[bP,uN,tF,qK,qQ];exact nv o f
theorem Pd ps i x:∀e∈cQ ps i x,∃p∈ps,e.1=p.b:=by
 refine snoc_ind (p:=λps=>∀e∈cQ ps i x,∃p∈ps,e.1=p.b) (λe h=>by simp[cQ] at h) (λps p s e f=>?_) ps
 rw[x_] at f;have old:e.1∈(cQ ps i x).map d7->∃o∈ps++[p],e.1=o.b:=λh=>by
  obtain⟨C,z,y⟩:=bK.mp h;obtain⟨o,w,u⟩:=s C z;exact#[o,kg _ w,by rw[<-y,u]]
 by_cases q:p.a i x=0
 .rw[aC q] at f;exact old (bK.mpr #[e,f,Z])
 .rw[aw q] at f;obtain h|h:=F0 f
  .exact#[p,gZ _ (cj.mpr Z),h]
  .exact old h
theorem Pe g ps i x:cD g (cQ ps i x)=(ps.map λp=>g p.b* (p.a i x*p.n)).sum:=by
 refine snoc_ind (p:=λps=>cD g (cQ ps i x)=(ps.map _).sum) Z (λps p f=>?_) ps;rw[x_,bR,tq,<-f];by_cases e:p.a i x=0
 .simp[e]
 simp[e,FZ]
theorem YD ps i x:(cQ ps i x).length<=ps.length:=by
 refine snoc_ind (p:=λps=>(cQ ps i x).length<=ps.length) (bb _) (λps p f=>?_) ps;rw[x_,b6];by_cases e:p.a i x=0
 .rw[aC e];simp;lia
 .rw[aw e];have:=F2 (k:=p.b) (x:=p.a i x*p.n) (T:=cQ ps i x);simp;lia
inductive iZ(m:Model)(ch:List cx):List (List Int×Nat)->List Part->Prop
 |nil:iZ m ch [] []
 |snoc {T ps l n p}:iZ m ch T ps->p.n=n->0<p.b->p.b<=2^(6*CB+10)->(∀(i:Nat)(c:Column),m.columns[i]? =aa c->∀x,x<bw m.columns c.parents*aD c.kind->p.a i x<=p.b/\aW (p.a i x:Nat) p.b=pA m i (x/aD c.kind,x%aD c.kind) (weighed m ch (rowOf (aq m) l)))->iZ m ch (T++[(l,n)]) (ps++[p])
theorem YE{a c:Nat}(e:0<M)(h:aW (a:Nat) M=aW (c:Nat) M):a=c:=by
 have o:=mP (a:=a) e;have f:=mP (a:=c) e;have hd:=mO (a:=c) e;rw[h] at o;rw[o] at f;have:=Int.eq_of_mul_eq_mul_right (by lia) f
 lia
theorem By(h:iZ m ch T ps):(∀p∈ps,0<p.b/\p.b<=2^(6*CB+10))/\ps.length=T.length/\(ps.map λp=>p.n).sum=cD (λx=>1) T:=by
 induction h with
 |nil=>exact#[λp h=>(dB h).elim,Z,Z]
 |snoc _ y w u _ f=>
  obtain⟨s,q,o⟩:=f;refine#[λp e=>?_,?_,?_]
  .obtain e|e:=df.mp e
   .exact s p e
   simp_all
  .rw[b6,b6,q];rfl
  simp[o,uj,y]
noncomputable def Bz(m:Model)(ch:List cx)(ls:List (List Int))(i s x:Nat):cK:=ib (ls.map λl=>pA m i (x/s,x%s) (weighed m ch (rowOf (aq m) l)))
theorem YF(h:iZ m ch T ps)(E:m.columns[i]? =aa c){x}(hx:x<bw m.columns c.parents*aD c.kind)(s:0<M):
  (∀p∈ps,p.b∣M)->cD (λl=>fM (pA m i (x/aD c.kind,x%aD c.kind) (weighed m ch (rowOf (aq m) l))) M) T=(ps.map λp=>M/p.b* (p.a i x*p.n)).sum/\∀e∈T,aW (fM (pA m i (x/aD c.kind,x%aD c.kind) (weighed m ch (rowOf (aq m) e.1))) M) M=pA m i (x/aD c.kind,x%aD c.kind) (weighed m ch (rowOf (aq m) e.1)):=by
 induction h with
 |nil=>exact λt=>#[Z,λe h=>(dB h).elim]
 |@snoc T ps l n p _ G o I F y=>
  intro hd;obtain⟨C,z⟩:=y λq D=>hd q (kg _ D);have u:=hd p (gZ _ (cj.mpr Z));obtain⟨H,k2⟩:=F i c E x hx;have w:iW (aW (p.a i x) _):=vJ o;have hz:fM (aW (p.a i x) p.b) M=M/p.b*p.a i x:=by
   refine YE s ?_;rw[Bu w (x6 o (by simp)) s (tB (FJ o) u)]
   exact O_ o s u
  refine#[?_,λe f=>?_]
  .rw[uj,C,bR,tq,<-k2,hz,b7,kU,G];simp[jF]
  .obtain f|f:=df.mp f
   .exact z e f
   .rw[cj] at f;subst f;rw[<-k2];exact Bu w (x6 o (by simp)) s (tB (FJ o) u)
theorem F8(h:iZ m ch T ps):0<fm ps:=Pb λb f=>by
 obtain⟨p,e,rfl⟩:=bK.mp f;exact((By h).1 p e).1
theorem BA{p}(h:p∈ps):p.b∣fm ps:=Pa (bK.mpr #[p,h,Z])
theorem YG(h:iZ m ch T ps):fm ps<=2^((6*CB+10)*T.length):=by
 have:=Pc λb o=>by
  obtain⟨p,f,rfl⟩:=bK.mp o;exact((By h).1 p f).2
 rwa[aJ,(By h).2.1] at this
theorem YH{e:Type} f (ls:List e):(((ls.map f).sum:Nat))=(ls.map λl=>((f l):Int)).sum:=by
 induction ls with
 |nil=>rfl
 |cons y ys h=>simp_all
theorem Pf(h:iZ m ch (cv ls) ps)(z:m.columns[i]? =aa c){x}(hx:x<bw m.columns c.parents*aD c.kind):cS (cQ ps i x)=Bz m ch ls i (aD c.kind) x:=by
 have s:=F8 h;obtain⟨y,w⟩:=YF h z hx s λp f=>BA f;rw[F7 s _ λe q=>by
  obtain⟨p,f,u⟩:=Pd ps i x e q;rw[u];exact BA f,Pe,<-y,O6];delta Bz;have o:∀l∈ls,pA m i _ (weighed m ch _)=aW (fM (pA m i _ (weighed m ch _)) _) _:=λl o=>by
  obtain⟨e,q,u⟩:=bK.mp (F3 l o);rw[<-u];exact(w e q).symm
 rw[i9 o,Yj s ls _]
 congr 1
 exact YH _ ls
theorem YI(h:iZ m ch T ps)(w:m.columns[i]? =aa c){x}(hx:x<bw m.columns c.parents*aD c.kind):cD (λb=>fm ps/b) (cQ ps i x)<=fm ps*cD (λt=>1) T:=by
 rw[Pe];have y:=F8 h;have hd:∀p∈ps,p.b∣fm ps:=λp u=>BA u;generalize fm ps=M at y hd
 induction h with
 |nil=>simp
 |@snoc T ps l n p _ D C E z s=>
  have:=s λq f=>hd q (kg _ f);obtain⟨o,k2⟩:=z i c w x hx;rw[bR,tq,uj,uN];obtain⟨q,f⟩:=hd p (gZ _ (cj.mpr Z));have e:M/p.b* (p.a i x*p.n)<=M*n:=by
   rw[f,f7 _ C,<-jF,D];refine ja _ ?_;rw[d5 _ q];exact y9 _ o
  simp only[b7,kU,kW,List.sum_nil,uK,jG];lia
theorem YJ{e} n (f:Nat->e):(fg n).map f=aO n f:=Z
theorem Pg(h:cO m.columns)(e:m.columns[i]? =aa c):expected m ch (ls.map (rowOf (aq m))) i=aO (bw m.columns c.parents) λg=>aO (aD c.kind) λv=>Bz m ch ls i (aD c.kind) (g*aD c.kind+v):=by
 delta expected;dsimp only;rw[Bk h e,iX e,YJ];refine jY λg x=>?_;refine jY λv f=>?_;delta Bz;rw[eU,eU];obtain⟨p,o⟩:=(O3 f).mpr Z;rw[p,o];rfl
noncomputable def Ph(e:Nat->cK)(s g:Nat):List Int:=(aO s λv=>((fM (e (g*s+v)) (eR (aO s λv=>(e (g*s+v)).den)):Nat):Int))
theorem YK{e}{s}(h:∀v,v<s->iW (e (g*s+v))/\0<=(e (g*s+v)).num) old:shares (aO s λv=>e (g*s+v)) old=e_ (Ph e s g) old:=by
 have o:∀d∈aO s (λv=>(e (g*s+v)).den),0<d:=λd hd=>by
  obtain⟨v,f,rfl⟩:=bK.mp hd;exact(h v (gx.mp f)).1.1
 have p:=FT o;rw[<-FN p (λx hx=>by
  obtain⟨v,f,rfl⟩:=bK.mp hx;simp)]
 congr 1
 delta Ph aO;rw[eU];refine i9 λv f=>?_;have f:=gx.mp f;exact(Bu (h v f).1 (h v f).2 p (FU o (bK.mpr #[v,gx.mpr f,Z]))).symm
noncomputable def gO(l:List Nat):Nat:=l.foldl (λd n=>bj n d) 0
theorem Pj l (n:Nat):gO (l++[n])=bj n (gO l):=by simp[gO]
theorem YL l:∀n∈l,gO l∣n:=by
 refine snoc_ind (p:=λl=>∀n∈l,gO l∣n) (λn h=>(dB h).elim) (λl x e n f=>?_) l;rw[Pj];obtain h|h:=df.mp f
 .exact tB (kX _ _) (e n h)
 .rw[cj] at h;subst h;exact qM _ _
theorem YM{l:List _}(h:l[i]? =aa d):eR (l.take (i+1))=lM (eR (l.take i)) d:=by
 rw[qJ,h];exact Yu _ _
theorem YN{l:List _}(h:l[i]? =aa d):gO (l.take (i+1))=bj d (gO (l.take i)):=by
 rw[qJ,h];exact Pj _ _
theorem F9:∀ks r,(∀k∈ks,0<aD k)->0<gapsSize ks r
 |[],_,_=>by unfold gapsSize;simp
 |k::ks,[],_=>by unfold gapsSize;simp
 |k::ks,ae::r,h=>gA (h k bH) (F9 ks r λx hx=>h x (bI _ hx))
 |k::ks,aa _::r,h=>F9 ks r λx hx=>h x (bI _ hx)
noncomputable def jr(m:Model)(l:List Int)(i:Nat):Nat:=gapsSize ((aq m).drop i) ((rowOf (aq m) l).drop i)
theorem Pk m l:jr m l 0=aI (aq m) l:=Z
theorem BB(f:cO m.columns) l i:0<jr m l i:=F9 _ _ λk e=>by
 have e:=CG e;obtain⟨c,o,rfl⟩:=bK.mp e;obtain⟨j,h⟩:=kh.mp o;have:=size_pos (f j c h).1;lia
theorem YO(e:cO m.columns)(h:cG (aq m) l) i:jr m l i<=aI (aq m) l:=mq (BB e l 0) (Bp i _ _ h.Bl)
theorem Pl(h:cG (aq m) l)(o:m.columns[i]? =aa c){n}(u:l[i]? =aa n):(n=5000->jr m l i=aD c.kind*jr m l (i+1))/\(n≠5000->jr m l i=jr m l (i+1)):=by
 have w:=(bx.mp o).1;have f:=vN w;rw[iX o] at f;rcases h.at f with⟨y,x,s,q,p,z⟩;rw[u] at s;cases s;constructor
 .intro e;have:=p.mpr e;subst this;exact OP i _ _ _ f q
 .intro e;cases x with
  |none=>exact absurd (p.mp Z) e
  |some v=>exact Yo i _ _ _ v f q
noncomputable def gk(m:Model)(l:List Int)(i:Nat):List Nat:=aO (aI (aq m) l) λj=>rk m l j i
theorem YQ(h:cG (aq m) l)(e:m.columns[i]? =aa c)(f:l[i]? =aa 5000):gk m l i=aO (aI (aq m) l) λj=>j/jr m l (i+1)%aD c.kind:=by
 have p:=(bx.mp e).1;refine jY λj o=>?_;rw[(sg h o p).2.2.2.2 (by rw[f];rfl),iX e];rfl
theorem YR(h:cG (aq m) l)(f:m.columns[i]? =aa c){n}(e:l[i]? =aa n)(q:n≠5000):∃v:Nat,n-fL c.kind=v/\gk m l i=cR (aI (aq m) l) v:=by
 have p:=(bx.mp f).1;have o:=vN p;rw[iX f] at o;rcases h.at o with⟨E,x,s,G,C,z⟩;rw[e] at s;cases s;cases x with
 |none=>exact absurd (C.mp Z) q
 |some u=>
  obtain⟨w,D⟩:=z u Z;have F:=n6 w;exists gM c.kind u,by lia
  rw[<-vO];refine jY λj y=>?_;have:=(sg h y p).2.2.2.1 (by rwa[e])
  rw[e,iX f] at this;have this:n=fL _+ (rk m l j i):=this;lia
noncomputable def i3(m:Model)(l:List Int)(ps:List Nat):List Nat:=aO (aI (aq m) l) λj=>clF m l j ps
theorem cls_nil m l:i3 m l []=cR (aI (aq m) l) 0:=by
 rw[<-vO];rfl
theorem YS m l ps p:i3 m l (ps++[p])=oW (λc r=>c*dA m.columns p+r) (i3 m l ps) (gk m l p):=by
 unfold i3 gk;refine l9 λj=>?_;rw[Ct];by_cases e:j<aI (aq m) l
 .rw[cT _ e,cT _ e,cT _ e];simp[OR]
 .rw[fz (by rw[b5];simp_all),fz (by rw[b5];simp_all)]
theorem F_ m l ps:(i3 m l ps).length=aI (aq m) l:=b5 _ _
theorem ya m l i:(gk m l i).length=aI (aq m) l:=b5 _ _
end CC
end
section
open PySem PySem.Spec PyProof.Rows L2
open VaprbBase (Bytes PTok Toks PName Frac frac fracRow showInt showNat showKind joined word)
open Vaprbp (Raw Column evenly Chances kinds nameOf)
set_option genInjectivity false
variable {K:aP}{mg:au->Option aE}{P:gB}{H H' H0 H1 H2 Hi:L2.Hp}{B e i j k n s:Nat}{m:dz}{t v x0 x1 x2 x3 y:L2.V}{C b bl dx f h mo o pl r rl z:af}{L l nums:List Int}{ls:List (List Int)}{X:L2.Cx}{ch:List cx}{Q:L2.VK}{p:Int}{xs ys:List L2.V}{x:h_}{c:Column}{cs:List Column}{rest:cB}{da:Nat->Nat->af}{W:Nat->Nat}{F G:Nat->Nat->List (Nat×Nat)}{σ:L2.St}{tb:L2.TS}{D:L2.Ends}{g:L2.TG}{gs os ras ts:List af}{kd:eE}{qa:Nat->af}{ta te:L2.TE}{vs:List Nat}{N:List au}{ps:List CC.Part}{raw:ic}{pos:iJ}{q:au}{st:f_}{u:L2.HO}{sh:Int->Option (Nat×Nat)}{od:Option af}
namespace CC
noncomputable def top(i:Nat):f_:=PySem.Challenge.pw_countedchances_s01_answers.main.body.getD i (.Pass #[0,0,0,0])
structure Ad where
 (gP sj pX sk sq pY mS sr pZ su size_of mT sv n8 sx sy sA sC lN times plus p8 n9 sD jZ n_ p9 mU p_ sE qb mV lO qc qd sF qe qf oa qg qh qi sG qj sH mW mX qk kI ql sI sJ settled og mY kJ kK lP oh oj lQ om oo oq ow oy oz oA lR lS lT weighed oB sL oC answers fo kL oE qm qo qp qr gm iy qs qt oF Fault Token Kind Column Model lU um qu Reader lV Held Call Ga RESERVED uo:af)
end CC
variable {a:CC.Ad}
namespace CC
structure Fd where
 (gP sj pX sk sq pY mS sr pZ su size_of mT sv n8 sx sy sA sC lN times plus p8 n9 sD jZ n_ p9 mU p_ sE qb mV lO qc qd sF qe qf oa qg qh qi sG qj sH mW mX qk kI ql sI sJ settled og mY kJ kK lP oh oj lQ om oo oq ow oy oz oA lR lS lT weighed oB sL oC answers fo kL oE qm qo qp qr gm iy qs qt oF:kl)
end CC
variable {d:CC.Fd}
namespace CC
noncomputable def yc(a:Ad)(n:Int):Option (af×Int×Bool):=[(0,a.kK,0,ai),(1,a.lP,0,az),(2,a.oh,0,ai),(3,a.oj,1,az),(4,a.lQ,1,az),(5,a.om,2,az),(6,a.oo,1,az),(7,a.oq,2,ai),(8,a.ow,0,az),(9,a.oy,0,az),(10,a.oz,0,az),(11,a.oA,0,az),(12,a.lR,0,ai),(13,a.lS,1,ai),(14,a.lT,0,ai)].lookup n
abbrev GIx(mg:au->Option aE)(x:au)(i:Int):Prop:=∃t,mg x=aa (.int i t)
abbrev GSx(mg:au->Option aE)(x z:au):Prop:=∃t,mg x=aa (.str z t)
abbrev GFx(K:aP)(mg:au->Option aE)(x:au)(N:List au)(k i:Nat)(f:af)(fd:kl):Prop:=nR K (mg x=aa (.ref f)) x x N k (top i) f fd
abbrev MFx(K:aP)(C:af)(x q:au)(N:List au)(k i j:Nat)(f:af)(fd:kl):Prop:=nR K (Meth K C x f) x q N k (inClass (top i) j) f fd
structure TX(K:aP)(mg:au->Option aE)(a:Ad)(d:Fd):Prop where
 YT:GIx mg "TOO_LONG" 1
 BC:GIx mg "NO_TOKEN" 2
 Gb:GIx mg "NOT_ALLOWED" 3
 YU:GIx mg "TOO_MANY" 4
 Pm:GIx mg "TWICE" 5
 YV:GIx mg "UNKNOWN" 6
 Pn:GIx mg "OUT_OF_BOUNDS" 7
 YW:GIx mg "TOO_MANY_CELLS" 12
 Po:GIx mg "MOST_BYTES" 4096
 YX:GIx mg "MOST_WORD_BYTES" 16
 YY:GIx mg "GREATEST_NUMBER_tokens" 1000000000
 YZ:GIx mg "LINE_END" 10
 Pp:GIx mg "REMARK" 35
 Pq:GIx mg "ZERO" 48
 Gd:GIx mg "MINUS" 45
 Pr:GIx mg "GREATER" 62
 BD:GIx mg "GAP" 5000
 Y0:GIx mg "GREATEST_NUMBER_expected" 10000000000000000000000000000000000000000
 Y1:GIx mg "MOST_COLUMNS" 6
 Y2:GIx mg "MOST_PARENTS" 3
 Y3:GIx mg "MOST_CELLS" 512
 Pt:GIx mg "GREATEST_BOUND" 1000
 Y4:GIx mg "WIDEST_RANGE" 63
 Y5:GIx mg "NO_MODEL" (-1)
 yd:GIx mg "NO_SUCH" (-2)
 Ge:GIx mg "WRONG_FORM" (-3)
 Y6:GIx mg "TOO_MANY_ROWS" (-4)
 Gf:GIx mg "CHANCE_ZERO" (-6)
 Y7:GIx mg "TOO_MANY_FILLINGS" (-8)
 Y8:GIx mg "TOO_GREAT_NUMBER" (-9)
 Y9:GIx mg "MOST_ROWS" 100
 Y_:GIx mg "MOST_FILLINGS" 1024
 Za:GIx mg "LOAD" 0
 Pu:GSx mg "WORD" "word"
 Pw:GSx mg "NUMBER" "number"
 Px:GSx mg "SIGN" "sign"
 Py:GSx mg "END" "end"
 Zb:GSx mg "SIGNS" "={}()[],;:/|"
 Zc:mg "BLANKS"=aa (.ref a.Ga)
 Zd:∀H,cM K H a.Ga [.int 32,.int 9,.int 10]
 Ze:mg "RESERVED"=aa (.ref a.RESERVED)
 BE:∀H,cM K H a.RESERVED [.str "chance",.str "budget",.str "def",.str "let",.str "observe",.str "tell",.str "table",.str "net",.str "flag",.str "num",.str "if",.str "flip",.str "pick",.str "uniform",.str "given",.str "weigh",.str "true",.str "false"]
 de:mg "len"=ae
 Zf:mg "ord"=ae
 Pz:mg "str"=ae
 Zg:mg "abs"=ae
 ye:mg "sum"=ae
 Zh:mg "min"=ae
 Gg:mg "max"=ae
 Zi:mg "list"=ae
 PB:mg "tuple"=ae
 Zj:mg "sorted"=ae
 Zk:mg "set"=ae
 Zl:mg "dict"=ae
 vR:mg "range"=ae
 sM:mg "enumerate"=ae
 sN:mg "zip"=ae
 i4:mg "Fault"=aa (.ref a.Fault)
 yf:mg "Token"=aa (.ref a.Token)
 PC:mg "Kind"=aa (.ref a.Kind)
 Zm:mg "Column"=aa (.ref a.Column)
 Zn:mg "Model"=aa (.ref a.Model)
 Zo:mg "Fillings"=aa (.ref a.lU)
 Gh:mg "NoChance"=aa (.ref a.um)
 PD:mg "TooGreat"=aa (.ref a.qu)
 Zp:mg "Reader"=aa (.ref a.Reader)
 Zq:mg "Draft"=aa (.ref a.lV)
 Zr:mg "Held"=aa (.ref a.Held)
 PF:mg "Call"=aa (.ref a.Call)
 gP:GFx K mg "bytes_of" ["written","sign"] 1 26 a.gP d.gP
 sj:GFx K mg "tokens_of" ["text","found","at","token"] 1 27 a.sj d.sj
 pX:GFx K mg "behind_blanks" ["text","at"] 2 28 a.pX d.pX
 sk:GFx K mg "behind_remark" ["text","at"] 2 29 a.sk d.sk
 sq:GFx K mg "token_at" ["text","at","byte"] 2 30 a.sq d.sq
 pY:GFx K mg "is_letter" ["byte"] 1 31 a.pY d.pY
 mS:GFx K mg "is_digit" ["byte"] 1 32 a.mS d.mS
 sr:GFx K mg "word_at" ["text","at","end"] 2 33 a.sr d.sr
 pZ:GFx K mg "number_at" ["text","at","first","end","is_negative","digits","told"] 3 34 a.pZ d.pZ
 su:GFx K mg "told_by" ["digits","told","digit"] 1 35 a.su d.su
 size_of:GFx K mg "size_of" ["kind"] 1 41 a.size_of d.size_of
 mT:GFx K mg "how_many_groups" ["columns","parents","groups","parent"] 2 42 a.mT d.mT
 sv:GFx K mg "group_in" ["columns","parents","row","group","parent","kind"] 3 43 a.sv d.sv
 n8:GFx K mg "how_many_fillings" ["columns","row","fillings","number","column"] 2 44 a.n8 d.n8
 sx:GFx K mg "is_row_of" ["columns","row","number","column","is_value"] 2 45 a.sx d.sx
 sy:GFx K mg "one_form" ["model","form","column"] 1 46 a.sy d.sy
 sA:GFx K mg "kind_form" ["kind"] 1 47 a.sA d.sA
 sC:GFx K mg "parents_form" ["columns","parents","form","parent","mark"] 2 48 a.sC d.sC
 lN:GFx K mg "lowest" ["above","below","divisor"] 2 50 a.lN d.lN
 times:GFx K mg "times" ["one","other","down","up"] 2 51 a.times d.times
 plus:GFx K mg "plus" ["one","other","shared","rest","above","divisor"] 2 52 a.plus d.plus
 p8:GFx K mg "common_below" ["fractions","below","fraction"] 1 53 a.p8 d.p8
 n9:GFx K mg "wholes_over" ["fractions","below","fraction"] 2 54 a.n9 d.n9
 sD:GFx K mg "common_divisor" ["numbers","divisor","number"] 1 55 a.sD d.sD
 jZ:GFx K mg "greatest_divisor" ["one","other","rest"] 2 56 a.jZ d.jZ
 n_:GFx K mg "first_chances" ["columns","column"] 1 58 a.n_ d.n_
 p9:GFx K mg "even_table" ["columns","column","size","group"] 2 59 a.p9 d.p9
 mU:GFx K mg "counts_of" ["columns","number","rows","column","size","table","group","row","needed"] 3 60 a.mU d.mU
 p_:GFx K mg "tally" ["rows","often","row"] 1 61 a.p_ d.p_
 sE:GFx K mg "fitted_chances" ["columns","rows","before","ahead_above","ahead_below","fitted","number","table","counts"] 5 62 a.sE d.sE
 qb:GFx K mg "fitted_table" ["counts","before","ahead_above","ahead_below","fitted","group","chances","weights","count"] 4 63 a.qb d.qb
 mV:GFx K mg "become_chances" ["weights","before","total","weight"] 2 64 a.mV d.mV
 lO:GFx K mg "fillings_of" ["columns","chances","row","ranks","cells","number","weights","below","table","reached","factors","cell","scale","whole","weight"] 3 67 a.lO d.lO
 qc:GFx K mg "ranks_of" ["columns","row","many","alike","ranks","value","column","size","at"] 2 68 a.qc d.qc
 qd:GFx K mg "cells_of" ["columns","number","ranks","cells","needed","size","cell","rank"] 3 69 a.qd d.qd
 sF:GFx K mg "chance_in" ["table","cell","size"] 2 70 a.sF d.sF
 qe:GFx K mg "row_chance" ["fillings"] 1 71 a.qe d.qe
 qf:GFx K mg "sums_by" ["places","weights","many","sums","place","weight"] 3 72 a.qf d.qf
 oa:GFx K mg "parts_of" ["columns","chances","rows","parts","table","cell","row","often"] 3 77 a.oa d.oa
 qg:GFx K mg "add_parts" ["parts","fillings","often","divisor","weights","weight","below","number","reached","cells","cell","above"] 3 78 a.qg d.qg
 qh:GFx K mg "sum_of" ["cell","total","below","above"] 1 79 a.qh d.qh
 qi:GFx K mg "chances_behind_step" ["parts","before","cells","table"] 2 80 a.qi d.qi
 sG:GFx K mg "table_behind_step" ["cells","before","table","number","chances","first"] 2 81 a.sG d.sG
 qj:GFx K mg "group_behind_step" ["cells","before","expected","cell","chances","chance"] 2 82 a.qj d.qj
 sH:GFx K mg "read_model" ["text","reader","title","drafts","columns","draft"] 1 92 a.sH d.sH
 mW:GFx K mg "stands" ["reader","written"] 2 93 a.mW d.mW
 mX:GFx K mg "take_written" ["reader","written"] 2 94 a.mX d.mX
 qk:GFx K mg "take_number" ["reader"] 1 95 a.qk d.qk
 kI:GFx K mg "take_name" ["reader","has_room","token","word"] 2 96 a.kI d.kI
 ql:GFx K mg "read_column" ["reader","has_room","name","kind","parents"] 2 97 a.ql d.ql
 sI:GFx K mg "read_kind" ["reader","low","high"] 1 98 a.sI d.sI
 sJ:GFx K mg "read_parents" ["reader","parents"] 1 99 a.sJ d.sJ
 settled:GFx K mg "settled" ["draft","earlier","names","column","numbers","token"] 2 100 a.settled d.settled
 og:GFx K mg "settled_parent" ["token","names","parents","parent"] 3 101 a.og d.og
 mY:GFx K mg "row_refusal" ["held","row"] 2 115 a.mY d.mY
 kJ:GFx K mg "is_there" ["number","many"] 2 116 a.kJ d.kJ
 kK:GFx K mg "answer_load" ["held","call","model","fault"] 2 117 a.kK d.kK
 lP:GFx K mg "answer_shown" ["held","call","form"] 2 118 a.lP d.lP
 oh:GFx K mg "answer_row" ["held","call","refusal"] 2 119 a.oh d.oh
 oj:GFx K mg "answer_drop" ["held","call","dropped"] 2 120 a.oj d.oj
 lQ:GFx K mg "answer_counts" ["held","call","columns","number","answer","group"] 2 121 a.lQ d.lQ
 om:GFx K mg "answer_fit" ["held","call","above","below"] 2 122 a.om d.om
 oo:GFx K mg "answer_chances" ["held","call","columns","number","answer","group","fraction"] 2 123 a.oo d.oo
 oq:GFx K mg "answer_set" ["held","call","number","group","before","weights"] 2 124 a.oq d.oq
 ow:GFx K mg "answer_even" ["held","call"] 2 125 a.ow d.ow
 oy:GFx K mg "answer_likely" ["held","call","likely","row","often","chance","turn"] 2 126 a.oy d.oy
 oz:GFx K mg "answer_expect" ["held","call","columns","parts","answer","number","cells","cell"] 2 127 a.oz d.oz
 oA:GFx K mg "answer_step" ["held","call","parts"] 2 128 a.oA d.oA
 lR:GFx K mg "answer_chance" ["held","call","refusal","chance"] 2 129 a.lR d.lR
 lS:GFx K mg "answer_post" ["held","call","columns","number","refusal","fillings","total","size","answer","weight"] 2 130 a.lS d.lS
 lT:GFx K mg "answer_fill" ["held","call","refusal","fillings","greatest","chance","first","answer","ranks","column"] 2 131 a.lT d.lT
 weighed:GFx K mg "weighed" ["held","row"] 2 132 a.weighed d.weighed
 oB:GFx K mg "table_head" ["columns","number","column"] 2 133 a.oB d.oB
 sL:GFx K mg "call_at" ["calls","at","number","known","end","numbers","first"] 2 135 a.sL d.sL
 oC:GFx K mg "answer_to" ["held","call","answer"] 2 136 a.oC d.oC
 answers:GFx K mg "answers" ["calls","held","told","at","call","answer"] 1 137 a.answers d.answers
 fo:MFx K a.Fault "__init__" "Fault.__init__" ["self","code","place"] 3 9 0 a.fo d.fo
 kL:MFx K a.Token "__init__" "Token.__init__" ["self","form","content","place","end"] 5 25 0 a.kL d.kL
 oE:MFx K a.Kind "__init__" "Kind.__init__" ["self","is_flag","low","high"] 4 38 0 a.oE d.oE
 qm:MFx K a.Column "__init__" "Column.__init__" ["self","name","kind","parents"] 4 39 0 a.qm d.qm
 qo:MFx K a.Model "__init__" "Model.__init__" ["self","title","columns"] 3 40 0 a.qo d.qo
 qp:MFx K a.lU "__init__" "Fillings.__init__" ["self","ranks","cells","weights","below"] 5 66 0 a.qp d.qp
 qr:MFx K a.Reader "__init__" "Reader.__init__" ["self","tokens"] 2 90 0 a.qr d.qr
 gm:MFx K a.Reader "ahead" "Reader.ahead" ["self"] 1 90 1 a.gm d.gm
 iy:MFx K a.Reader "take" "Reader.take" ["self","token"] 1 90 2 a.iy d.iy
 qs:MFx K a.lV "__init__" "Draft.__init__" ["self","name","kind","parents"] 4 91 0 a.qs d.qs
 qt:MFx K a.Held "__init__" "Held.__init__" ["self"] 1 113 0 a.qt d.qt
 oF:MFx K a.Call "__init__" "Call.__init__" ["self","number","numbers","listed","end"] 5 114 0 a.oF d.oF
 PH:mg "CALLS"=aa (.ref a.uo)
 calls:∃es ep,K.lookup a.uo=aa #[.type "dict",ae,.dict es ep,#[]]/\intKeys es=ai/\∀n f k b,yc a n=aa (f,k,b)->∃t,tK mv es n=aa (.ref t)/\∀H,cM K H t [.ref f,.int k,.bl b]
 xt:jm K a.Fault a.fo
 PJ:cP K a.Fault "code"
 PK:cP K a.Fault "place"
 dP:ip K a.Token
 yg:Mk K a.Token a.kL
 BF:cP K a.Token "form"
 j4:cP K a.Token "content"
 mZ:cP K a.Token "place"
 PL:cP K a.Token "end"
 js:ip K a.Kind
 PM:Mk K a.Kind a.oE
 Gi:cP K a.Kind "is_flag"
 sO:cP K a.Kind "low"
 BG:cP K a.Kind "high"
 ez:ip K a.Column
 Zs:Mk K a.Column a.qm
 BH:cP K a.Column "name"
 i5:cP K a.Column "kind"
 sP:cP K a.Column "parents"
 iz:ip K a.Model
 Zt:Mk K a.Model a.qo
 PN:cP K a.Model "title"
 jt:cP K a.Model "columns"
 gQ:ip K a.lU
 Zu:Mk K a.lU a.qp
 Gj:cP K a.lU "ranks"
 PQ:cP K a.lU "cells"
 oG:cP K a.lU "weights"
 Gk:cP K a.lU "below"
 Gm:t_ K a.um
 PR:t_ K a.qu
 gn:ip K a.Reader
 Zv:Mk K a.Reader a.qr
 Gn:cP K a.Reader "tokens"
 yh:cP K a.Reader "at"
 oH:ip K a.lV
 Zw:Mk K a.lV a.qs
 yi:cP K a.lV "name"
 Gp:cP K a.lV "kind"
 PU:cP K a.lV "parents"
 cH:ip K a.Held
 Zx:Mk K a.Held a.qt
 iA:cP K a.Held "model"
 kM:cP K a.Held "rows"
 i6:cP K a.Held "chances"
 eG:ip K a.Call
 PV:Mk K a.Call a.oF
 yj:cP K a.Call "number"
 qv:cP K a.Call "numbers"
 m7:cP K a.Call "listed"
 PX:cP K a.Call "end"
 Zy:a.um≠a.qu
inductive Gq(f:Int->V)(vs:List V)(H:Hp)(Q:VK)(x_0:XK):Prop|m:∀x,vs=[.int x]->Q (f x) H->Gq f vs H Q x_0
noncomputable def BI(x:Int):Bool:=decide (48<=x)&&decide (x<=57)
noncomputable def BJ(x:Int):Bool:=(decide (65<=x)&&decide (x<=90)) ||(decide (97<=x)&&decide (x<=122))
section
variable {w:aS}{base:aU}
theorem BK(T:TX K mg a d):aV P w K mg base bo 41 a.mS d.mS ["byte"] (Gq λx=>.bl (BI x)):=by
 refine T.mS.ok bE λnD I A outer s H vs Q E hr h=>?_;obtain⟨x,rfl,q⟩:=h;refine#[_,(aF (aZ (xp mH mH aX (pv 0) aX))),?_];refine#[_,Z,_,_,Z,Z,decide (48<=x),Z,?_];show if decide (48<=x)=ai then _ else _
 dsimp only[BI] at q;cases e:decide (48<=x)
 .rw[e] at q;exact br q
 .rw[e] at q;exact bu #[_,_,Z,Z,q]
theorem PY(T:TX K mg a d):aV P w K mg base bo 41 a.pY d.pY ["byte"] (Gq λx=>.bl (BJ x)):=by
 refine T.pY.ok bE λnD J A outer s H vs Q E hr h=>?_;obtain⟨x,rfl,q⟩:=h;refine#[_,(aF (aZ (TQ (xp mH mH aX (pv 0) aX) (TN (xp mH mH aX (pv 0) aX))))),?_];dsimp only[BJ] at q;refine#[_,Z,_,_,Z,Z,decide (65<=x),Z,?_];have second:(Q (.bl (decide (97<=x)&&decide (x<=122))) H)->Ew (nO λi j=>.bl (decide (i<=j))) (nO λi j=>.bl (decide (i<=j))) (tC (.int 97)) (fF 0) (tC (.int 122)) (start ["byte"] [.int x]) H Q:=λq=>by
  refine#[_,Z,_,_,Z,Z,decide (97<=x),Z,?_];cases e:decide (97<=x)
  .rw[e] at q;exact br q
  .rw[e] at q;exact bu #[_,_,Z,Z,q]
 cases e:decide (65<=x)
 .rw[e] at q;exact br #[_,Z,br (second q)]
 .rw[e] at q;refine bu #[_,_,Z,Z,_,Z,?_];cases I:decide (x<=90)
  .rw[I] at q;exact br (second q)
  .rw[I] at q;exact bu q
theorem vS(T:TX K mg a d):aV P w K mg base bo 41 a.kJ d.kJ ["number","many"] (λvs H Q z=>∃x y,vs=[.int x,.int y]/\Q (.bl (decide (0<=x)&&decide (x<y))) H):=by
 refine T.kJ.ok bE λnD I A outer s H vs Q E hr h=>?_;rcases h with⟨x,y,rfl,q⟩;refine#[_,(aF (aZ (xp mH kB aX (pv 0) (pv 1)))),?_];refine#[_,Z,_,_,Z,Z,decide (0<=x),Z,?_];cases e:decide (0<=x)
 .rw[e] at q;exact br q
 .rw[e] at q;exact bu #[_,Z,_,_,Z,Z,q]
theorem uq(T:TX K mg a d):aV P w K mg base bo 41 a.jZ d.jZ ["one","other"] (λvs H Q b=>∃x y:Nat,vs=[.int x,.int y]/\Q (.int (bj x y)) H):=by
 refine T.jZ.ok bE λnD M A outer s H vs Q E hr h=>?_;obtain⟨x,y,rfl,q⟩:=h;refine#[_,(ay (pI dM (b9 jR (pv 1) aX (cu _)) (ay (aM 2 (bg Et (pv 0) (pv 1)))
  (ay (aM 0 (pv 1))
  (aF (aM 1 (pv 2))))))
  (aF (aZ (pv 0)))),?_]
 refine AW (λc H'=>∃(m n:Nat)(r:Option V),c=[aa (.int m),aa (.int n),r]/\H'=H/\bj m n=bj x y) (λc b=>match c with|[_,aa (.int n),_]=>n.toNat|_=>0) #[x,y,ae,Z,Z,Z] ?_
 rintro c H' ⟨m,n,r,rfl,rfl,J⟩;refine#[_,Z,Z,_,Z,?_];by_cases I:n=0
 .subst I;refine Vt Z #[_,Z,?_];rw[<-J,Nat.gcd_zero_right] at q;exact q
 .rw[bO (by intro z;injection z with z;exact I (by exact_mod_cast z))]
  refine bu (turn #[_,Z,_,Z,_,_,Z,Z,(by show(0:Int)<n;lia),_,Z,_,Z,?_])
  refine#[#[n,m%n,aa (.int ((m%n:Nat):Int)),by simp[aN,Ce],Z,?_],?_]
  .rw[<-J,Ic n,<-Nat.gcd_rec,Ic]
  .show((m:Int)%n).toNat<(n:Int).toNat;have:=nu m (Ij I);have R:=Int.emod_lt_of_pos (m:Int) (show(0:Int)<n by lia)
   have O:=Int.emod_nonneg (m:Int) (show(n:Int)≠0 by simp_all)
   assumption
theorem yk(T:TX K mg a d)(J:P.given.tree=ae):aV P w K mg base bo 42 a.lN d.lN ["above","below"] (λvs H Q z=>∃x y:Nat,vs=[.int x,.int y]/\0<y/\∀p,H p=ae->Q (.ref p) (upd H p (.tup [.int ((x/bj x y:Nat):Int),.int ((y/bj x y:Nat):Int)]))):=by
 refine T.lN.ok bE λnD R A outer s H vs Q E hr h=>?_;obtain⟨x,y,rfl,M,q⟩:=h;have I:=hr.pP (by decide)
 refine#[_,(ay (aM 2 (a_ T.jZ (uq T) (ah (pv 0) (ah (pv 1) ak))))
  (aF (aZ (vu (ah (bg (kF I J) (pv 0) (pv 2)) (ah (bg (kF I J) (pv 1) (pv 2)) ak)))))),?_]
 have S:0<bj x y:=kY _ M;refine#[_,Z,_,Z,x,y,Z,_,Z,_,Z,_,_,Z,Z,(by simp_all),_,Z,_,Z,_,_,Z,Z,(by simp_all),cb,λp O=>?_]
 have:=q p O;simpa using this
end
noncomputable def codes(z:au):List V:=z.cps.toList.map λ(c:Nat)=>V.int (c:Int)
inductive yl(vs:List V)(H:Hp)(Q:VK)(x_0:XK):Prop|m:∀z:au,vs=[.str z]->z.cps.size<=100000->(∀p,H p=ae->Q (.ref p) (upd H p (.lst (codes z))))->yl vs H Q x_0
section
variable {w:aS}{base:aU}
theorem oI(T:TX K mg a d):aV P w K mg base bo 41 a.gP d.gP ["written"] yl:=by
 refine T.gP.ok bE λnD S A outer s H vs Q E hr h=>?_;obtain⟨z,rfl,hz,q⟩:=h;refine#[_,(aF (aZ (pM Z nD (Vj (pv 0)) (own:=[("sign",1)]) T.gP.s.c9 (λy y y y y=>(bJ 1)) (λy y y y y=>gh) (λy y y y y=>(cz (Um) Z T.Zf Xw (ah (pv 1) ak)))))),?_];refine#[_,Z,z,Z,?_];have M:100000<bp:=by rw[bQ];decide
 refine AX (J:=Its z) z.cps.size (λD i H'=>H D=ae/\H'=upd H D (.lst ((codes z).take i))) (λD I=>#[I,Z]) (λD i H' O y=>O) (λD H' y=>bb _) ?_ Fg ?_
 .rintro D i H' O ⟨I,rfl⟩ x H2 ⟨rfl,c,R,rfl⟩;refine#[Z,_,Z,_,Z,Z,_,aA,?_,I,?_]
  .rw[gw];exact tE (Nat.min_le_right _ _) (by delta codes;rw[aJ];show z.cps.size<_;lia)
  .rw[dI]
   congr 2
   have e:(codes z)[i]? =aa (.int c):=by delta codes;rw[bL,nk,R];rfl
   rw[qJ,e];rfl
 .rintro D H' ⟨I,rfl⟩;have:=q D I
  rwa [show(codes z).take z.cps.size=codes z from mj (by delta codes;simp)]
end
noncomputable def bV(b:cA):List V:=b.map λ(x:UInt8)=>V.int (x.toNat:Int)
theorem fG b:(bV b).length=b.length:=aJ _
theorem oJ{b}{x}(h:b[i]? =aa x):(bV b)[i]? =aa (.int x.toNat):=by delta bV;rw[bL,h];rfl
theorem ur{A:Type}{b:List A}(h:i<b.length):∃x,b[i]? =aa x/\b.drop i=x::b.drop (i+1):=#[_,aY h,tf h]
theorem Gr{x}(A:n<256):(x.toNat=(n:Int))↔x=pq n:=by
 constructor
 .intro h;have:=by exact_mod_cast h
  apply D1.mp;rw[this];simp[uM A]
 .intro h;subst h;simp[uM A]
section
variable {w:aS}{base:aU}
inductive PZ(K:aP)(vs:List V)(H:Hp)(Q:VK)(x_0:XK):Prop|m:∀(p:af)(b:cA)(i:Nat),vs=[.ref p,.int i]->ao K H p (bV b)->i<=b.length->Q (.int ((i+ ((b.drop i).takeWhile (·!=10)).length:Nat):Int)) H->PZ K vs H Q x_0
theorem Zz(T:TX K mg a d):aV P w K mg base bo 41 a.sk d.sk ["text","at"] (PZ K):=by
 refine T.sk.ok bE λnD R A outer s H vs Q E hr h=>?_;obtain⟨p,b,i,rfl,M,O,q⟩:=h;refine#[_,(ay (pI dM (PW.pt (pG (b9 kB (pv 1) (cz (c8) Z T.de c_ (ah (pv 0) ak)) (cu _)) (rL (b9 jR (bt b8 (pv 0) (pv 1)) (bZ Z T.YZ) (cu _))))) (aF (aM 1 (bg eK (pv 1) aX))))
   (aF (aZ (pv 1)))),?_]
 refine AW (λc H'=>∃j:Nat,c=[aa (.ref p),aa (.int j)]/\H'=H/\j<=b.length/\j+ ((b.drop j).takeWhile (·!=10)).length=i+ ((b.drop i).takeWhile (·!=10)).length) (λc y=>match c with|[_,aa (.int n)]=>b.length-n.toNat|_=>0) #[i,Z,Z,O,Z] ?_
 rintro c H' ⟨j,rfl,rfl,S,e⟩;refine#[_,Z,_,Z,p,_,Z,.inl M,_,_,Z,Z,_,Z,?_];rw[fG];by_cases J:j<b.length
 .rw[bX (by exact_mod_cast J)]
  obtain⟨x,hx,hd⟩:=ur J;refine bu #[_,Z,_,Z,p,_,_,_,Z,Z,M,bY (oJ hx),Z,_,Z,?_];by_cases I:x=10
  .subst I;rw[bX (by rfl)]
   refine br #[_,Z,?_];rw[hd,CI (by simp)] at e
   rw[<-e] at q;simpa using q
  .rw[bO (by intro z;injection z with z;exact I ((Gr (n:=10) (by decide)).mp z))]
   refine bu (turn #[_,Z,_,_,Z,Z,#[j+1,Z,Z,J,?_],?_])
   .rw[hd,tr (by simp[I]),bP] at e
    lia
   .show b.length-((j:Int)+1).toNat<b.length-(j:Int).toNat;lia
 .rw[bO (by intro z;exact J (by exact_mod_cast z))]
  refine br (br #[_,Z,?_]);have:b.drop j=[]:=wm (by simp_all)
  rw[this] at e;rw[<-e] at q;simpa using q
theorem vT x (n:Nat)(A:n<256):(n==(x.toNat:Int))=(x==pq n):=by
 by_cases h:x=pq n
 .rw[fJ.mpr h,fJ.mpr ((Gr A).mpr h).symm]
 .rw[kz.mpr h,kz.mpr (λz=>h ((Gr A).mp z.symm))]
theorem Gs x (n:Nat)(A:n<256):decide (V.int x.toNat=V.int n)=(x==pq n):=by
 rw[Eu,yH];exact vT x n A
theorem ZA x:nQ (.int x.toNat) [.int 32,.int 9,.int 10]=kx x:=by
 delta nQ kx;simp only[l7,List.any_nil,iS,Cb];rw[show((32)==(x.toNat:Int))=(x==32) from vT x 32 (by decide),show((9)==(x.toNat:Int))=(x==9) from vT x 9 (by decide),show((10)==(x.toNat:Int))=(x==10) from vT x 10 (by decide),Bool.or_assoc]
inductive P0(K:aP)(vs:List V)(H:Hp)(Q:VK)(x_0:XK):Prop|m:∀(p:af)(b:cA)(i:Nat),vs=[.ref p,.int i]->ao K H p (bV b)->i<=b.length->Q (.int ((i+skip (b.drop i):Nat):Int)) H->P0 K vs H Q x_0
theorem P1(T:TX K mg a d):aV P w K mg base bo 42 a.pX d.pX ["text","at"] (P0 K):=by
 refine T.pX.ok bE λnD cdv A outer s H vs Q E hr h=>?_;obtain⟨p,b,i,rfl,S,hi,q⟩:=h;refine#[_,(ay (pI dM (PW.pt (pG (b9 kB (pv 1) (cz (c8) Z T.de c_ (ah (pv 0) ak)) (cu _)) (rL (PW.pt (pH (b9 EH (bt b8 (pv 0) (pv 1)) (vq Z T.Zc (v:=.ref a.Ga) Z) (by with_unfolding_all rfl)) (rM (b9 mG (bt b8 (pv 0) (pv 1)) (bZ Z T.Pp) (cu _)))))))) (aF (cy (b9 mG (bt b8 (pv 0) (pv 1)) (bZ Z T.Pp) (cu _)) (aF (aM 1 (a_ T.sk (Zz T) (ah (pv 0) (ah (pv 1) ak))))) (aF (aM 1 (bg eK (pv 1) aX))))))
   (aF (aZ (pv 1)))),?_]
 refine AW (λt H'=>∃j:Nat,t=[aa (.ref p),aa (.int j)]/\H'=H/\j<=b.length/\j+skip (b.drop j)=i+skip (b.drop i)) (λt y=>match t with|[_,aa (.int n)]=>b.length-n.toNat|_=>0) #[i,Z,Z,hi,Z] ?_
 rintro t H' ⟨j,rfl,rfl,c,e⟩;refine#[_,Z,_,Z,p,_,Z,.inl S,_,_,Z,Z,_,Z,?_];rw[fG];by_cases J:j<b.length
 .rw[bX (by exact_mod_cast J)]
  obtain⟨x,hx,hd⟩:=ur J;have R:decide (V.int (x.toNat:Int)=V.int 35)=(x==35):=Gs x 35 (by decide)
  refine bu #[_,Z,_,Z,p,_,_,_,Z,Z,S,bY (oJ hx),_,_,Z,.inr (T.Zd _),Z,Z,_,Z,?_];rw[aw cZ,ZA];by_cases O:kx x=ai
  .
   have I:(x==35)=az:=by
    by_cases z:x=35
    .subst z;revert O;decide
    .exact kz.mpr z
   rw[O];refine bu (bu (turn #[_,Z,_,Z,p,_,_,_,Z,Z,S,bY (oJ hx),Z,_,Z,?_]));rw[R,I];refine br #[_,Z,_,_,Z,Z,#[j+1,Z,Z,J,?_],?_]
   .rw[hd,AZ O] at e;lia
   .show b.length-((j:Int)+1).toNat<b.length-(j:Int).toNat;lia
  .have O:=by simpa using O
   rw[O];refine br #[_,Z,_,Z,p,_,_,_,Z,Z,S,bY (oJ hx),Z,_,Z,?_];rw[R];by_cases M:(x==35)=ai
   .rw[M];refine bu (turn #[_,Z,_,Z,p,_,_,_,Z,Z,S,bY (oJ hx),Z,_,Z,?_]);rw[R,M];have I:=eq_of_beq M;have U:((b.drop j).takeWhile (·!=10)).length=1+ ((b.drop (j+1)).takeWhile (·!=10)).length:=by
     rw[hd,tr (by subst I;decide),bP];lia
    have Y:=r6 (·!=10) (b.drop j);rw[gY] at Y;refine bu #[_,Z,_,Z,p,b,j,Z,S,c,#[_,Z,Z,by grind,?_],?_]
    .rw[hd,A0 O M] at e;rw[<-e,<-kS,U,hd,qK 1,wq,<-vG];lia
    .show b.length-(((j+ ((b.drop j).takeWhile (·!=10)).length:Nat):Int)).toNat<b.length-(j:Int).toNat;omega
   .have M:(x==35)=az:=by simpa using M
    rw[M];refine br #[_,Z,?_];rw[hd,A1 O M] at e;rw[<-e] at q;simpa using q
 .rw[bO (by intro z;exact J (by exact_mod_cast z))]
  refine br (br #[_,Z,?_]);have:b.drop j=[]:=wm (by simp_all)
  rw[this] at e;rw[<-e] at q;simpa[XD] using q
end
theorem ZC(f:au)(v:V):b_ f v []=[(f,v)]:=Z
theorem ZD{f g:au}{x:V}{r:List (au×V)}(h:¬g=f):b_ f v ((g,x)::r)=(g,x)::b_ f v r:=by
 show(if g=f then _ else _)=_
 rw[aw h]
inductive m8(C:af)(n:Nat)(fs:List V->List (au×V))(vs:List V)(H:Hp)(Q:VK)(x_0:XK):Prop|m:∀(x dx:af)(vs':List V),vs=.ref x::vs'->vs'.length=n->H x=aa (.ins C dx [])->Q .bB (upd H x (.ins C dx (fs vs')))->m8 C n fs vs H Q x_0
noncomputable def lW:List V->List (au×V)
 |[f,c,p,e]=>[("form",f),("content",c),("place",p),("end",e)]
 |_=>[]
section
variable {w:aS}{base:aU}
theorem ym(T:TX K mg a d):aV P w K mg base bo 41 a.kL d.kL ["self","form","content","place","end"] (m8 a.Token 4 lW):=by
 refine T.kL.ok (λvs H Q E h=>?_) (λnD S A outer s H vs Q E hr h=>?_)
 .obtain⟨x,dx,I,rfl,J,_⟩:=h;simp[J]
 .obtain⟨x,dx,I,rfl,J,hx,q⟩:=h;obtain⟨f,c,p,e,rfl⟩:=len4 J;refine#[_,(ay (dv (pv 0) (pv 1) Z)
  (ay (dv (pv 0) (pv 2) Z)
  (ay (dv (pv 0) (pv 3) Z)
  (aF (dv (pv 0) (pv 4) Z))))),?_]
  refine#[_,Z,_,Z,x,_,dx,_,Z,hx,T.dP,T.BF,dq,?_]
  refine#[_,Z,_,Z,x,_,dx,_,Z,aA,T.dP,T.j4,dq,?_]
  have R:b_ "content" c (b_ "form" f [])=([("form",f),("content",c)]:List (au×V)):=by kernel_rfl
  rw[dI,R];refine#[_,Z,_,Z,x,_,dx,_,Z,aA,T.dP,T.mZ,dq,?_]
  have O:b_ "place" p ([("form",f),("content",c)]:List (au×V))=([("form",f),("content",c),("place",p)]:List (au×V)):=by kernel_rfl
  rw[dI,O];refine#[_,Z,_,Z,x,_,dx,_,Z,aA,T.dP,T.PL,dq,?_]
  have M:b_ "end" e ([("form",f),("content",c),("place",p)]:List (au×V))=lW [f,c,p,e]:=by kernel_rfl
  rw[dI,M];exact q
theorem ju(T:TX K mg a d):aV P w K mg base bo 41 a.fo d.fo ["self","code","place"] (E3 a.Fault):=by
 refine T.fo.ok bE λnD S A outer s H vs Q E hr h=>?_;obtain⟨x,t,c,p,rfl,hx,q⟩:=h;refine#[_,(ay (VX (pv 0) (pv 1) Z)
   (aF (VY (pv 0) (pv 2) Z))),?_]
 refine#[_,Z,_,Z,x,_,t,Z,hx,#[_,T.xt],T.PJ,λO J=>?_];have I:O≠x:=λz=>by subst z;rw[hx] at J;cases J
 refine#[_,Z,_,Z,x,_,t,O,_,Z,aA,by rw[aB I,aA],I,dq,#[_,T.xt],T.PK,?_]
 rw[ZD (by decide +kernel),ZC]
 refine q _ O (λb o e R=>?_) (by rw[aB I.symm,aA]) aA I
 have M:=bc e J;rw[aB M,aB R,aB M];exact e
theorem ZE(l:cA)(x:UInt8):toldOf (l++[x])=toldOf l*10+ ((x.toNat:Int)-48):=by unfold toldOf;rw[tj];rfl
theorem take_snoc{A:Type}{l:List A}{x:A}(h:l[i]? =aa x):l.take (i+1)=l.take i++[x]:=by
 rw[qJ,h];rfl
inductive P2(K:aP)(vs:List V)(H:Hp)(Q:VK)(x_0:XK):Prop|m:∀(p:af)(b:cA),vs=[.ref p]->ao K H p (bV b)->Q (.int (toldOf b)) H->P2 K vs H Q x_0
theorem ZF(T:TX K mg a d):aV P w K mg base bo 41 a.su d.su ["digits"] (P2 K):=by
 refine T.su.ok bE λnD M A outer s H vs Q E hr h=>?_;obtain⟨p,b,rfl,J,q⟩:=h;refine#[_,(ay (aM 1 aX)
   (ay (du dM Z (d_ (pv 0)) (bJ 2) (aF (aM 1 (bg eK (bg gi (pv 1) aX) (bg rO (pv 2) (bZ Z T.Pq))))))
   (aF (aZ (pv 1))))),?_]
 refine#[_,Z,p,Z,#[_,J],gf (a:=p) (xs:=bV b) (λi c H'=>H'=H/\∃v,c=[aa (.ref p),aa (.int (toldOf (b.take i))),v]) #[Z,ae,Z] (λi c H' z ⟨e,_⟩=>by rw[e];exact J) ?_ ?_]
 .rintro i y c H' I ⟨rfl,v,rfl⟩;obtain⟨x,hx,rfl⟩:∃x,b[i]? =aa x/\y=.int (x.toNat:Int):=by
   delta bV at I;rw[bL] at I;cases e:b[i]? with
   |none=>rw[e] at I;cases I
   |some x=>rw[e] at I;exact#[x,Z,(bf I).symm]
  refine#[_,Z,_,_,Z,Z,.of_right (by decide),_,Z,_,_,Z,Z,_,_,Z,Z,Z,aa (.int (x.toNat:Int)),?_]
  rw[take_snoc hx,ZE];rfl
 .rintro c H' ⟨rfl,v,rfl⟩;refine#[_,Z,?_];rw[fG,eV];exact q
end
def jv(C:af)(H:Hp)(t:af)(f:au)(c:V)(p e:Nat):Prop:=∃dx,H t=aa (.ins C dx (lW [.str f,c,.int p,.int e]))
def dw(C:af)(H:Hp)(t:af)(x:h_)(e:Nat):Prop:=match x.tok with
 |.name b=>∃c,jv C H t "word" (.ref c) x.place e/\H c=aa (.lst (bV b))
 |.num n=>jv C H t "number" (.int n) x.place e
 |.sign s=>∃c,jv C H t "sign" (.ref c) x.place e/\H c=aa (.lst (bV (nZ s)))
 |.halt_=>∃c,jv C H t "end" (.ref c) x.place e/\H c=aa (.lst [])
theorem jv.same{t:af}{f:au}{c:V}{p:Nat}(S:ag H H')(h:jv C H t f c p e):jv C H' t f c p e:=h.imp λx q=>S _ _ q
theorem dw.same{t:af}(S:ag H H')(h:dw C H t x e):dw C H' t x e:=by
 delta dw at h⊢
 split at h<;>first|exact h.imp λy q=>#[q.1.same S,S _ _ q.2]|exact h.same S
noncomputable def gR(H H':Hp):Hp:=λb=>if H b=ae then H' b else ae
theorem fO{o}(h:H b=ae)(e:H' b=aa o):gR H H' b=aa o:=by delta gR;rw[aC h];exact e
theorem jw{o}(e:gR H H' b=aa o):H b=ae/\H' b=aa o:=by
 delta gR at e;by_cases h:H b=ae
 .rw[aC h] at e;exact#[h,e]
 .rw[aw h] at e;cases e
noncomputable def Wo(H:Hp)(l:af):Hp:=λb=>if b=l then ae else H b
theorem aQ{l}{o}(h:b≠l)(e:H b=aa o):Wo H l b=aa o:=by delta Wo;rw[aw h];exact e
theorem bh{l}{o}(e:Wo H l b=aa o):b≠l/\H b=aa o:=by
 delta Wo at e;by_cases h:b=l
 .rw[aC h] at e;cases e
 .rw[aw h] at e;exact#[h,e]
theorem cU{l}:ag (Wo H l) H:=λb o e=>(bh e).2
def Gu(C F:af)(i:Nat)(r:Option (z0×Nat))(H:Hp)(Q:VK)(E:XK):Prop:=match r with
 |none=>FX E F 2 i H
 |some (t,k)=>∀(H':Hp)(o:af),ag H H'->H o=ae->dw C (gR H H') o #[i,t] (i+k)->Q (.ref o) H'
theorem FX.same{E}{c}(S:ag H H')(h:FX E C c p H):FX E C c p H':=λH2 dx A e=>h H2 dx (S.trans A) e
theorem ag.ZG{p}{o}(h:H p=ae):ag H (upd H p o):=λb u e=>by rw[aB (bc e h)];exact e
theorem BL x:BI x.toNat=dh x:=by
 delta BI dh;rw[gu];simp only[fQ,Ae];omega
theorem P4 x:BJ x.toNat=ky x:=by
 delta BJ ky;rw[gu];simp only[fQ,wj,Ae];omega
theorem P5 b (i k:Nat)(h:i+k<=b.length):jT (bV b) (aa i) (aa ((i+k:Nat)))=bV ((b.drop i).take k):=by
 delta jT;rw[HT.rQ,HT.rQ,fG,qP (show i<=b.length by lia),qP h,show i+k-i=k by simp]
 delta bV;rw[<-CA,<-CF]
section
variable {w:aS}{base:aU}
noncomputable def Gv(r:cA):Option (z0×Nat):=if D4<(r.takeWhile λc=>ky c ||dh c).length then ae else aa (.name (r.takeWhile λc=>ky c ||dh c),(r.takeWhile λc=>ky c ||dh c).length)
inductive P6(K:aP)(a:Ad)(vs:List V)(H:Hp)(Q:VK)(E:XK):Prop|m:∀(p:af)(b:cA)(i:Nat),vs=[.ref p,.int i]->ao K H p (bV b)->b.length<=10000->i<=b.length->Gu a.Token a.Fault i (Gv (b.drop i)) H Q E->P6 K a vs H Q E
theorem ZH(T:TX K mg a d):aV P w K mg base (e9 P w a.Fault) 43 a.sr d.sr ["text","at"] (P6 K a):=by
 refine T.sr.gL bE λnD cdv A outer s H vs Q E hr W h=>?_;obtain⟨p,b,i,rfl,hS,hbl,hi,q⟩:=h;refine#[_,(ay (aM 2 (pv 1))
   (ay (pI kq (PW.pt (pG (b9 kB (pv 2) (cz (c8) Z T.de c_ (ah (pv 0) ak)) (cu _)) (rL (PW.pt (pH (eZ (a_ T.pY (PY T) (ah (bt b8 (pv 0) (pv 2)) ak)) (λy=>Z)) (rM (eZ (a_ T.mS (BK T) (ah (bt b8 (pv 0) (pv 2)) ak)) (λy=>Z)))))))) (aF (aM 2 (bg eK (pv 2) aX))))
   (ay (cy (b9 nP (bg rO (pv 2) (pv 1)) (bZ Z T.YX) (cu _)) (aF (jn T.xt (ju T) T.fo.b (dW hr) Z W Z T.i4 (ah (bZ Z T.BC) (ah (pv 1) ak)))) cC)
   (aF (aZ (pMk T.kL T.yg T.yf (ym T) (ah (pQ Z T.Pu) (ah (vy vz (pv 0) (lx (pv 1)) (lx (pv 2))) (ah (pv 1) (ah (pv 2) ak)))))))))),?_]
 refine#[_,Z,?_];have pred:∀j,((b.drop j).takeWhile λc=>ky c ||dh c)=(b.drop j).takeWhile λc=>ky c ||dh c:=λy=>Z;generalize hp:(λc=>ky c ||dh c)=O at pred;delta Gv at q;rw[hp] at q;refine Ff (λt H'=>∃j:Nat,t=[aa (.ref p),aa (.int i),aa (.int j)]/\H'=H/\i<=j/\j<=b.length/\j+ ((b.drop j).takeWhile O).length=i+ ((b.drop i).takeWhile O).length)
  (λt H'=>H'=H/\t=[aa (.ref p),aa (.int i),aa (.int ((i+ ((b.drop i).takeWhile O).length:Nat):Int))]) (λt y=>match t with|[_,_,aa (.int n)]=>b.length-n.toNat|_=>0) #[i,Z,Z,bb _,hi,Z] ?_ ?_
 .rintro out t H' ⟨j,rfl,rfl,hij,hj,e⟩;refine#[_,Z,_,Z,p,_,Z,.inl hS,_,_,Z,Z,_,Z,?_];rw[fG];by_cases I:j<b.length
  .rw[bX (by exact_mod_cast I)]
   obtain⟨x,hx,hd⟩:=ur I;have J:=congrFun hp x;refine bu #[_,Z,_,Z,p,_,_,_,Z,Z,hS,bY (oJ hx),_,Z,_,Z,?_];rw[P4];by_cases U:ky x=ai
   .rw[U];rw[U,Ha] at J;refine bu (bu (turn #[_,Z,_,_,Z,Z,#[j+1,Z,Z,by lia,I,?_],?_]))
    .rw[Fi hd J.symm] at e;lia
    .show b.length-((j:Int)+1).toNat<b.length-(j:Int).toNat;lia
   .have U:=by simpa using U
    rw[U];rw[U,G_] at J;refine br #[_,Z,_,Z,p,_,_,_,Z,Z,hS,bY (oJ hx),_,Z,_,Z,?_];rw[BL,J];by_cases S:O x=ai
    .rw[S];refine bu (turn #[_,Z,_,_,Z,Z,#[j+1,Z,Z,by lia,I,?_],?_])
     .rw[Fi hd S] at e;lia
     .show b.length-((j:Int)+1).toNat<b.length-(j:Int).toNat;lia
    .have S:=by simpa using S
     rw[S];refine br (out _ _ #[Z,?_]);rw[NZ hd S] at e;rw[<-e];rfl
  .rw[bO (by intro z;exact I (by exact_mod_cast z))]
   refine br (br (out _ _ #[Z,?_]));rw[N0 (show b.length<=j by simp_all)] at e
   rw[<-e];rfl
 .rintro t H' ⟨rfl,rfl⟩;have hle:=r6 O (b.drop i);rw[gY] at hle;refine#[_,Z,_,Z,_,_,Z,Z,_,_,Z,Z,_,Z,?_];have hN:D4=16:=Z;by_cases h16:D4<((b.drop i).takeWhile O).length
  .rw[aC h16] at q;rw[bX (by lia)]
   exact bu #[_,Z,_,_,Z,q]
  .rw[aw h16] at q;rw[bO (by lia)]
   refine br #[_,Z,_,Z,_,Z,_,Z,_,Z,p,_,Z,hS,λc hc=>#[_,Z,_,Z,?_]];intro x dx hx M hne;have Y:c≠x:=λz=>by subst z;rw[aA] at hx;cases hx
   have f:c≠dx:=λz=>by subst z;rw[aA] at M;cases M
   have R:=by rw[aB (bG Y)] at hx;exact hx
   have V:=by rw[aB (bG f)] at M;exact M
   refine#[x,dx,_,Z,Z,aA,Z,?_];rw[dI];refine q _ x (λb o e=>?_) R #[c,#[dx,fO R aA],fO hc ?_]
   .rw[aB (bc e R),aB (bc e V),aB (bc e hc)];exact e
   .rw[aB Y,aB f,aA,P5 b i _ (by lia),Fj]
end
section
variable {w:aS}{base:aU}
theorem ZI{m}{z}(E:σ[n]? =aa (aa (.bl neg)))(A:σ[m]? =aa (aa (.int z)))(h:Q (.int (if neg=ai then -z else z)) H):
  tIf (λσ H Q=>fF n σ H λx H'=>∃k,Ex K x H' k/\Q k H') (tUn (rU λi=>.int (-i)) (fF m)) (fF m) σ H Q:=by
 refine#[_,E,_,Z,?_];cases neg
 .exact br #[_,A,h]
 .exact bu #[_,A,_,Z,h]
inductive P7(K:aP)(a:Ad)(vs:List V)(H:Hp)(Q:VK)(E:XK):Prop|m:∀(p:af)(b:cA)(i s:Nat),vs=[.ref p,.int i,.int ((i+s:Nat):Int)]->ao K H p (bV b)->b.length<=10000->s<=1->i+s<=b.length->(b.drop (i+s)).takeWhile dh≠[]->(Gu a.Token a.Fault i ((VaprbBase.numberOf (decide (s=1)) ((b.drop (i+s)).takeWhile dh)).map λn=>(.num n,((b.drop (i+s)).takeWhile dh).length+s)) H Q E)->P7 K a vs H Q E
theorem P8(T:TX K mg a d):aV P w K mg base (e9 P w a.Fault) 43 a.pZ d.pZ ["text","at","first"] (P7 K a):=by
 refine T.pZ.gL bE λnD cdv A outer s H vs Q E hr W h=>?_;obtain⟨p,b,i,s0,rfl,hS,hbl,hs1,hi,hne,q⟩:=h;refine#[_,(ay (aM 3 (pv 2))
   (ay (pI kq (PW.pt (pG (b9 kB (pv 3) (cz (c8) Z T.de c_ (ah (pv 0) ak)) (cu _)) (rL (eZ (a_ T.mS (BK T) (ah (bt b8 (pv 0) (pv 3)) ak)) (λy=>Z))))) (aF (aM 3 (bg eK (pv 3) aX))))
   (ay (aM 4 (An nP (pv 2) (pv 1) (cu _)))
   (ay (aM 5 (vy vz (pv 0) (lx (pv 2)) (lx (pv 3))))
   (ay (cy (PW.pt (pG (b9 mG (bt b8 (pv 5) aX) (bZ Z T.Pq) (cu _)) (rL (PW.pt (pH (eZ (pv 4) (λy=>Z)) (rM (b9 nP (cz (c8) Z T.de c_ (ah (pv 5) ak)) aX (cu _)))))))) (aF (jn T.xt (ju T) T.fo.b (dW hr) Z W Z T.i4 (ah (bZ Z T.BC) (ah (pv 1) ak)))) cC)
   (ay (aM 6 (a_ T.su (ZF T) (ah (pv 5) ak)))
   (ay (cy (b9 nP (pv 6) (bZ Z T.YY) (cu _)) (aF (jn T.xt (ju T) T.fo.b (dW hr) Z W Z T.i4 (ah (bZ Z T.BC) (ah (pv 1) ak)))) cC)
   (aF (aZ (pMk T.kL T.yg T.yf (ym T) (ah (pQ Z T.Pw) (ah (Lo (eZ (pv 4) (λy=>Z)) (Ue Ug (pv 6)) (pv 6)) (ah (pv 1) (ah (pv 3) ak)))))))))))))),?_]
 refine#[_,Z,?_];generalize hi0:i+s0=I at *;have hdig:=N1 dh (b.drop I);rw[<-XG hne hdig] at q;refine Ff (λu H'=>∃j:Nat,u=[aa (.ref p),aa (.int i),aa (.int (I:Int)),aa (.int j),ae,ae,ae]/\H'=H/\I<=j/\j<=b.length/\j+ ((b.drop j).takeWhile dh).length=I+ ((b.drop I).takeWhile dh).length)
  (λu H'=>H'=H/\u=[aa (.ref p),aa (.int i),aa (.int (I:Int)),aa (.int ((I+ ((b.drop I).takeWhile dh).length:Nat):Int)),ae,ae,ae]) (λu y=>match u with|[_,_,_,aa (.int n),_,_,_]=>b.length-n.toNat|_=>0) #[I,Z,Z,bb _,hi,Z] ?_ ?_
 .rintro out u H' ⟨j,rfl,rfl,hij,hj,e⟩;refine#[_,Z,_,Z,p,_,Z,.inl hS,_,_,Z,Z,_,Z,?_];rw[fG];by_cases M:j<b.length
  .rw[bX (by exact_mod_cast M)]
   obtain⟨x,hx,hd⟩:=ur M;refine bu #[_,Z,_,Z,p,_,_,_,Z,Z,hS,bY (oJ hx),_,Z,_,Z,?_];rw[BL];by_cases f:dh x=ai
   .rw[f];refine bu (turn #[_,Z,_,_,Z,Z,#[j+1,Z,Z,by grind,M,?_],?_])
    .rw[Fi hd f] at e;lia
    .show b.length-((j:Int)+1).toNat<b.length-(j:Int).toNat;lia
   .have f:=by simpa using f
    rw[f];refine br (out _ _ #[Z,?_]);rw[NZ hd f] at e;rw[<-e];rfl
  .rw[bO (by intro z;exact M (by exact_mod_cast z))]
   refine br (br (out _ _ #[Z,?_]));rw[N0 (show b.length<=j by simp_all)] at e
   rw[<-e];rfl
 .rintro u H' ⟨rfl,rfl⟩;have hle:=r6 dh (b.drop I);rw[gY] at hle;have S:=P5 b I ((b.drop I).takeWhile dh).length (by lia)
  rw[Fj] at S;generalize hl:(b.drop I).takeWhile dh=l at *;obtain⟨x,r,rfl⟩:∃x r,l=x::r:=by cases l with|nil=>exact absurd Z hne|cons x r=>exact#[x,r,Z]
  have hneg:decide ((i:Int)<(I:Int))=decide (s0=1):=by
   by_cases z:s0=1
   .rw[bX z,bX (by lia)]
   .rw[bO z,bO (by lia)]
  rw[<-hneg] at q;refine#[_,Z,_,Z,_,_,Z,Z,?_];refine#[_,Z,_,Z,_,Z,_,Z,_,Z,p,_,Z,hS,λc hc=>?_];rw[S];have hS1:ag H' (upd H' c (.lst (bV (x::r)))):=ag.ZG hc;have hlen:(bV (x::r)).length=r.length+1:=by rw[fG];rfl
  delta Fl at q;simp only[HE,uR,bP] at q;dsimp only[aR,cN,aN];refine cX ((x==48)&&(decide ((i:Int)<(I:Int)) ||decide (1<r.length+1))) (λR q'=>?_) ?_
  .refine r0 (x==48) _ (λR U=>?_) (λy R U=>?_) q'
   .refine#[_,Z,c,_,0,_,Z,Z,ao.of aA,bY (j:=0) (v:=.int (x.toNat:Int)) Z,Z,_,Z,?_];rw[show decide (V.int (x.toNat:Int)=V.int 48)=(x==48) from Gs x 48 (by decide)]
    exact U
   .refine uc (decide ((i:Int)<(I:Int))) (decide (1<r.length+1)) (λR q3=>#[_,Z,_,Z,q3]) (λy R q3=>#[_,Z,c,_,Z,.inl (ao.of aA),_,_,Z,Z,_,Z,?_]) U;rw[hlen,show decide ((1:Int)<((r.length+1:Nat):Int))=decide (1<r.length+1) by rw[d9];lia]
    exact q3
  .by_cases hz:x=48/\(decide ((i:Int)<(I:Int))=ai\/1<r.length+1)
   .rw[aC hz] at q;rw[show((x==48)&&(decide ((i:Int)<(I:Int)) ||decide (1<r.length+1)))=ai by simpa using hz]
    exact bu #[_,Z,_,_,Z,FX.same hS1 q]
   .rw[aw hz] at q;rw[show((x==48)&&(decide ((i:Int)<(I:Int)) ||decide (1<r.length+1)))=az by
     rw[uG];intro z;exact hz (by simpa using z)]
    refine br #[_,Z,c,_,Z,ao.of aA,?_];by_cases J:1000000000<toldOf (x::r)
    .rw[aC J] at q;refine#[_,Z,_,_,Z,Z,_,Z,?_];rw[bX J];exact bu #[_,Z,_,_,Z,FX.same hS1 q]
    .rw[aw J] at q;refine#[_,Z,_,_,Z,Z,_,Z,?_];rw[bO J];refine br ?_;dsimp only[di,mF,Ar,iQ,tC,aN];refine ZI Z Z #[_,Z,_,Z,?_];intro t dx ht O hne2;have hct:c≠t:=λz=>by subst z;rw[aA] at ht;cases ht
     have hcd:c≠dx:=λz=>by subst z;rw[aA] at O;cases O
     have Y:=by rw[aB (bG hct)] at ht;exact ht
     have hdx0:=by rw[aB (bG hcd)] at O;exact O
     refine#[t,dx,_,Z,Z,aA,Z,?_];rw[dI];refine q _ t (λb o e=>?_) Y #[dx,fO Y ?_]
     .rw[aB (bc e Y),aB (bc e hdx0),aB (bc e hc)];exact e
     .rw[aA,show i+ (r.length+1+s0)=I+ (x::r).length by rw[<-hi0,bP];lia]
      rfl
end
theorem lX s (h:∀c∈s.toList,c.toNat<256):codes (dy s)=bV (gF s):=by
 delta codes bV gF;rw[au.ofString_eq_toList];simp only[eU];refine i9 λc A=>?_;show V.int ((c.toNat:Nat))=V.int ((pq c.toNat).toNat);rw[K3,uM (h c A)]
theorem P9 x:∀l,nQ (.int x.toNat) (bV l)=l.contains x
 |[]=>Z
 |y::l=>by
  have A:=P9 x l;unfold nQ at A⊢;show(iS (.int y.toNat) (.int x.toNat) ||(bV l).any _)=_;rw[A,yQ]
  congr 1
  show(y.toNat==(x.toNat:Int))=(x==y);have:=vT x y.toNat (K2 y);rw[this,K1]
theorem ZJ l:(bV l).all iR=ai:=by
 delta bV;rw[List.all_map,jE];intro x _;rfl
noncomputable def bD(b:cA):g_:=.list (b.map λ(x:UInt8)=>.int (x.toNat:Int))
theorem P_{K}{H}:∀b,gg K H (bV b) (b.map λx=>DO x.toNat)
 |[]=>.nil
 |x::b=>.cons (.int _) (P_ b)
theorem oK{p}{b}(h:ao K H p (bV b)):Dp K H (.ref p) (bD b):=.lst h (P_ b)
theorem uu:∀a b,hJ (bD a) (bD b)=decide (a=b):=by
 intro a b;show Km _ _=_
 induction a generalizing b with
 |nil=>cases b<;>rfl
 |cons x a A=>
  cases b with
  |nil=>rfl
  |cons y b=>
   show(hJ (.int _) (.int _)&&Km (a.map _) (b.map _))=_;rw[A b];have:hJ (.int x.toNat) (.int y.toNat)=decide (x=y):=by
    show(x.toNat==(y.toNat:Int))=_;have h:=vT y x.toNat (K2 x);rw[h,K1,yH];exact(G9 ..)
   rw[this,gu];simp
theorem kN b:ku (bD b)=ai:=by
 have I:∀b:cA,Kl (b.map λx=>DO x.toNat)=ai:=λb=>by
  induction b with
  |nil=>rfl
  |cons x b A=>show(ai&&Kl _)=ai;rw[A];rfl
 have E:∀b:cA,DN (b.map λx=>DO x.toNat)=0:=λb=>by
  induction b with
  |nil=>rfl
  |cons x b A=>show max 0 (DN _)=0;rw[A];rfl
 delta ku;rw[fQ];refine#[I b,bX ?_];show DN _+1<=64;rw[E];decide
section
variable {w:aS}{base:aU}
inductive Qa(K:aP)(a:Ad)(vs:List V)(H:Hp)(Q:VK)(E:XK):Prop|m:∀(p:af)(b:cA)(i:Nat),vs=[.ref p,.int i]->ao K H p (bV b)->b.length<=10000->i<b.length->Gu a.Token a.Fault i (D6 (b.drop i)) H Q E->Qa K a vs H Q E
theorem ZK:gF "={}()[],;:/|"=xa:=by decide +kernel
theorem ZL(T:TX K mg a d):aV P w K mg base (e9 P w a.Fault) 45 a.sq d.sq ["text","at"] (Qa K a):=by
 refine T.sq.gL bE λnD cdv A outer s H vs Q E hr W h=>?_;obtain⟨p,b,i,rfl,S,hbl,hi,q⟩:=h;have hu:=hr.units;refine#[_,(ay (aM 2 (bt b8 (pv 0) (pv 1)))
   (ay (cy (eZ (a_ T.pY (PY T) (ah (pv 2) ak)) (λu=>Z)) (aF (aZ (ek T.sr (ZH T) (ej W) (ah (pv 0) (ah (pv 1) ak))))) cC)
   (ay (cy (eZ (a_ T.mS (BK T) (ah (pv 2) ak)) (λu=>Z)) (aF (aZ (ek T.pZ (P8 T) (ej W) (ah (pv 0) (ah (pv 1) (ah (pv 1) ak)))))) cC)
   (ay (cy (PW.pt (pG (b9 mG (pv 2) (bZ Z T.Gd) (cu _)) (pG (b9 kB (bg eK (pv 1) aX) (cz (c8) Z T.de c_ (ah (pv 0) ak)) (cu _)) (rL (eZ (a_ T.mS (BK T) (ah (bt b8 (pv 0) (bg eK (pv 1) aX)) ak)) (λu=>Z)))))) (aF (aZ (ek T.pZ (P8 T) (ej W) (ah (pv 0) (ah (pv 1) (ah (bg eK (pv 1) aX) ak)))))) cC)
   (ay (cy (b9 (Mm hu) (vy vz (pv 0) (lx (pv 1)) (lx (bg eK (pv 1) aX))) (bU (ah (bZ Z T.Gd) (ah (bZ Z T.Pr) ak))) (cu _)) (aF (aZ (pMk T.kL T.yg T.yf (ym T) (ah (pQ Z T.Px) (ah (bU (ah (bZ Z T.Gd) (ah (bZ Z T.Pr) ak))) (ah (pv 1) (ah (bg eK (pv 1) aX) ak))))))) cC)
   (ay (cy (b9 EH (pv 2) (a_ T.gP (oI T) (ah (pQ Z T.Zb) ak)) (by with_unfolding_all rfl)) (aF (aZ (pMk T.kL T.yg T.yf (ym T) (ah (pQ Z T.Px) (ah (bU (ah (pv 2) ak)) (ah (pv 1) (ah (bg eK (pv 1) aX) ak))))))) cC)
   (aF (jn T.xt (ju T) T.fo.b (dW hr) Z W Z T.i4 (ah (bZ Z T.BC) (ah (pv 1) ak)))))))))),?_]
 obtain⟨x,hx,hd⟩:=ur hi;refine#[_,Z,_,Z,p,_,_,_,Z,Z,S,bY (oJ hx),?_];dsimp only[aR,cN,aN,L2.start];rw[hd] at q;delta D6 at q;refine cX (ky x) (λR M=>#[_,Z,_,Z,_,Z,by rw[P4];exact M]) ?_
 by_cases hl:ky x=ai
 .rw[hl];refine bu #[_,Z,_,Z,p,b,i,Z,S,hbl,by omega,?_]
  simp only[hl,pD] at q;delta Gv;rw[hd];exact q
 have hl:=by simpa using hl
 rw[hl];refine br ?_;dsimp only[di];simp only[hl,wh,pC] at q;refine cX (dh x) (λR M=>#[_,Z,_,Z,_,Z,by rw[BL];exact M]) ?_
 by_cases hg:dh x=ai
 .rw[hg];have e0:b.drop (i+0)=x::b.drop (i+1):=hd;refine bu #[_,Z,_,Z,_,Z,p,b,i,0,Z,S,hbl,by lia,by omega,?_,?_]
  .rw[e0,tr hg];simp
  .simp only[hg,pD] at q;rw[e0];exact q
 have hg:=by simpa using hg
 rw[hg];refine br ?_;dsimp only[di];simp only[hg,wh,pC] at q;have h45:decide (V.int (x.toNat:Int)=V.int 45)=(x==45):=Gs x 45 (by decide)
 have Y:=fG b;refine cX ((x==45)&&((b.drop (i+1)).head?.any dh)) (λR M=>?_) ?_
 .refine r0 (x==45) _ (λR U=>#[_,Z,Z,_,Z,by rw[h45];exact U]) (λu R U=>?_) M
  by_cases h1:i+1<b.length
  .obtain⟨y,hy,hdy⟩:=ur h1;refine r0 ai (dh y) (λR q3=>#[_,Z,_,_,Z,Z,_,Z,p,_,Z,.inl S,_,_,Z,Z,_,Z,?_]) (λu R q3=>?_) ?_
   .rw[Y,bX (by omega)];exact q3
   .exact#[_,Z,_,Z,_,_,Z,Z,p,_,((i+1:Nat):Int),_,Z,Z,S,bY (oJ hy),_,Z,_,Z,by rw[BL];exact q3]
   .rw[hdy] at U;exact U
  .refine r0 az az (λR q3=>#[_,Z,_,_,Z,Z,_,Z,p,_,Z,.inl S,_,_,Z,Z,_,Z,?_]) (λz=>by cases z) ?_
   .rw[Y,bO (by omega)];exact q3
   .rw[wm (by omega)] at U;exact U
 generalize hr1:b.drop (i+1)=r at *;by_cases g:((x==45)&&(r.head?.any dh))=ai
 .rw[g];rw[fQ] at g;obtain⟨hx45,hy⟩:=g;obtain⟨y,J,rfl⟩:∃y J,r=y::J:=by cases r with|nil=>cases hy|cons y J=>exact#[y,J,Z]
  have hy:dh y=ai:=hy;refine bu #[_,Z,_,Z,_,Z,_,_,Z,Z,p,b,i,1,Z,S,hbl,by lia,by omega,?_,?_]
  .rw[hr1,tr hy];simp
  .rw[hr1];rw[aC hx45,aw (by intro z;injection z with z;subst z;revert hy;decide)] at q
   exact q
 have g:((x==45)&&(r.head?.any dh))=az:=by simpa using g
 rw[g];refine br ?_;dsimp only[di];have hcut:jT (bV b) (aa (i:Int)) (aa ((i:Int)+2))=bV ((x::r).take 2):=by
  delta jT;rw[HT.rQ,show((i:Int)+2)=((i+2:Nat):Int) by lia,HT.rQ,fG,qP (show i<=b.length by omega)]
  delta bV;rw[<-CA,<-CF,hd]
  congr 1
  have hrl:r.length=b.length-(i+1):=by rw[<-hr1,gY]
  by_cases z:i+2<=b.length
  .rw[qP z,show i+2-i=2 by lia]
  .have hr0:r=[]:=Hq (by lia)
   subst hr0;rw[Nat.min_eq_right (by lia),show b.length-i=1 by lia]
   rfl
 refine pR (decide ((x::r).take 2=[45,62])) (λR M=>?_) (λH1 S1=>?_)
 .refine#[_,Z,_,Z,_,Z,_,Z,_,_,Z,Z,_,Z,p,_,Z,S,λc O=>#[cb,λc2 I=>?_]]
  rw[hcut] at I⊢;have hne:c≠c2:=λz=>by subst z;rw[aA] at I;cases I
  refine#[bD ((x::r).take 2),bD [45,62],oK (ao.of (by rw[aB hne,aA])),oK (ao.of aA),kN _,kN _,_,Z,?_]
  rw[uu];exact M _ ((ag.new O).trans (ag.new I))
 have hS1:=S1.seq S;have mk:∀(f:cA)(k:Nat)(H2:Hp)(c:af),ag H1 H2->H1 c=ae->H2 c=aa (.lst (bV f))->∀(z:Nat),nZ z=f->(∀(H':Hp)(o:af),ag H H'->H o=ae->dw a.Token (gR H H') o #[i,.sign z] (i+k)->Q (.ref o) H')->
   ∀t dx,H2 t=ae->H2 dx=ae->dx≠t->m8 a.Token 4 lW [.ref t,.str "sign",.ref c,.int i,.int ((i+k:Nat):Int)] (upd (upd H2 dx (.own t)) t (.ins a.Token dx [])) (λv H3=>v=.bB/\Q (.ref t) H3) E0:=by
  intro f k H2 c S2 hc1 I z hz U t dx ht hdx hne;refine#[t,dx,_,Z,Z,aA,Z,?_];rw[dI];have hct:c≠t:=bc I ht;have hcd:c≠dx:=bc I hdx;refine U _ t (λb o e=>?_) ((S1.trans S2).free ht) #[c,#[dx,fO ((S1.trans S2).free ht) aA],fO (S1.free hc1) ?_]
  .have e2:=S2 _ _ (S1 _ _ e);rw[aB (bc e2 ht),aB (bc e2 hdx)];exact e2
  .rw[aB hct,aB hcd,I,hz]
 by_cases hz:(x::r).take 2=[45,62]
 .rw[bX hz];obtain⟨rfl,J,rfl⟩:x=45/\∃J,r=62::J:=by
   cases r with
   |nil=>simp at hz
   |cons y J=>simp at hz;exact#[hz.1,J,by rw[hz.2]]
  rw[aC (show((45:UInt8)==45)=ai by decide),aC (show(62::J).head? =aa 62 from Z)] at q
  refine bu #[cb,λc O=>#[_,Z,_,Z,_,_,Z,Z,?_]]
  exact mk [45,62] 2 _ c (ag.new O) O aA 1 Z q
 rw[bO hz];refine br ?_;dsimp only[di];refine pR (xa.contains x) (λR M=>?_) (λH2 S2=>?_)
 .refine#[_,Z,_,Z,(by decide +kernel),λc O=>#[c,_,Z,.inl (ao.of aA),Z,?_,_,Z,?_]]
  .rw[lX _ (by decide +kernel)];exact ZJ _
  .rw[lX _ (by decide +kernel),ZK,P9]
   exact M _ (ag.new O)
 have s45:∀z∈xa,(z==45)=az/\nZ z.toNat=[z]:=by decide +kernel
 by_cases hs:xa.contains x=ai
 .obtain⟨h1,h2⟩:=s45 x (by simpa using hs)
  rw[h1,aw cZ,aC hs] at q;rw[hs];refine bu #[_,Z,cb,λc O=>#[_,Z,_,Z,_,_,Z,Z,?_]]
  exact mk [x] 1 _ c (S2.trans (ag.new O)) (S2.free O) aA x.toNat h2 q
 have hs':xa.contains x=az:=by simpa using hs
 rw[hs'];refine br #[_,Z,_,_,Z,FX.same (S1.trans S2) ?_];by_cases h1:(x==45)=ai
 .rw[aC h1] at q;have hnd:r.head?.any dh=az:=by rw[h1,yI] at g;exact g
  have htw:r.takeWhile dh=[]:=by
   cases r with
   |nil=>rfl
   |cons y J=>rw[CI (by show ¬dh y=ai;rw[show dh y=az from hnd];decide)]
  have hn62:¬r.head? =aa 62:=λz=>by
   cases r with
   |nil=>cases z
   |cons y J=>injection z with z;subst z;exact hz (by rw[eq_of_beq h1];rfl)
  rw[aw hn62,htw] at q;exact q
 .rw[aw h1,aw hs] at q;exact q
end
def j6(C:af)(H:Hp)(A:List af)(ts:cB):Prop:=Paired (λo x=>∃e,dw C H o x e) A ts
theorem j6.same{A}{ts}(S:ag H H')(h:j6 C H A ts):j6 C H' A ts:=Paired.eJ h λx x ⟨e,q⟩=>#[e,q.same S]
theorem eX{E A}{F}{l}{m}{x:E}{y:A}(h:Paired F l m)(g:F x y):Paired F (l++[x]) (m++[y]):=by induction h with|nil=>exact .cons g .nil|cons r t f=>exact .cons r f
theorem dw.at_{t:af}(h:dw C H t x e):∃f c,jv C H t f c x.place e:=by
 delta dw at h
 split at h
 .obtain⟨c,h,_⟩:=h;exact#[_,_,h]
 .exact#[_,_,h]
 .obtain⟨c,h,_⟩:=h;exact#[_,_,h]
 .obtain⟨c,h,_⟩:=h;exact#[_,_,h]
theorem ZM{f c p e}:(lW [f,c,p,e]).lookup ("end":au)=aa e:=by kernel_rfl
theorem oM{f c p e}:(lW [f,c,p,e]).lookup ("place":au)=aa p:=by kernel_rfl
theorem Gw{f c p e}:(lW [f,c,p,e]).lookup ("form":au)=aa f:=by kernel_rfl
theorem kO{f c p e}:(lW [f,c,p,e]).lookup ("content":au)=aa c:=by kernel_rfl
inductive Qb(K:aP)(a:Ad)(vs:List V)(H:Hp)(Q:VK)(E:XK):Prop|m:∀(p:af)(b:cA),vs=[.ref p]->ao K H p (bV b)->b.length<=8192->(match D7 b with
 |.ok ts=>∀(H':Hp)(l:af)(as:List af),ag H H'->H l=ae->H' l=aa (.lst (as.map V.ref))->j6 a.Token (Wo (gR H H') l) as ts->Q (.ref l) H'
 |.error f=>FX E a.Fault f.code f.place H)->Qb K a vs H Q E
section
variable {w:aS}{base:aU}
theorem ZN(T:TX K mg a d):aV P w K mg base (e9 P w a.Fault) 46 a.sj d.sj ["text"] (Qb K a):=by
 refine T.sj.gL bE λnD cdv A outer s H vs Q E hr W h=>?_;obtain⟨p,b,rfl,hS,hbl,q⟩:=h;refine#[_,(ay (cy (b9 nP (cz (c8) Z T.de c_ (ah (pv 0) ak)) (bZ Z T.Po) (cu _)) (aF (jn T.xt (ju T) T.fo.b (dW hr) Z W Z T.i4 (ah (bZ Z T.YT) (ah (bZ Z T.Po) ak)))) cC)
   (ay (aM 1 (bU ak))
   (ay (aM 2 (a_ T.pX (P1 T) (ah (pv 0) (ah aX ak))))
   (ay (pI kq (b9 kB (pv 2) (cz (c8) Z T.de c_ (ah (pv 0) ak)) (cu _)) (ay (aM 3 (ek T.sq (ZL T) (ej W) (ah (pv 0) (ah (pv 2) ak))))
   (ay (dU (eP eO je jf jl (pv 1) (ah (pv 3) ak)))
   (aF (aM 2 (a_ T.pX (P1 T) (ah (pv 0) (ah (aK (pv 3) Z) ak))))))))
   (ay (dU (eP eO je jf jl (pv 1) (ah (pMk T.kL T.yg T.yf (ym T) (ah (pQ Z T.Py) (ah (bU ak) (ah (cz (c8) Z T.de c_ (ah (pv 0) ak)) (ah (cz (c8) Z T.de c_ (ah (pv 0) ak)) ak))))) ak)))
   (aF (aZ (pv 1)))))))),?_]
 have Y:=fG b;have hT:K4=4096:=Z;delta D7 at q;refine cX (decide (4096<b.length)) (λR q'=>#[_,Z,p,_,Z,.inl hS,_,_,Z,Z,_,Z,?_]) ?_
 .rw[Y,show decide ((4096:Int)<(b.length:Int))=decide (4096<b.length) by rw[d9];lia];exact q'
 by_cases hbig:K4<b.length
 .rw[bX (by assumption)]
  rw[aC hbig] at q;exact bu #[_,_,Z,q]
 rw[bO (by assumption)]
 rw[aw hbig] at q;have q:match jW 0 b with
  |.ok ts=>∀(H':Hp)(l:af)(O:List af),ag H H'->H l=ae->H' l=aa (.lst (O.map V.ref))->j6 a.Token (Wo (gR H H') l) O ts->Q (.ref l) H'
  |.error f=>FX E a.Fault f.code f.place H:=q
 refine br ?_;dsimp only[di];refine#[c7 _,λl hl=>#[_,Z,p,b,0,Z,(ag.new hl).seq hS,c7 _,?_]];dsimp only[aR,aN,L2.start];have hskip:=A4 b.length b (bb _);refine Ff (λm H'=>∃(i:Nat)(v:Option V)(O:List af)(pre:cB),m=[aa (.ref p),aa (.ref l),aa (.int i),v]/\ag H H'/\H' l=aa (.lst (O.map V.ref))/\j6 a.Token (Wo (gR H H') l) O pre/\i<=b.length/\pre.length<=i/\
   (∀c r,b.drop i=c::r->kx c=az/\(c==35)=az)/\jW 0 b=(jW i (b.drop i)).map (λts=>pre ++ts))
  (λm H'=>∃(v:Option V)(O:List af)(pre:cB),m=[aa (.ref p),aa (.ref l),aa (.int b.length),v]/\ag H H'/\H' l=aa (.lst (O.map V.ref))/\j6 a.Token (Wo (gR H H') l) O pre/\pre.length<=b.length/\jW 0 b=.ok (pre++[#[b.length,.halt_]]))
  (λm y=>match m with|[_,_,aa (.int n),_]=>b.length-n.toNat|_=>0)
  #[skip b,ae,[],[],by simp,ag.new hl,aA,.nil,hskip,c7 _,λc r e=>A5 b.length b (bb _) c r e,?_] ?_ ?_
 .rw[A3 b.length 0 b (bb _),o7];cases jW (skip b) (b.drop (skip b))<;>rfl
 .rintro out m H' j;rcases j with⟨i,v,O,pre,rfl,S,J,ht,hi,bC,hnb,I⟩;refine XB (decide (i<b.length)) (λR q'=>#[_,Z,_,Z,p,_,Z,.inl (S.seq hS),_,_,Z,Z,_,Z,?_]) ?_
  .rw[Y,show decide ((i:Int)<(b.length:Int))=decide (i<b.length) by rw[d9];simp];exact q'
  by_cases M:i<b.length
  .rw[bX M];obtain⟨c,hc,hd⟩:=ur M;obtain⟨hb1,hb2⟩:=hnb c _ hd;refine bu (turn ?_);refine#[_,Z,_,Z,p,b,i,Z,S.seq hS,by lia,M,?_]
   rw[hd,XE hb1 hb2,<-hd] at I;cases htk:D6 (b.drop i) with
   |none=>
    rw[htk] at I;rw[show jW 0 b=.error #[2,i] from I] at q;exact FX.same S q
   |some x=>
    obtain⟨t,k⟩:=x;rw[htk] at I;have hk:=A2 htk;rw[gY] at hk;intro H2 o S2 ho hti;have hol:o≠l:=λz=>by subst z;rw[J] at ho;cases ho
    refine#[_,Z,.inl #[Z,_,ao.of (S2 _ _ J)],_,Z,l,_,_,Z,Z,S2 _ _ J,?_,?_]
    .have:=bS ht;rw[aJ,bQ];lia
    have S3:ag H (upd H2 l (.lst (O.map V.ref++[.ref o]))):=λU u e=>by
     rw[aB (bc e hl)];exact S2 _ _ (S _ _ e)
    obtain⟨f,ct,dx,hat⟩:=dw.at_ hti;have hat2:=(jw hat).2;refine#[_,Z,_,Z,o,_,dx,_,_,Z,by rw[aB hol];exact hat2,T.dP,T.PL,ZM,p,b,i+k,Z,S3.seq hS,by grind,?_]
    dsimp only[aR,aN];have hdd:(b.drop i).drop k=b.drop (i+k):=kS ..;dsimp only at I;rw[hdd] at I;have hsk:=A4 (b.drop (i+k)).length (b.drop (i+k)) (bb _);rw[gY] at hsk;refine#[#[i+k+skip (b.drop (i+k)),aa (.ref o),O++[o],pre++[#[i,t]],Z,S3,by rw[aA,bR];rfl,?_,by grind,by rw[b6];simp;lia,?_,?_],?_]
    .refine eX (j6.same (λU u e=>?_) ht) #[_,dw.same (λU u e=>?_) hti]
     .obtain⟨g,e2⟩:=bh e;obtain⟨e3,e4⟩:=jw e2;exact aQ g (fO e3 (by rw[aB g];exact S2 _ _ e4))
     .obtain⟨e3,e4⟩:=jw e;have g:U≠l:=λz=>by subst z;rw[J] at e3;cases e3
      exact aQ g (fO (S.free e3) (by rw[aB g];exact e4))
    .intro c' r' e;rw[<-kS] at e;exact A5 _ (b.drop (i+k)) (bb _) c' r' e
    .rw[I,A3 _ (i+k) (b.drop (i+k)) (bb _),kS];cases jW (i+k+skip (b.drop (i+k))) (b.drop (i+k+skip (b.drop (i+k)))) with
     |error e=>rfl
     |ok ts=>show s_ (pre ++_::ts)=s_ ((pre++[_]) ++ts);rw[kf];rfl
    .show b.length-(((i+k+skip (b.drop (i+k)):Nat):Int)).toNat<b.length-(i:Int).toNat;grind
  .rw[bO M];have hib:i=b.length:=by lia
   subst hib;refine br (out _ _ #[v,O,pre,Z,S,J,ht,bC,?_]);rw[I,Cj];rfl
 .rintro m H' ⟨v,O,pre,rfl,S,J,ht,bC,I⟩;rw[I] at q;have hl2:=bS ht;refine#[_,Z,.inl #[Z,_,ao.of J],c7 _,λc hc=>#[_,Z,p,_,Z,.inl ((S.trans (ag.new hc)).seq hS),_,Z,p,_,Z,.inl ((S.trans (ag.new hc)).seq hS),λt dx ht0 hdx hne=>?_]];have hcl:c≠l:=λz=>by subst z;rw[J] at hc;cases hc
  have hct:c≠t:=λz=>by subst z;rw[aA] at ht0;cases ht0
  have hcd:c≠dx:=λz=>by subst z;rw[aA] at hdx;cases hdx
  have ht1:=by rw[aB (bG hct)] at ht0;exact ht0
  have hdx1:=by rw[aB (bG hcd)] at hdx;exact hdx
  have M:=bc J ht1;have hld:=bc J hdx1;refine#[t,dx,_,Z,Z,aA,Z,?_];rw[dI,Y];have hl3:(upd (upd (upd H' c (.lst [])) dx (.own t)) t (.ins a.Token dx (lW [.str "end",.ref c,.int b.length,.int b.length]))) l=aa (.lst (O.map V.ref)):=by
   rw[aB M,aB hld,aB (bG hcl)];exact J
  refine#[l,_,_,Z,Z,hl3,?_,?_]
  .rw[aJ,bQ];lia
  refine#[_,Z,?_];have keep:∀U u,U≠l->H' U=aa u->(upd (upd (upd (upd H' c (.lst [])) dx (.own t)) t (.ins a.Token dx (lW [.str "end",.ref c,.int b.length,.int b.length]))) l (.lst (O.map V.ref++[.ref t]))) U=aa u:=λU u g e=>by
   rw[aB g,aB (bc e ht1),aB (bc e hdx1),aB (bc e hc)];exact e
  refine q _ l (O++[t]) (λU u e=>keep U u (bc e hl) (S _ _ e)) hl (by rw[aA,bR];rfl) (eX (j6.same (λU u e=>?_) ht) #[b.length,c,#[dx,?_],?_])
  .obtain⟨g,e2⟩:=bh e;obtain⟨e3,e4⟩:=jw e2;exact aQ g (fO e3 (keep U u g e4))
  .exact aQ (bG M) (fO (S.free ht1) (by rw[aB (bG M),aA];rfl))
  .exact aQ hcl (fO (S.free hc) (by rw[aB hcl,aB hct,aB hcd,aA]))
end
noncomputable def iB(t n:V):List (au×V):=[("tokens",t),("at",n)]
theorem Qc{n:V}:(iB t n).lookup ("tokens":au)=aa t:=by kernel_rfl
theorem Gx{n:V}:(iB t n).lookup ("at":au)=aa n:=by kernel_rfl
theorem vU{n:V}:(iB t n).lookup ("ahead":au)=ae:=by kernel_rfl
theorem yn{n:V}:(iB t n).lookup ("take":au)=ae:=by kernel_rfl
theorem ZO{n m:V}:b_ "at" m (iB t n)=iB t m:=by kernel_rfl
inductive cw(a:Ad)(H:Hp)(r:af)(lt:af)(rest:cB):Prop|m:∀(dx:af)(as:List af)(ts:cB)(n:Nat),H r=aa (.ins a.Reader dx (iB (.ref lt) (.int n)))->H lt=aa (.lst (as.map V.ref))->j6 a.Token H as ts->ts.drop n=rest->jX rest->(∀x∈ts,pT x)->ts.length<=10000->cw a H r lt rest
theorem cw.same{lt:af}(S:ag H H')(h:cw a H r lt rest):cw a H' r lt rest:=by
 obtain⟨dx,T,ts,n,R,O,M,J,I,E,A⟩:=h;exact#[dx,T,ts,n,S _ _ R,S _ _ O,M.same S,J,I,E,A]
theorem cw.ok{lt:af}(h:cw a H r lt (x::rest)):pT x:=by
 obtain⟨dx,S,ts,n,R,O,M,E,J,A,I⟩:=h;exact A x (CG (by rw[E];exact bH))
theorem cw.vV{lt:af}(h:cw a H r lt rest):jX rest:=by
 obtain⟨dx,S,ts,n,R,O,M,J,A,I,E⟩:=h;exact A
theorem cw.cons{lt:af}(h:cw a H r lt rest):∃x l,rest=x::l:=by
 cases rest with
 |nil=>exact absurd Z h.vV.ne
 |cons x l=>exact#[x,l,Z]
theorem dw.wo{R:af}{n:V}(hr:H r=aa (.ins R dx (iB t n)))(h:dw C H o x e):dw C (Wo H r) o x e:=by
 have A:∀{f:au}{c:V}{p e:Nat},jv C H o f c p e->jv C (Wo H r) o f c p e:=λ{f c p e} ⟨d,q⟩=>#[d,aQ (λz=>by
  subst z;rw[hr] at q;have:=bf q;injection this with _ _ z
  have:iB t n≠lW [.str f,c,.int p,.int e]:=λz=>by
   have:=congrArg tm z;simp[iB,lW] at this
  exact this z) q]
 have E:∀{c:af}{xs:List V},H c=aa (.lst xs)->Wo H r c=aa (.lst xs):=λ{c xs} q=>aQ (λz=>by subst z;rw[hr] at q;cases q) q
 unfold dw at h⊢
 split at h
 .exact h.imp λy q=>#[A q.1,E q.2]
 .exact A h
 .exact h.imp λy q=>#[A q.1,E q.2]
 .exact h.imp λy q=>#[A q.1,E q.2]
theorem j6.wo{R:af}{n:V}(hr:H r=aa (.ins R dx (iB t n))){A:List af}{ts:cB}(h:j6 C H A ts):j6 C (Wo H r) A ts:=Paired.eJ h λx x ⟨e,q⟩=>#[e,q.wo hr]
theorem Paired.at_{E A:Type}{F:E->A->Prop}{l:List E}{m:List A}{n:Nat}{y:A}(e:Paired F l m)(h:m[n]? =aa y):∃x,l[n]? =aa x/\F x y:=by
 induction e generalizing n with
 |nil=>simp at h
 |cons r t f=>cases n with|zero=>simp at h;subst h;exact#[_,Z,r]|succ n=>simpa using f (by simpa using h)
theorem ag.wo(S:ag H H'):ag (Wo H r) H':=cU.trans S
section
variable {w:aS}{base:aU}
inductive Gy(a:Ad)(vs:List V)(H:Hp)(Q:VK)(x_0:XK):Prop|m:∀(r lt:af)(x:h_)(rest:cB),vs=[.ref r]->cw a H r lt (x::rest)->(∀o e,dw a.Token H o x e->Q (.ref o) H)->Gy a vs H Q x_0
theorem vW(T:TX K mg a d):aV P w K mg base bo 41 a.gm d.gm ["self"] (Gy a):=by
 refine T.gm.ok bE λnD U A outer s H vs Q E hr h=>?_;rcases h with⟨r,lt,x,rest,rfl,⟨dx,as,ts,n,I,S,R,O,b,Y,V⟩,q⟩;refine#[_,(aF (aZ (bt b8 (aK (pv 0) Z) (aK (pv 0) Z)))),?_];have M:=by
  have:=congrArg HD O;rw[HF] at this;exact this
 rcases Paired.at_ R M with⟨o,J,e,hx⟩;refine#[_,Z,r,_,dx,_,_,Z,I,T.gn,T.Gn,Qc,_,Z,r,_,dx,_,_,Z,I,T.gn,T.yh,Gx,lt,_,n,.ref o,Z,Z,ao.of S,bY (by rw[bL,J];rfl),?_]
 exact q o e hx
inductive BM(a:Ad)(vs:List V)(H:Hp)(Q:VK)(x_0:XK):Prop|m:∀(r lt:af)(x:h_)(rest:cB),vs=[.ref r]->cw a H r lt (x::rest)->jX rest->(∀H' o e,ag (Wo H r) H'->cw a H' r lt rest->dw a.Token H' o x e->Q (.ref o) H')->BM a vs H Q x_0
theorem yo(T:TX K mg a d):aV P w K mg base bo 41 a.iy d.iy ["self"] (BM a):=by
 refine T.iy.ok bE λnD cdv A outer s H vs Q E hr h=>?_;obtain⟨r,lt,x,rest,rfl,⟨dx,as,ts,n,I,J,O,M,h5,c,Y⟩,V,q⟩:=h;refine#[_,(ay (aM 1 (bt b8 (aK (pv 0) Z) (aK (pv 0) Z)))
   (ay (dv (pv 0) (bg eK (aK (pv 0) Z) aX) Z)
   (aF (aZ (pv 1))))),?_]
 have U:=by
  have:=congrArg HD M;rw[HF] at this;exact this
 obtain⟨o,R,e,hx⟩:=Paired.at_ O U;refine#[_,Z,r,_,dx,_,_,Z,I,T.gn,T.Gn,Qc,_,Z,r,_,dx,_,_,Z,I,T.gn,T.yh,Gx,lt,_,n,.ref o,Z,Z,ao.of J,bY (by rw[bL,R];rfl),?_]
 dsimp only[aR,aN,L2.start];refine#[_,Z,r,_,dx,_,_,Z,I,T.gn,T.yh,Gx,_,_,Z,Z,_,Z,r,_,dx,_,Z,I,T.gn,T.yh,dq,?_]
 rw[ZO];refine#[_,Z,?_];have S:ag (Wo H r) (upd H r (.ins a.Reader dx (iB (.ref lt) (.int ((n:Int)+1))))):=λb u e=>by
  obtain⟨e1,e2⟩:=bh e;rw[aB e1];exact e2
 refine q _ o e S #[dx,as,ts,n+1,aA,S _ _ (aQ (λz=>by subst z;rw[I] at J;cases J) J),(O.wo I).same S,?_,V,c,Y] ((hx.wo I).same S)
 have:=congrArg (Ci 1) M;rw[kS] at this;exact this
end
theorem dw.dp K (h:dw C H o x e):∃f c,jv C H o f c x.place e/\∃I,Dp K H c I/\ku I=ai/\∀A,hJ I (bD A)=decide (content x.tok=aa A):=by
 obtain⟨p,t⟩:=x;cases t with
 |name b=>
  obtain⟨c,h,E⟩:=h;refine#[_,_,h,bD b,oK (ao.of E),kN b,λA=>?_];rw[uu];simp[content]
 |num n=>
  refine#[_,_,h,.int n,.int n,Z,λA=>?_];show az=_;simp[content]
 |sign s=>
  obtain⟨c,h,E⟩:=h;refine#[_,_,h,bD (nZ s),oK (ao.of E),kN _,λA=>?_];rw[uu];simp[content]
 |halt_=>
  obtain⟨c,h,E⟩:=h;refine#[_,_,h,bD [],oK (ao.of E),kN _,λA=>?_];rw[uu];simp[content]
noncomputable def formOf:z0->au
 |.name _=>"word"
 |.num _=>"number"
 |.sign _=>"sign"
 |.halt_=>"end"
theorem dw.Gz(h:dw C H o x e):∃c,jv C H o (formOf x.tok) c x.place e:=by
 obtain⟨p,t⟩:=x;cases t with
 |name b=>obtain⟨c,h,A⟩:=h;exact#[_,h]
 |num n=>exact#[_,h]
 |sign s=>obtain⟨c,h,A⟩:=h;exact#[_,h]
 |halt_=>obtain⟨c,h,A⟩:=h;exact#[_,h]
theorem ZP(S:ag H H'){e}(h:Dp K H v e):Dp K H' v e:=by
 have key:∀n,(∀e v,sizeOf e<=n->Dp K H v e->Dp K H' v e)/\(∀A vs,sizeOf A<=n->gg K H vs A->gg K H' vs A):=by
  intro n
  induction n with
  |zero=>
   refine#[λe v h=>?_,λA vs h=>?_]
   .cases e<;>simp at h
   .cases A<;>simp at h
  |succ n M=>
   refine#[λe v E h=>?_,λA vs E h=>?_]
   .cases h with
    |bB=>exact .bB
    |bl b=>exact .bl b
    |int i=>exact .int i
    |str x=>exact .str x
    |lst J I=>exact .lst (S.seq J) (M.2 _ _ (by simp at E;lia) I)
    |tup J I=>exact .tup (ag.xR S J) (M.2 _ _ (by simp at E;lia) I)
   .cases h with
    |nil=>exact .nil
    |cons J I=>exact .cons (M.1 _ _ (by simp at E;lia) J) (M.2 _ _ (by simp at E;lia) I)
 exact(key _).1 e v (bb _) h
section
variable {w:aS}{base:aU}
inductive Qd(a:Ad)(vs:List V)(H:Hp)(Q:VK)(x_0:XK):Prop|m:∀(r lt:af)(z:au)(wb:cA)(x:h_)(rest:cB),vs=[.ref r,.str z]->cw a H r lt (x::rest)->codes z=bV wb->z.cps.size<=100000->(∀H',ag H H'->Q (.bl (decide (content x.tok=aa wb))) H')->Qd a vs H Q x_0
theorem BN(T:TX K mg a d):aV P w K mg base bo 42 a.mW d.mW ["reader","written"] (Qd a):=by
 refine T.mW.ok bE λnD cdv A outer s H vs Q E hr h=>?_;rcases h with⟨r,lt,z,U,x,rest,rfl,hR,hz,I,q⟩;have V:=hr.units;refine#[_,(aF (aZ (An (Mm V) (aK (mJ (pv 0) T.gn T.gm.m (vW T) (dW hr) T.gm.b .nil iT) Z) (a_ T.gP (oI T) (ah (pv 1) ak)) (cu _)))),?_]
 rcases id hR with⟨dx,as,ts,n,g,_⟩;refine#[_,Z,r,dx,_,Z,g,vU,r,lt,x,rest,Z,hR,λo e Y=>?_];rcases Y.dp K with⟨f,c,⟨R,O⟩,dd,M,J,heq⟩;refine#[o,_,R,_,_,Z,O,T.dP,T.j4,kO,_,Z,z,Z,I,λp S=>?_];rw[hz];refine#[dd,bD U,ZP (ag.new S) M,oK (ao.of aA),J,kN _,?_];rw[heq];exact q _ (ag.new S)
inductive GA(a:Ad)(vs:List V)(H:Hp)(Q:VK)(E:XK):Prop|m:∀(r lt:af)(z:au)(wb:cA)(x:h_)(rest:cB),vs=[.ref r,.str z]->cw a H r lt (x::rest)->codes z=bV wb->z.cps.size<=100000->wb≠[]->(if content x.tok=aa wb then ∀H' v,ag (Wo H r) H'->cw a H' r lt rest->Q v H' else FX E a.Fault 3 x.place (Wo H r))->GA a vs H Q E
theorem BO(T:TX K mg a d):aV P w K mg base (e9 P w a.Fault) 44 a.mX d.mX ["reader","written"] (GA a):=by
 refine T.mX.gL bE λnD cdv A outer s H vs Q E hr W h=>?_;obtain⟨r,lt,z,O,x,rest,rfl,hR,hz,S,U,q⟩:=h;refine#[_,(ay (cy (lr (eZ (a_ T.mW (BN T) (ah (pv 0) (ah (pv 1) ak))) (λy=>Z))) (aF (jn T.xt (ju T) T.fo.b (dW hr) Z W Z T.i4 (ah (bZ Z T.Gb) (ah (aK (mJ (pv 0) T.gn T.gm.m (vW T) (dW hr) T.gm.b .nil iT) Z) ak)))) cC)
   (aF (aZ (mJ (pv 0) T.gn T.iy.m (yo T) (dW hr) T.iy.b .nil iT)))),?_]
 refine pR (!decide (content x.tok=aa O)) (λR q'=>#[_,Z,_,Z,r,lt,z,O,x,rest,Z,hR,hz,S,λH1 M=>#[_,Z,q' H1 M]]) (λH1 M=>?_);have I:=hR.same M;obtain⟨dx,as,ts,n,h1,_⟩:=id I;by_cases J:content x.tok=aa O
 .rw[bX J];rw[aC J] at q;have V:x.tok≠.halt_:=λz=>by rw[z] at J;injection J with J;exact U J.symm
  refine br #[_,Z,r,dx,_,Z,h1,yn,r,lt,x,rest,Z,I,I.vV.tail V,λH2 o e S2 g ho=>q H2 _ (λb u e=>?_) g];obtain⟨e1,e2⟩:=bh e;exact S2 _ _ (aQ e1 (M _ _ e2))
 .rw[bO J];rw[aw J] at q;refine bu #[_,Z,r,dx,_,Z,h1,vU,r,lt,x,rest,Z,I,λo e ho=>?_];obtain⟨f,c,dx2,Y⟩:=ho.at_;refine#[o,_,dx2,_,_,Z,Y,T.dP,T.mZ,oM,_,_,Z,FX.same (ag.wo M) q]
inductive Qe(a:Ad)(vs:List V)(H:Hp)(Q:VK)(E:XK):Prop|m:∀(r lt:af)(x:h_)(rest:cB),vs=[.ref r]->cw a H r lt (x::rest)->(match x.tok with
 |.num n=>∀H' o e,ag (Wo H r) H'->cw a H' r lt rest->jv a.Token H' o "number" (.int n) x.place e->Q (.ref o) H'
 |_=>FX E a.Fault 3 x.place (Wo H r))->Qe a vs H Q E
theorem Qg(T:TX K mg a d):aV P w K mg base (e9 P w a.Fault) 44 a.qk d.qk ["reader"] (Qe a):=by
 refine T.qk.gL bE λnD cdv A outer s H vs Q E hr W h=>?_;obtain⟨r,lt,x,rest,rfl,hR,q⟩:=h;refine#[_,(ay (cy (b9 jR (aK (mJ (pv 0) T.gn T.gm.m (vW T) (dW hr) T.gm.b .nil iT) Z) (pQ Z T.Pw) (cu _)) (aF (jn T.xt (ju T) T.fo.b (dW hr) Z W Z T.i4 (ah (bZ Z T.Gb) (ah (aK (mJ (pv 0) T.gn T.gm.m (vW T) (dW hr) T.gm.b .nil iT) Z) ak)))) cC)
   (aF (aZ (mJ (pv 0) T.gn T.iy.m (yo T) (dW hr) T.iy.b .nil iT)))),?_]
 obtain⟨dx,as,ts,n,U,_⟩:=id hR;refine cX (!decide (formOf x.tok="number")) (λR g=>#[_,Z,r,dx,_,Z,U,vU,r,lt,x,rest,Z,hR,λo e M=>?_]) ?_
 .obtain⟨c,J,I⟩:=M.Gz;refine#[o,_,J,_,_,Z,I,T.dP,T.BF,Gw,Z,_,Z,?_];rw[show decide (V.str (formOf x.tok)=V.str "number")=decide (formOf x.tok="number") by rw[d9];exact#[λz=>by injection z,λz=>by rw[z]]]
  exact g
 obtain⟨p,t⟩:=x;have O:∀ Y ,FX E a.Fault 3 p (Wo H r)->if (!decide (formOf t="number"))=ai then Ng a.Fault E (iQ (tC (V.int 3)) (iQ (Ap K (Aq a.Reader "ahead" (Gy a) [] E0 (fF 0) jS) "place") jS)) {nx:=mF (Aq a.Reader "take" (BM a) [] E0 (fF 0) jS) {nx:=λy H'=>Q .bB H',rt:=Q},rt:=Q} (L2.start ["reader"] [.ref r]) H else di {nx:=mF (Aq a.Reader "take" (BM a) [] E0 (fF 0) jS) {nx:=λy H'=>Q .bB H',rt:=Q},rt:=Q} (L2.start ["reader"] [.ref r]) H:=λY hx=>by
  rw[bO Y];refine bu #[_,Z,r,dx,_,Z,U,vU,r,lt,_,rest,Z,hR,λo e M=>?_];obtain⟨f,c,J,I⟩:=M.at_;exact#[o,_,J,_,_,Z,I,T.dP,T.mZ,oM,_,_,Z,FX.same cU hx]
 cases t with
 |num m=>
  rw[bX (by rfl)]
  exact br #[_,Z,r,dx,_,Z,U,yn,r,lt,_,rest,Z,hR,hR.vV.tail (by intro z;cases z),λH2 o e S2 S M=>q H2 o e S2 S M]
 |name b=>exact O (show("word":au)≠"number" by decide +kernel) q
 |sign b=>exact O (show("sign":au)≠"number" by decide +kernel) q
 |halt_=>exact O (show("end":au)≠"number" by decide +kernel) q
end
theorem ZQ{t u}{Q} k l (E:∀Q,Q k H->t σ H Q) (A:k=az->∀Q,(∀H',ag H H'->Q l H')->u σ H Q) (h:∀H',ag H H'->Q (k ||l) H'):tOr t u σ H Q:=by
 refine E _ ?_;cases k
 .exact br (A Z _ h)
 .exact bu (h H (ag.refl H))
noncomputable def sQ:List String:=["chance","budget","def","let","observe","tell","table","net","flag","num","if","flip","pick","uniform","given","weigh","true","false"]
theorem ZR:∀s∈sQ,(∀c∈s.toList,c.toNat<256)/\(dy s).cps.size<=100000:=by decide +kernel
def kP(H:Hp)(ps:List af)(bs:List cA):Prop:=Paired (λp b=>H p=aa (.lst (bV b))) ps bs
theorem kP.same{ps}{bs}(S:ag H H')(h:kP H ps bs):kP H' ps bs:=Paired.eJ h λx x q=>S _ _ q
theorem kP.dp{K}{H}{ps}{bs}(e:kP H ps bs):gg K H (ps.map V.ref) (bs.map bD):=by induction e with|nil=>exact .nil|cons h t f=>exact .cons (oK (ao.of h)) f
theorem BP b:∀bs:List cA,((bs.map bD).any λe=>hJ e (bD b))=bs.contains b
 |[]=>Z
 |x::bs=>by
  rw[b7,l7,BP b bs,uu,yQ]
  congr 1
  rw[yH];exact(G9 ..).symm
section
variable {w:aS}{base:aU}
inductive Qh(a:Ad)(vs:List V)(H:Hp)(Q:VK)(E:XK):Prop|m:∀(r lt:af)(room:Bool)(x:h_)(rest:cB),vs=[.ref r,.bl room]->cw a H r lt (x::rest)->(match dJ x with
 |none=>FX E a.Fault 3 x.place (Wo H r)
 |some _=>if room=ai then ∀H' o e,ag (Wo H r) H'->cw a H' r lt rest->dw a.Token H' o x e->Q (.ref o) H' else FX E a.Fault 4 x.place (Wo H r))->Qh a vs H Q E
theorem BQ(T:TX K mg a d):aV P w K mg base (e9 P w a.Fault) 44 a.kI d.kI ["reader","has_room"] (Qh a):=by
 refine T.kI.gL bE λnD cdv A outer s H vs Q E hr W h=>?_;obtain⟨r,lt,room,x,rest,rfl,hR,q⟩:=h;have hu:=by
  have:=hr.un;show(A.deeper (jH "take_name" (gK (top 96)) s.heap.objs.size a.kI cdv)).units+1+64<gC;lia
 refine#[_,(ay (aM 2 (mJ (pv 0) T.gn T.gm.m (vW T) (dW hr) T.gm.b .nil iT))
   (ay (cy (PW.pt (pH (b9 jR (aK (pv 2) Z) (pQ Z T.Pu) (cu _)) (rM (b9 (NS hu) (aK (pv 2) Z) (pM Z nD (T8 (vq Z T.Ze (v:=.ref a.RESERVED) Z)) (own:=[("word",3)]) T.kI.s.c9 (λk k k k k=>(bJ 3)) (λk k k k k=>gh) (λk k k k k=>(a_ T.gP (oI T) (ah (pv 3) ak)))) (by with_unfolding_all rfl))))) (aF (jn T.xt (ju T) T.fo.b (dW hr) Z W Z T.i4 (ah (bZ Z T.Gb) (ah (aK (pv 2) Z) ak)))) cC)
   (ay (cy (lr (eZ (pv 1) (λk=>Z))) (aF (jn T.xt (ju T) T.fo.b (dW hr) Z W Z T.i4 (ah (bZ Z T.YU) (ah (aK (pv 2) Z) ak)))) cC)
   (aF (aZ (mJ (pv 0) T.gn T.iy.m (yo T) (dW hr) T.iy.b .nil iT)))))),?_]
 obtain⟨dx,as,ts,n,h1,_⟩:=id hR;refine#[_,Z,r,dx,_,Z,h1,vU,r,lt,x,rest,Z,hR,λo e ho=>?_];dsimp only[aR,cN,aN,L2.start];have Y:decide (V.str (formOf x.tok)=V.str "word")=decide (formOf x.tok="word"):=by rw[d9];exact#[λz=>by injection z,λz=>by rw[z]]
 refine pR (dJ x).isNone (λR q'=>?_) (λH1 S1=>?_)
 .refine ZQ (!decide (formOf x.tok="word")) (match x.tok with|.name b=>zZ.contains b|_=>az) (λR q2=>?_) (λhf R q2=>?_) (λH1 S1=>?_)
  .obtain⟨c,M,I⟩:=ho.Gz;refine#[_,Z,o,_,M,_,_,Z,I,T.dP,T.BF,Gw,Z,_,Z,?_];rw[Y];exact q2
  .obtain⟨p,t⟩:=x;cases t with
   |name b=>
    obtain⟨c,⟨M,I⟩,hc⟩:=ho;refine#[_,Z,o,_,M,_,_,Z,I,T.dP,T.j4,kO,a.RESERVED,Z,#[_,T.BE H],?_];refine AX (J:=Itt K a.RESERVED) (Q:=λy H2=>AV K az (.ref c) y H2 (Ao R)) sQ.length (λD i H'=>H D=ae/\ag H H'/\∃ps,H' D=aa (.lst (ps.map V.ref))/\kP (Wo H' D) ps ((sQ.take i).map gF)) (λD hD=>#[hD,ag.new hD,[],aA,.nil]) ?_ ?_ ?_ Fg ?_
    .rintro D i H' hi _;exact#[_,_,T.BE H',by rw[show([.str "chance",.str "budget",.str "def",.str "let",.str "observe",.str "tell",.str "table",.str "net",.str "flag",.str "num",.str "if",.str "flip",.str "pick",.str "uniform",.str "given",.str "weigh",.str "true",.str "false"]:List V)=sQ.map λs=>V.str (dy s) from Z,bL,aY hi];rfl]
    .rintro D H' _;exact#[_,T.BE H',bb _]
    .rintro D i H' hi ⟨hD,S,ps,O,U⟩ y H2 ⟨rfl,hy⟩;have hy:=hy _ (T.BE H2);have hw:=aY hi;obtain rfl:y=V.str (dy sQ[i]):=by
      have e:(sQ.map λs=>V.str (dy s))[i]? =aa y:=hy;rw[bL,hw] at e;exact(bf e).symm
     obtain⟨hs1,hs2⟩:=ZR sQ[i] (ff hi);refine#[Z,_,Z,_,Z,hs2,λp hp=>#[_,by rw[aB (bc O hp)];exact O,?_,hD,?_,ps++[p],by rw[aA,bR];rfl,?_]]
     .have:=bS U;rw[aJ,gw] at this;rw[aJ,this,bQ];have:sQ.length=18:=Z;grind
     .exact λb' u e'=>by rw[aB (bc e' hD)];exact(S.trans (ag.new hp)) _ _ e'
     .have hpD:p≠D:=λz=>by subst z;rw[O] at hp;cases hp
      rw[qJ,hw,bR];refine eX (kP.same (λb' u e'=>?_) U) ?_
      .obtain⟨e1,e2⟩:=bh e';exact aQ e1 (by rw[aB e1];exact ag.new hp _ _ e2)
      .refine aQ hpD ?_;rw[aB hpD,aA,lX _ hs1]
    .rintro D H' ⟨hD,S,ps,O,U⟩;refine#[D,_,_,bD b,Z,ao.of O,kP.dp (U.same cU),oK (ao.of (S _ _ hc)),kN b,λe' he'=>?_,_,Z,?_]
     .obtain⟨b',_,rfl⟩:=bK.mp he';exact kN b'
     .rw[aw cZ,BP];exact q2 H' S
   |num m=>exact absurd hf (show ¬(!decide (("number":au)="word"))=az by decide +kernel)
   |sign m=>exact absurd hf (show ¬(!decide (("sign":au)="word"))=az by decide +kernel)
   |halt_=>exact absurd hf (show ¬(!decide (("end":au)="word"))=az by decide +kernel)
  .have:(!decide (formOf x.tok="word") ||(match x.tok with|.name b=>zZ.contains b|_=>az))=(dJ x).isNone:=by
    obtain⟨p,t⟩:=x;cases t with
    |name b=>
     show(!decide (("word":au)="word") ||zZ.contains b)=_;rw[bX Z];delta dJ
     try dsimp only
     cases zZ.contains b<;>rfl
    |num m=>rfl
    |sign m=>rfl
    |halt_=>rfl
   rw[this];exact q' H1 S1
 have g:=hR.same S1;have ho1:=ho.same S1;obtain⟨f,c,M,I⟩:=ho1.at_;cases hn:dJ x with
 |none=>
  rw[hn] at q;exact bu #[_,Z,o,_,M,_,_,Z,I,T.dP,T.mZ,oM,_,_,Z,FX.same (ag.wo S1) q]
 |some b=>
  rw[hn] at q;refine br ?_;dsimp only[di];refine cX (!room) (λR q'=>#[_,Z,_,Z,q']) ?_;cases room with
  |false=>exact bu #[_,Z,o,_,M,_,_,Z,I,T.dP,T.mZ,oM,_,_,Z,FX.same (ag.wo S1) q]
  |true=>
   have q:=q;have hnh:x.tok≠.halt_:=λz=>by delta dJ at hn;rw[z] at hn;cases hn
   obtain⟨dx,as,ts,n,h1,_⟩:=id g;refine br #[_,Z,r,dx,_,Z,h1,yn,r,lt,x,rest,Z,g,g.vV.tail hnh,λH2 o e S2 hR2 ho=>q H2 o e (λb u e=>?_) hR2 ho];obtain⟨e1,e2⟩:=bh e;exact S2 _ _ (aQ e1 (S1 _ _ e2))
end
noncomputable def jx:List V->List (au×V)
 |[x0,x1,x2]=>[("is_flag",x0),("low",x1),("high",x2)]
 |_=>[]
theorem Qi:(jx [x0,x1,x2]).lookup ("is_flag":au)=aa x0:=by kernel_rfl
theorem uv:(jx [x0,x1,x2]).lookup ("low":au)=aa x1:=by kernel_rfl
theorem GB:(jx [x0,x1,x2]).lookup ("high":au)=aa x2:=by kernel_rfl
noncomputable def qw:List V->List (au×V)
 |[x0,x1,x2]=>[("name",x0),("kind",x1),("parents",x2)]
 |_=>[]
theorem BR:(qw [x0,x1,x2]).lookup ("name":au)=aa x0:=by kernel_rfl
theorem Qj:(qw [x0,x1,x2]).lookup ("kind":au)=aa x1:=by kernel_rfl
theorem ZS:(qw [x0,x1,x2]).lookup ("parents":au)=aa x2:=by kernel_rfl
noncomputable def qx:List V->List (au×V)
 |[x0,x1,x2]=>[("name",x0),("kind",x1),("parents",x2)]
 |_=>[]
theorem GC:(qx [x0,x1,x2]).lookup ("name":au)=aa x0:=by kernel_rfl
theorem jy:(qx [x0,x1,x2]).lookup ("kind":au)=aa x1:=by kernel_rfl
theorem uw:(qx [x0,x1,x2]).lookup ("parents":au)=aa x2:=by kernel_rfl
noncomputable def vX:List V->List (au×V)
 |[x0,x1]=>[("title",x0),("columns",x1)]
 |_=>[]
theorem ZT:(vX [x0,x1]).lookup ("title":au)=aa x0:=by kernel_rfl
theorem j7:(vX [x0,x1]).lookup ("columns":au)=aa x1:=by kernel_rfl
noncomputable def oN:List V->List (au×V)
 |[x0,x1,x2,x3]=>[("number",x0),("numbers",x1),("listed",x2),("end",x3)]
 |_=>[]
theorem BS:(oN [x0,x1,x2,x3]).lookup ("number":au)=aa x0:=by kernel_rfl
theorem sR:(oN [x0,x1,x2,x3]).lookup ("numbers":au)=aa x1:=by kernel_rfl
theorem oO:(oN [x0,x1,x2,x3]).lookup ("listed":au)=aa x2:=by kernel_rfl
theorem ZU:(oN [x0,x1,x2,x3]).lookup ("end":au)=aa x3:=by kernel_rfl
section
variable {w:aS}{base:aU}
theorem Qk(T:TX K mg a d):aV P w K mg base bo 41 a.oE d.oE ["self","is_flag","low","high"] (m8 a.Kind 3 jx):=by
 refine T.oE.ok (λvs H Q E h=>?_) (λnD S A outer s H vs Q E hr h=>?_)
 .obtain⟨x,dx,I,rfl,J,_⟩:=h;simp[J]
 .obtain⟨x,dx,I,rfl,J,hx,q⟩:=h;obtain⟨x0,x1,x2,rfl⟩:=len3 J;refine#[_,(ay (dv (pv 0) (pv 1) Z)
  (ay (dv (pv 0) (pv 2) Z)
  (aF (dv (pv 0) (pv 3) Z)))),?_]
  refine#[_,Z,_,Z,x,_,dx,_,Z,hx,T.js,T.Gi,dq,?_]
  have R:b_ "is_flag" x0 []=([("is_flag",x0)]:List (au×V)):=by kernel_rfl
  rw[R];refine#[_,Z,_,Z,x,_,dx,_,Z,aA,T.js,T.sO,dq,?_]
  have O:b_ "low" x1 ([("is_flag",x0)]:List (au×V))=([("is_flag",x0),("low",x1)]:List (au×V)):=by kernel_rfl
  rw[dI,O];refine#[_,Z,_,Z,x,_,dx,_,Z,aA,T.js,T.BG,dq,?_]
  have M:b_ "high" x2 ([("is_flag",x0),("low",x1)]:List (au×V))=jx [x0,x1,x2]:=by kernel_rfl
  rw[dI,M];exact q
theorem ZV(T:TX K mg a d):aV P w K mg base bo 41 a.qs d.qs ["self","name","kind","parents"] (m8 a.lV 3 qw):=by
 refine T.qs.ok (λvs H Q E h=>?_) (λnD S A outer s H vs Q E hr h=>?_)
 .obtain⟨x,dx,I,rfl,J,_⟩:=h;simp[J]
 .obtain⟨x,dx,I,rfl,J,hx,q⟩:=h;obtain⟨x0,x1,x2,rfl⟩:=len3 J;refine#[_,(ay (dv (pv 0) (pv 1) Z)
  (ay (dv (pv 0) (pv 2) Z)
  (aF (dv (pv 0) (pv 3) Z)))),?_]
  refine#[_,Z,_,Z,x,_,dx,_,Z,hx,T.oH,T.yi,dq,?_]
  have R:b_ "name" x0 []=([("name",x0)]:List (au×V)):=by kernel_rfl
  rw[R];refine#[_,Z,_,Z,x,_,dx,_,Z,aA,T.oH,T.Gp,dq,?_]
  have O:b_ "kind" x1 ([("name",x0)]:List (au×V))=([("name",x0),("kind",x1)]:List (au×V)):=by kernel_rfl
  rw[dI,O];refine#[_,Z,_,Z,x,_,dx,_,Z,aA,T.oH,T.PU,dq,?_]
  have M:b_ "parents" x2 ([("name",x0),("kind",x1)]:List (au×V))=qw [x0,x1,x2]:=by kernel_rfl
  rw[dI,M];exact q
theorem ZW(T:TX K mg a d):aV P w K mg base bo 41 a.qm d.qm ["self","name","kind","parents"] (m8 a.Column 3 qx):=by
 refine T.qm.ok (λvs H Q E h=>?_) (λnD S A outer s H vs Q E hr h=>?_)
 .obtain⟨x,dx,I,rfl,J,_⟩:=h;simp[J]
 .obtain⟨x,dx,I,rfl,J,hx,q⟩:=h;obtain⟨x0,x1,x2,rfl⟩:=len3 J;refine#[_,(ay (dv (pv 0) (pv 1) Z)
  (ay (dv (pv 0) (pv 2) Z)
  (aF (dv (pv 0) (pv 3) Z)))),?_]
  refine#[_,Z,_,Z,x,_,dx,_,Z,hx,T.ez,T.BH,dq,?_]
  have R:b_ "name" x0 []=([("name",x0)]:List (au×V)):=by kernel_rfl
  rw[R];refine#[_,Z,_,Z,x,_,dx,_,Z,aA,T.ez,T.i5,dq,?_]
  have O:b_ "kind" x1 ([("name",x0)]:List (au×V))=([("name",x0),("kind",x1)]:List (au×V)):=by kernel_rfl
  rw[dI,O];refine#[_,Z,_,Z,x,_,dx,_,Z,aA,T.ez,T.sP,dq,?_]
  have M:b_ "parents" x2 ([("name",x0),("kind",x1)]:List (au×V))=qx [x0,x1,x2]:=by kernel_rfl
  rw[dI,M];exact q
theorem ZX(T:TX K mg a d):aV P w K mg base bo 41 a.qo d.qo ["self","title","columns"] (m8 a.Model 2 vX):=by
 refine T.qo.ok (λvs H Q E h=>?_) (λnD R A outer s H vs Q E hr h=>?_)
 .obtain⟨x,dx,I,rfl,J,_⟩:=h;simp[J]
 .obtain⟨x,dx,I,rfl,J,hx,q⟩:=h;obtain⟨x0,x1,rfl⟩:=AY J;refine#[_,(ay (dv (pv 0) (pv 1) Z)
  (aF (dv (pv 0) (pv 2) Z))),?_]
  refine#[_,Z,_,Z,x,_,dx,_,Z,hx,T.iz,T.PN,dq,?_]
  have O:b_ "title" x0 []=([("title",x0)]:List (au×V)):=by kernel_rfl
  rw[O];refine#[_,Z,_,Z,x,_,dx,_,Z,aA,T.iz,T.jt,dq,?_]
  have M:b_ "columns" x1 ([("title",x0)]:List (au×V))=vX [x0,x1]:=by kernel_rfl
  rw[dI,M];exact q
theorem Ql(T:TX K mg a d):aV P w K mg base bo 41 a.oF d.oF ["self","number","numbers","listed","end"] (m8 a.Call 4 oN):=by
 refine T.oF.ok (λvs H Q E h=>?_) (λnD U A outer s H vs Q E hr h=>?_)
 .obtain⟨x,dx,I,rfl,J,_⟩:=h;simp[J]
 .obtain⟨x,dx,I,rfl,J,hx,q⟩:=h;obtain⟨x0,x1,x2,x3,rfl⟩:=len4 J;refine#[_,(ay (dv (pv 0) (pv 1) Z)
  (ay (dv (pv 0) (pv 2) Z)
  (ay (dv (pv 0) (pv 3) Z)
  (aF (dv (pv 0) (pv 4) Z))))),?_]
  refine#[_,Z,_,Z,x,_,dx,_,Z,hx,T.eG,T.yj,dq,?_]
  have S:b_ "number" x0 []=([("number",x0)]:List (au×V)):=by kernel_rfl
  rw[S];refine#[_,Z,_,Z,x,_,dx,_,Z,aA,T.eG,T.qv,dq,?_]
  have R:b_ "numbers" x1 ([("number",x0)]:List (au×V))=([("number",x0),("numbers",x1)]:List (au×V)):=by kernel_rfl
  rw[dI,R];refine#[_,Z,_,Z,x,_,dx,_,Z,aA,T.eG,T.m7,dq,?_]
  have O:b_ "listed" x2 ([("number",x0),("numbers",x1)]:List (au×V))=([("number",x0),("numbers",x1),("listed",x2)]:List (au×V)):=by kernel_rfl
  rw[dI,O];refine#[_,Z,_,Z,x,_,dx,_,Z,aA,T.eG,T.PX,dq,?_]
  have M:b_ "end" x3 ([("number",x0),("numbers",x1),("listed",x2)]:List (au×V))=oN [x0,x1,x2,x3]:=by kernel_rfl
  rw[dI,M];exact q
inductive Qm(a:Ad)(vs:List V)(H:Hp)(Q:VK)(x_0:XK):Prop|m:∀(x dx:af)(t:V),vs=[.ref x,t]->H x=aa (.ins a.Reader dx [])->Q .bB (upd H x (.ins a.Reader dx (iB t (.int 0))))->Qm a vs H Q x_0
theorem ZY(T:TX K mg a d):aV P w K mg base bo 41 a.qr d.qr ["self","tokens"] (Qm a):=by
 refine T.qr.ok bE λnD I A outer s H vs Q E hr h=>?_;obtain⟨x,dx,t,rfl,hx,q⟩:=h;refine#[_,(ay (dv (pv 0) (pv 1) Z)
   (aF (dv (pv 0) aX Z))),?_]
 refine#[_,Z,_,Z,x,_,dx,_,Z,hx,T.gn,T.Gn,dq,?_]
 refine#[_,Z,x,_,dx,_,Z,aA,T.gn,T.yh,dq,?_]
 have e:b_ "at" (.int 0) (b_ "tokens" t [])=iB t (.int 0):=by kernel_rfl
 rw[dI,e];exact q
end
theorem oP(E:ag (Wo H r) H1)(A:ag (Wo H1 r) H2):ag (Wo H r) H2:=λb u e=>A _ _ (aQ (bh e).1 (E _ _ e))
theorem cw.tok{lt}(h:cw a H r lt rest)(A:dw C H o x e):dw C (Wo H r) o x e:=by
 obtain⟨dx,I,ts,n,E,_⟩:=h;exact A.wo E
theorem cw.lst{lt}(h:cw a H r lt rest){c}(A:H c=aa (.lst xs)):Wo H r c=aa (.lst xs):=by
 obtain⟨dx,I,ts,n,E,_⟩:=h;exact aQ (λz=>by subst z;rw[E] at A;cases A) A
def fq(a:Ad)(H:Hp)(k:af):eE->Prop
 |.flag=>∃dx,H k=aa (.ins a.Kind dx (jx [.bl ai,.int 0,.int 1]))
 |.num lo A=>∃dx,H k=aa (.ins a.Kind dx (jx [.bl az,.int lo,.int A]))
theorem fq.same{k}(S:ag H H')(h:fq a H k kd):fq a H' k kd:=by
 cases kd<;>exact h.imp λx q=>S _ _ q
theorem cw.kind{lt:af}(h:cw a H r lt rest){k:af}(E:fq a H k kd):fq a (Wo H r) k kd:=by
 obtain⟨dx,M,ts,n,I,_⟩:=h;have key:∀{A}{x0 x1 x2},H k=aa (.ins a.Kind A (jx [x0,x1,x2]))->Wo H r k=aa (.ins a.Kind A (jx [x0,x1,x2])):=λq=>aQ (λz=>by
  subst z;rw[I] at q;have:=bf q;injection this with _ _ z
  have:=congrArg tm z;simp[iB,jx] at this) q
 cases kd with
 |flag=>exact E.imp λx q=>key q
 |num lo J=>exact E.imp λx q=>key q
theorem ux s (h:∀c∈s.toList,c.toNat<256):codes (dy s)=bV (gF s):=lX s h
section
variable {w:aS}{base:aU}
inductive Qn(a:Ad)(vs:List V)(H:Hp)(Q:VK)(E:XK):Prop|m:∀(r lt:af)(rest:cB),vs=[.ref r]->cw a H r lt rest->(match lj rest with
 |.ok (kd,rest')=>∀H' k,ag (Wo H r) H'->cw a H' r lt rest'->fq a H' k kd->Q (.ref k) H'
 |.error f=>FX E a.Fault f.code f.place (Wo H r))->Qn a vs H Q E
theorem Qo{lt}{A}(R:ag (Wo H r) H1)(I:cw a H1 r lt A)(O:∀H' k dx,H' k=aa (.ins a.Kind dx (jx [x0,x1,x2]))->fq a H' k kd)(q:∀H' k,ag (Wo H r) H'->cw a H' r lt A->fq a H' k kd->Q (.ref k) H'):
  ∀x dx,H1 x=ae->H1 dx=ae->dx≠x->m8 a.Kind 3 jx [.ref x,x0,x1,x2] (upd (upd H1 dx (.own x)) x (.ins a.Kind dx [])) (λv H2=>v=.bB/\Q (.ref x) H2) E0:=by
 intro x dx hx E M;refine#[x,dx,_,Z,Z,aA,Z,?_];rw[dI];have J:ag H1 (upd (upd H1 dx (.own x)) x (.ins a.Kind dx (jx [x0,x1,x2]))):=λb u e=>by
  rw[aB (bc e hx),aB (bc e E)];exact e
 exact q _ x (R.trans J) (I.same J) (O _ x dx aA)
theorem ZZ(T:TX K mg a d):aV P w K mg base (e9 P w a.Fault) 46 a.sI d.sI ["reader"] (Qn a):=by
 refine T.sI.gL bE λnD cdv A outer s H vs Q E hr W h=>?_;obtain⟨r,lt,rest,rfl,hR,q⟩:=h;refine#[_,(ay (cy (eZ (a_ T.mW (BN T) (ah (pv 0) (ah iO ak))) (λi=>Z)) (ay (dU (mJ (pv 0) T.gn T.iy.m (yo T) (dW hr) T.iy.b .nil iT))
   (aF (aZ (pMk T.oE T.PM T.PC (Qk T) (ah rJ (ah aX (ah aX ak))))))) cC)
   (ay (dU (ek T.mX (BO T) (ej W) (ah (pv 0) (ah iO ak))))
   (ay (aM 1 (ek T.qk (Qg T) (ej W) (ah (pv 0) ak)))
   (ay (aM 2 (ek T.qk (Qg T) (ej W) (ah (pv 0) ak)))
   (ay (cy (b9 nP (cz (Ul) Z T.Zg Xx (ah (aK (pv 1) Z) ak)) (bZ Z T.Pt) (cu _)) (aF (jn T.xt (ju T) T.fo.b (dW hr) Z W Z T.i4 (ah (bZ Z T.Pn) (ah (aK (pv 1) Z) ak)))) cC)
   (ay (cy (PW.pt (pH (b9 nP (aK (pv 2) Z) (bZ Z T.Pt) (cu _)) (rM (lr (Ui mH mH aX (bg rO (aK (pv 2) Z) (aK (pv 1) Z)) (bZ Z T.Y4)))))) (aF (jn T.xt (ju T) T.fo.b (dW hr) Z W Z T.i4 (ah (bZ Z T.Pn) (ah (aK (pv 2) Z) ak)))) cC)
   (aF (aZ (pMk T.oE T.PM T.PC (Qk T) (ah rJ (ah (aK (pv 1) Z) (ah (aK (pv 2) Z) ak)))))))))))),?_]
 obtain⟨x,l,rfl⟩:=hR.cons;have ax:=hR.ok;have hflag:decide (content x.tok=aa (gF "flag"))=(x.tok==.name (gF "flag")):=Fm ax (by decide +kernel)
 have hnum:decide (content x.tok=aa (gF "num"))=(x.tok==.name (gF "num")):=Fm ax (by decide +kernel)
 delta lj at q;have J:∀t,To t (x::l)=(x.tok==t):=λi=>Z;rw[J,J,Ho,HV] at q;refine pR (x.tok==.name (gF "flag")) (λR q'=>#[_,Z,r,lt,_,_,x,l,Z,hR,ux _ (by decide +kernel),(by decide +kernel),λH1 S1=>#[_,Z,by rw[hflag];exact q' H1 S1]]) (λH1 S1=>?_)
 have Y:=hR.same S1;by_cases hf:(x.tok==vl (gF "flag"))=ai
 .rw[hf];rw[aC hf] at q;obtain⟨dx,as,ts,n,h1,_⟩:=id Y;refine bu #[_,Z,r,dx,_,Z,h1,yn,r,lt,x,l,Z,Y,Y.vV.tail (λz=>by rw[z] at hf;cases hf),λH2 o e S2 V ho=>?_]
  exact Qo (kd:=.flag) (oP (ag.wo S1) S2) V (λH' k dx q=>#[dx,q]) q
 rw[aw hf] at q;have hf:(x.tok==vl (gF "flag"))=az:=by simpa using hf
 rw[hf];refine br ?_;dsimp only[di];refine#[_,Z,r,lt,_,_,x,l,Z,Y,ux _ (by decide +kernel),(by decide +kernel),(by decide +kernel),?_]
 by_cases hn:(x.tok==vl (gF "num"))=ai
 .rw[aC hn] at q;have hc:=rF (hnum.trans hn);rw[aC hc];intro H2 v S2 V;have S02:=oP (ag.wo (r:=r) S1) S2;obtain⟨y,l2,rfl⟩:=V.cons;refine#[_,Z,r,lt,y,l2,Z,V,?_];obtain⟨yp,yt⟩:=y;cases yt with
  |num lo=>
   intro H3 o3 e3 S3 hR3 ho3;have S03:=oP S02 S3;obtain⟨z,l3,rfl⟩:=hR3.cons;dsimp only[aR,aN,L2.start];refine#[_,Z,r,lt,z,l3,Z,hR3,?_];obtain⟨zp,zt⟩:=z;cases zt with
   |num I=>
    intro H4 o4 e4 S4 hR4 ho4;have S04:=oP S03 S4;have ho3':=(hR3.tok (x:=#[yp,.num lo]) ho3).same S4;obtain⟨dx3,U⟩:=ho3';obtain⟨c,S⟩:=ho4;dsimp only[aR,aN,cN];have q:match(if lo < -1000\/1000<lo then(.error #[7,yp]:Except D3 (eE×cB)) else if I<lo\/1000<I\/lo+63<I then .error #[7,zp] else .ok (.num lo I,l3)) with
     |.ok (kd,rest')=>∀H' k,ag (Wo H r) H'->cw a H' r lt rest'->fq a H' k kd->Q (.ref k) H'
     |.error f=>FX E a.Fault f.code f.place (Wo H r):=q
    have hB:VaprbBase.BEYOND=1000:=Z;refine cX (decide (lo < -1000\/1000<lo)) (λR q'=>#[_,Z,o3,_,dx3,_,_,Z,U,T.dP,T.j4,kO,_,Z,_,_,Z,Z,_,Z,?_]) ?_
    .rw[show decide ((1000:Int)<if lo<0 then -lo else lo)=decide (lo < -1000\/1000<lo) by rw[d9];split<;>omega]
     exact q'
    by_cases M:lo < -1000\/1000<lo
    .rw[bX M];rw[aC M] at q;exact bu #[_,Z,o3,_,dx3,_,_,Z,U,T.dP,T.mZ,oM,_,_,Z,FX.same S04 q]
    rw[bO M];rw[aw M] at q;refine br ?_;dsimp only[di];refine cX (decide (I<lo\/1000<I\/lo+63<I)) (λR q'=>?_) ?_
    .refine uc (decide (1000<I)) (!(decide (0<=I-lo)&&decide (I-lo<=63))) (λR q2=>#[_,Z,o4,_,c,_,_,Z,S,T.dP,T.j4,kO,_,_,Z,Z,_,Z,q2]) (λi R q2=>?_) ?_
     .refine#[_,Z,o4,_,c,_,_,Z,S,T.dP,T.j4,kO,_,Z,o3,_,dx3,_,_,Z,U,T.dP,T.j4,kO,_,_,Z,Z,_,_,Z,Z,decide (0<=I-lo),Z,?_];cases hh:decide (0<=I-lo)
      .rw[hh] at q2;exact br #[_,Z,q2]
      .rw[hh] at q2;exact bu #[_,_,Z,Z,_,Z,q2]
     .rw[show(decide (1000<I) ||!(decide (0<=I-lo)&&decide (I-lo<=63)))=decide (I<lo\/1000<I\/lo+63<I) by
       rw[gu];simp only[wj,Ca,Bool.and_eq_false_imp,Ae,xi];omega]
      exact q'
    by_cases O:I<lo\/1000<I\/lo+63<I
    .rw[bX O];rw[aC O] at q;exact bu #[_,Z,o4,_,c,_,_,Z,S,T.dP,T.mZ,oM,_,_,Z,FX.same S04 q]
    rw[bO O];rw[aw O] at q;refine br ?_;dsimp only[di];refine#[_,Z,o3,_,dx3,_,_,Z,U,T.dP,T.j4,kO,_,Z,o4,_,c,_,_,Z,S,T.dP,T.j4,kO,?_];exact Qo (kd:=.num lo I) S04 hR4 (λH' k dx q=>#[dx,q]) q
   |name b=>exact FX.same (λb u e=>S03 _ _ e |> λz=>aQ (bh e).1 z) q
   |sign b=>exact FX.same (λb u e=>aQ (bh e).1 (S03 _ _ e)) q
   |halt_=>exact FX.same (λb u e=>aQ (bh e).1 (S03 _ _ e)) q
  |name b=>exact FX.same (λb u e=>aQ (bh e).1 (S02 _ _ e)) q
  |sign b=>exact FX.same (λb u e=>aQ (bh e).1 (S02 _ _ e)) q
  |halt_=>exact FX.same (λb u e=>aQ (bh e).1 (S02 _ _ e)) q
 .rw[aw hn] at q;rw[aw (λz=>hn (hnum.symm.trans (bX z)))];exact FX.same (λb u e=>aQ (bh e).1 (S1 _ _ (bh e).2)) q
end
theorem GD{c}(W:Nat->L2.St->Hp->Prop)(I:L2.St->Hp->Prop) m (M:W m σ H) (J:(∀σ H,I σ H->D.nx σ H)->∀m σ H,W m σ H->c σ H λb H1=>if b=ai then ∃N:L2.St->Hp->Prop,(∀A H',N A H'->∃E,E<m/\W E A H')/\tb {D with nx:=N,ct:=N,bk:=D.nx} σ H1 else D.nx σ H1) (hd:∀σ H,I σ H->D.nx σ H):Ak c tb D σ H:=#[W,#[m,M],J hd]
theorem GF{m}{W:Nat->L2.St->Hp->Prop}(h:tb {D with nx:=λA H'=>∃E,E<m/\W E A H',ct:=λA H'=>∃E,E<m/\W E A H',bk:=D.nx} σ H):
  ∃N:L2.St->Hp->Prop,(∀A H',N A H'->∃E,E<m/\W E A H')/\tb {D with nx:=N,ct:=N,bk:=D.nx} σ H:=#[_,λx x h=>h,h]
def oQ(C:af)(H:Hp)(os:List af)(ps:List nF):Prop:=Paired (λo (n:nF)=>∃e,dw C H o #[n.place,.name n.name] e) os ps
theorem oQ.same{ps}(S:ag H H')(h:oQ C H os ps):oQ C H' os ps:=Paired.eJ h λx x ⟨e,q⟩=>#[e,q.same S]
theorem BU{b}(h:dJ x=aa b):x=#[x.place,.name b]:=by
 obtain⟨p,t⟩:=x;cases t with
 |name c=>
  delta dJ at h;dsimp only at h
  split at h
  .cases h
  .injection h with h;subst h;rfl
 |num n=>cases h
 |sign s=>cases h
 |halt_=>cases h
theorem cw.names{lt}(h:cw a H r lt rest){ps}(A:oQ C H os ps):oQ C (Wo H r) os ps:=Paired.eJ A λx x ⟨e,q⟩=>#[e,h.tok q]
theorem dw.j8{p q}(I:H p=aa (.lst (.ref q::xs)))(h:dw C H o x e):dw C (Wo H p) o x e:=by
 have A:∀{f}{c}{pl e},jv C H o f c pl e->jv C (Wo H p) o f c pl e:=λ⟨d,z⟩=>#[d,aQ (λy=>by subst y;rw[I] at z;cases z) z]
 have E:∀{c}{b},H c=aa (.lst (bV b))->Wo H p c=aa (.lst (bV b)):=λ{c b} z=>aQ (λy=>by
  subst y;rw[I] at z;have z:=bf z;injection z with z
  cases b with
  |nil=>cases z
  |cons x b=>injection z with J M;cases J) z
 delta dw at h⊢
 split at h
 .exact h.imp λa z=>#[A z.1,E z.2]
 .exact A h
 .exact h.imp λa z=>#[A z.1,E z.2]
 .exact h.imp λa z=>#[A z.1,E (b:=[]) z.2]
theorem cw.j8{lt}(h:cw a H r lt rest){p q}(I:H p=aa (.lst (.ref q::xs)))(A:p≠lt):cw a (Wo H p) r lt rest:=by
 obtain⟨dx,U,ts,n,E,T,S,R,O,M,J⟩:=h;exact#[dx,U,ts,n,aQ (λz=>by subst z;rw[I] at E;cases E) E,aQ (bG A) T,Paired.eJ S λx x ⟨e,z⟩=>#[e,z.j8 I],R,O,M,J]
theorem uz{p}{o}:ag (Wo H p) (upd H p o):=λb u e=>by
 obtain⟨E,A⟩:=bh e;rw[aB E];exact A
section
variable {w:aS}{base:aU}
inductive Qp(a:Ad)(vs:List V)(H:Hp)(Q:VK)(E:XK):Prop|m:∀(r lt:af)(c:h_)(rest:cB),vs=[.ref r]->cw a H r lt (c::rest)->c.tok=.sign 124->(match mN 0 rest with
 |.ok (ps,rest')=>∀H' p os,ag (Wo H r) H'->cw a H' r lt rest'->H p=ae->H' p=aa (.lst (os.map V.ref))->oQ a.Token H' os ps->Q (.ref p) H'
 |.error f=>FX E a.Fault f.code f.place (Wo H r))->Qp a vs H Q E
theorem Z0(T:TX K mg a d):aV P w K mg base (e9 P w a.Fault) 46 a.sJ d.sJ ["reader"] (Qp a):=by
 refine T.sJ.gL bE λnD cdv A outer s H vs Q E hr W h=>?_;obtain⟨r,lt,c,rest,rfl,hR,hc,q⟩:=h;refine#[_,(ay (dU (ek T.mX (BO T) (ej W) (ah (pv 0) (ah iO ak))))
   (ay (aM 1 (bU (ah (ek T.kI (BQ T) (ej W) (ah (pv 0) (ah rJ ak))) ak)))
   (ay (pI kq (eZ (a_ T.mW (BN T) (ah (pv 0) (ah iO ak))) (λt=>Z)) (ay (dU (mJ (pv 0) T.gn T.iy.m (yo T) (dW hr) T.iy.b .nil iT))
   (aF (dU (eP eO je jf jl (pv 1) (ah (ek T.kI (BQ T) (ej W) (ah (pv 0) (ah (An kB (cz (c8) Z T.de c_ (ah (pv 1) ak)) (bZ Z T.Y2) (cu _)) ak))) ak))))))
   (aF (aZ (pv 1)))))),?_]
 refine#[_,Z,r,lt,_,[124],c,rest,Z,hR,ux "|" (by decide +kernel),(by decide +kernel),(by decide),?_]
 rw[aC (by rw[hc];decide +kernel)]
 intro H1 v1 S1 hR1;obtain⟨x,l,rfl⟩:=hR1.cons;refine#[_,Z,r,lt,ai,x,l,Z,hR1,?_];cases hn:dJ x with
 |none=>
  rw[Fp,hn] at q;exact FX.same (λb u e=>aQ (bh e).1 (S1 _ _ e)) q
 |some b=>
  rw[XJ x l hn] at q;show if ai=ai then _ else _
  rw[aC Z];intro H2 o e S2 hR2 ho;have S02:=oP S1 S2;refine#[cb,λp f=>?_]
  dsimp only[aR,aN,L2.start];have hrp:p≠r:=λz=>by subst z;obtain⟨dx,as,ts,n,h1,_⟩:=hR2;rw[h1] at f;cases f
  have hltp:p≠lt:=λz=>by subst z;obtain⟨dx,as,ts,n,h1,h2,_⟩:=hR2;rw[h2] at f;cases f
  have S03:ag (Wo H r) (upd H2 p (.lst [.ref o])):=S02.trans (ag.new f);have hHp:=S02.free f;refine GD (λm k H'=>∃rest os pre,m=rest.length/\k=[aa (.ref r),aa (.ref p)]/\ag (Wo H r) H'/\cw a H' r lt rest/\(∃q J,os=q::J)/\H' p=aa (.lst (os.map V.ref))/\oQ a.Token H' os pre/\pre.length<=3/\pU [#[x.place,b]] l=pU pre rest)
   (λk H'=>∃rest os pre,k=[aa (.ref r),aa (.ref p)]/\ag (Wo H r) H'/\cw a H' r lt rest/\H' p=aa (.lst (os.map V.ref))/\oQ a.Token H' os pre/\pU [#[x.place,b]] l=.ok (pre,rest)) _
   #[l,[o],[#[x.place,b]],Z,Z,S03,hR2.same (ag.new f),#[o,[],Z],aA,.cons #[e,by rw[BU hn] at ho;exact ho.same (ag.new f)] .nil,by simp,Z] ?_ ?_
  .rintro out m k H' v;rcases v with⟨rest',os,pre,rfl,rfl,S,M,⟨O,J,rfl⟩,U,hN,bC,I⟩;obtain⟨y,l',rfl⟩:=M.cons;have h44:decide (content y.tok=aa [44])=(y.tok==.sign 44):=Fn (z:=44) M.ok (by decide)
   refine#[_,Z,r,lt,_,[44],y,l',Z,M,ux "," (by decide +kernel),(by decide +kernel),λH4 S4=>#[_,Z,?_]]
   rw[h44];have Y:=M.same S4;by_cases hy:(y.tok==vm 44)=ai
   .rw[hy];have hy':=eq_of_beq hy;refine bu (GF ?_);obtain⟨dx,as,ts,n,h1,_⟩:=id Y;refine#[_,Z,r,dx,_,Z,h1,yn,r,lt,y,l',Z,Y,Y.vV.tail (by rw[hy'];intro z;cases z),λH5 o5 e5 S5 hR5 ho5=>?_]
    have S45:ag (Wo H' r) H5:=λb u e=>S5 _ _ (aQ (bh e).1 (S4 _ _ (bh e).2));have hp5:=S45 _ _ (aQ hrp U);have hN5:=(M.names hN).same S45;obtain⟨z,l5,rfl⟩:=hR5.cons;have hlen:=bS hN;refine#[_,Z,.inl #[Z,_,ao.of hp5],_,Z,_,Z,p,_,Z,.inl (ao.of hp5),_,_,Z,Z,r,lt,_,z,l5,Z,hR5,?_];rw[XN hy'] at I;have hdec:decide ((((O::J).map V.ref).length:Int)<3)=decide (pre.length<3):=by rw[d9,aJ,hlen];lia
    have S05:=oP S S45;cases hnz:dJ z with
    |none=>
     rw[hnz] at I;rw[I] at q;exact FX.same (λb u e=>aQ (bh e).1 (S05 _ _ e)) q
    |some bz=>
     rw[hnz] at I;show if decide ((((O::J).map V.ref).length:Int)<3)=ai then _ else _
     rw[hdec];by_cases h3:3<=pre.length
     .rw[bO (by simp_all)]
      dsimp only at I;rw[aC h3] at I;rw[I] at q;exact br (FX.same (λb u e=>aQ (bh e).1 (S05 _ _ e)) q)
     .rw[bX (by simp_all)]
      dsimp only at I;rw[aw h3] at I;refine bu λH6 o6 e6 S6 hR6 ho6=>?_;have R:=S6 _ _ (aQ hrp hp5);have hN6:=(hR5.names hN5).same S6;have S06:=oP S05 S6;refine#[p,_,_,Z,Z,R,?_,?_]
      .rw[aJ,hlen,bQ];lia
      refine#[l5.length,by simp;lia,l5,(O::J)++[o6],pre++[#[z.place,bz]],Z,Z,λb u e=>?_,?_,#[O,J++[o6],Z],by rw[aA,bR];rfl,?_,by rw[b6];simp;lia,I]
      .have hbp:b≠p:=λz=>by subst z;rw[hHp] at e;cases e
       rw[aB hbp];exact S06 _ _ e
      .exact(hR6.j8 R hltp).same uz
      .refine eX (Paired.eJ hN6 λt t ⟨e,z⟩=>#[e,(z.j8 R).same uz]) #[e6,?_];rw[BU hnz] at ho6;exact(ho6.j8 R).same uz
   .have hy:(y.tok==vm 44)=az:=by simpa using hy
    rw[hy];refine br (out _ _ #[y::l',O::J,pre,Z,S.trans S4,Y,S4 _ _ U,hN.same S4,?_]);rw[I,XM (l:=y::l') hy]
  .rintro k H' ⟨rest',os,pre,rfl,S,M,U,hN,I⟩;rw[I] at q;exact#[_,Z,q H' p os S M (by cases e:H p with|none=>rfl|some u=>rw[aQ hrp e] at hHp;cases hHp) U hN]
end
inductive iC(a:Ad)(z:af)(H:Hp)(o:af)(raw:ic):Prop|m:∀(dx t k p:af)(os:List af)(e:Nat),H o=aa (.ins a.lV dx (qw [.ref t,.ref k,.ref p]))->dw a.Token H t #[raw.name.place,.name raw.name.name] e->fq a H k raw.kind->H p=aa (.lst (os.map V.ref))->oQ a.Token H os raw.parents->p≠z->iC a z H o raw
theorem iC.same(S:ag H H')(h:iC a z H o raw):iC a z H' o raw:=by
 obtain⟨dx,t,k,p,os,e,O,M,J,I,E,A⟩:=h;exact#[dx,t,k,p,os,e,S _ _ O,M.same S,J.same S,S _ _ I,E.same S,A]
theorem iC.avoid{A}(h:iC a z H o raw)(hz:H A=ae):iC a A H o raw:=by
 obtain⟨dx,t,k,p,os,e,O,M,J,E,I,R⟩:=h;exact#[dx,t,k,p,os,e,O,M,J,E,I,bc E hz]
theorem Z1{J E}{fs A}(h:H o=aa (.ins C dx fs))(h':H r=aa (.ins J E A))(I:fs.length≠A.length):o≠r:=λz=>by
 subst z;rw[h] at h';have:=bf h';injection this with _ _ z
 exact I (congrArg tm z)
theorem cw.Z2{lt}(h:cw a H r lt rest)(hd:iC a z H o raw):iC a z (Wo H r) o raw:=by
 obtain⟨dx,t,k,p,os,e,A,O,M,J,I,E⟩:=hd;obtain⟨S,T,ts,n,R,_⟩:=id h;exact#[dx,t,k,p,os,e,aQ (Z1 A R (by simp[qw,iB])) A,h.tok O,h.kind M,h.lst J,h.names I,E]
theorem fq.j8{p k}(A:H p=aa (.lst xs))(h:fq a H k kd):fq a (Wo H p) k kd:=by
 cases kd<;>exact h.imp λx q=>aQ (λz=>by subst z;rw[A] at q;cases q) q
theorem iC.j8{q}(hz:H z=aa (.lst (.ref q::xs)))(hd:iC a z H o raw):iC a z (Wo H z) o raw:=by
 obtain⟨dx,t,k,p,os,e,A,O,M,J,I,E⟩:=hd;exact#[dx,t,k,p,os,e,aQ (λy=>by subst y;rw[hz] at A;cases A) A,O.j8 hz,M.j8 hz,aQ E J,Paired.eJ I λx x ⟨e,q⟩=>#[e,q.j8 hz],E]
noncomputable def m9(room:Bool)(l:cB):Except D3 (ic×cB):=match l with
 |[]=>.error #[3,0]
 |x::r=>match dJ x with
  |none=>.error #[3,x.place]
  |some _=>if room=ai then mB (x::r) else .error #[4,x.place]
theorem Z3 c x (l:cB):lp c (x::l)=if (x.tok==.sign c)=ai then .ok l else .error #[3,x.place]:=Z
section
variable {w:aS}{base:aU}
inductive Qq(a:Ad)(vs:List V)(H:Hp)(Q:VK)(E:XK):Prop|m:∀(r lt:af)(room:Bool)(rest:cB),vs=[.ref r,.bl room]->cw a H r lt rest->(match m9 room rest with
 |.ok (raw,rest')=>∀H' o,ag (Wo H r) H'->cw a H' r lt rest'->(∀z,H z≠ae->iC a z H' o raw)->Q (.ref o) H'
 |.error f=>FX E a.Fault f.code f.place (Wo H r))->Qq a vs H Q E
theorem Qr(T:TX K mg a d):aV P w K mg base (e9 P w a.Fault) 48 a.ql d.ql ["reader","has_room"] (Qq a):=by
 refine T.ql.gL bE λnD cdv A outer s H vs Q E hr W h=>?_;obtain⟨r,lt,room,rest,rfl,hR,q⟩:=h;refine#[_,(ay (aM 2 (ek T.kI (BQ T) (ej W) (ah (pv 0) (ah (pv 1) ak))))
   (ay (aM 3 (ek T.sI (ZZ T) (ej W) (ah (pv 0) ak)))
   (ay (aM 4 (bU ak))
   (ay (cy (eZ (a_ T.mW (BN T) (ah (pv 0) (ah iO ak))) (λi=>Z)) (aF (aM 4 (ek T.sJ (Z0 T) (ej W) (ah (pv 0) ak)))) cC)
   (ay (dU (ek T.mX (BO T) (ej W) (ah (pv 0) (ah iO ak))))
   (aF (aZ (pMk T.qs T.Zw T.Zq (ZV T) (ah (pv 2) (ah (pv 3) (ah (pv 4) ak))))))))))),?_]
 obtain⟨x,l,rfl⟩:=hR.cons;refine#[_,Z,_,Z,r,lt,room,x,l,Z,hR,?_];delta m9 at q;dsimp only at q;cases hn:dJ x with
 |none=>rw[hn] at q;exact q
 |some b=>
  rw[hn] at q;dsimp only at q⊢;cases room with
  |false=>exact br q
  |true=>
   rw[aC Z,A8,hn] at q;refine bu λH1 t e S1 hR1 ht=>?_;dsimp only[aR,aN,L2.start];rw[BU hn] at ht;refine#[_,Z,r,lt,l,Z,hR1,?_];dsimp only at q;cases hk:lj l with
   |error f=>
    rw[hk] at q;exact FX.same (λb u e=>aQ (bh e).1 (S1 _ _ e)) q
   |ok kr=>
    obtain⟨kd,l2⟩:=kr;rw[hk] at q;intro H2 k S2 Y hkd;have S02:=oP S1 S2;have ht2:=(hR1.tok ht).same S2;dsimp only[aR,aN];refine#[c7 _,λp hp=>?_];dsimp only[aR,aN,cN];have Sp:ag H2 (upd H2 p (.lst [])):=ag.new hp;have hR3:=Y.same Sp;obtain⟨y,l3,rfl⟩:=Y.cons;have h124:=Fn (z:=124) Y.ok (by decide)
    have q:match(if (y.tok==vm 124)=ai then(mN 0 l3).bind λps=>(lp 59 ps.2).map λl=>((#[#[x.place,b],kd,ps.1]:ic),l) else(lp 59 (y::l3)).map λl=>((#[#[x.place,b],kd,[]]:ic),l)) with
     |.ok (raw,J)=>∀H' o,ag (Wo H r) H'->cw a H' r lt J->(∀z,H z≠ae->iC a z H' o raw)->Q (.ref o) H'
     |.error f=>FX E a.Fault f.code f.place (Wo H r):=q
    have fin:∀(M:Hp)(c:af)(os:List af)(ps:List nF)(l4:cB),ag (Wo H r) M->cw a M r lt l4->dw a.Token M t #[x.place,.name b] e->fq a M k kd->M c=aa (.lst (os.map V.ref))->oQ a.Token M os ps->(∀z,H z≠ae->c≠z)->
      (match(lp 59 l4).map λl=>((#[#[x.place,b],kd,ps]:ic),l) with
       |.ok (raw,J)=>∀H' o,ag (Wo H r) H'->cw a H' r lt J->(∀z,H z≠ae->iC a z H' o raw)->Q (.ref o) H'
       |.error f=>FX E a.Fault f.code f.place (Wo H r))->
      cN (Lq (vv (GA a) [] E (iQ (fF 0) (iQ (tC (.str ";")) jS)))) (mF (Ar a.lV (m8 a.lV 3 qw) [] E0 (iQ (fF 2) (iQ (fF 3) (iQ (fF 4) jS))))) {nx:=λi H'=>Q .bB H',rt:=Q} [aa (.ref r),aa (.bl ai),aa (.ref t),aa (.ref k),aa (.ref c)] M:=by
     intro M c os ps l4 S4 I ht4 hk4 hpp hN4 hz q;obtain⟨v,l5,rfl⟩:=I.cons;have h59:=Fn (z:=59) I.ok (by decide)
     refine#[_,Z,r,lt,_,[59],v,l5,Z,I,ux ";" (by decide +kernel),(by decide +kernel),(by decide),?_]
     rw[Z3] at q;by_cases hv:(v.tok==vm 59)=ai
     .rw[aC hv] at q;rw[aC (rF (h59.trans hv))];intro H5 v5 S5 hR5;have S05:=oP S4 S5;refine#[_,Z,_,Z,_,Z,λxo dx hx hdx hne=>#[xo,dx,_,Z,Z,aA,Z,?_]];rw[dI];have S6:ag H5 (upd (upd H5 dx (.own xo)) xo (.ins a.lV dx (qw [.ref t,.ref k,.ref c]))):=λb u e=>by
       rw[aB (bc e hx),aB (bc e hdx)];exact e
      exact q _ xo (S05.trans S6) (hR5.same S6) λz hzz=>#[dx,t,k,c,os,e,aA,((I.tok ht4).same S5).same S6,((I.kind hk4).same S5).same S6,S6 _ _ (S5 _ _ (I.lst hpp)),((I.names hN4).same S5).same S6,hz z hzz]
     .rw[aw hv] at q;rw[aw (λz=>hv (h59.symm.trans (bX z)))];exact FX.same (λb u e=>aQ (bh e).1 (S4 _ _ e)) q
    have none_of:∀{H':Hp}{z:af},ag (Wo H r) H'->cw a H r lt (x::l)->H z≠ae->z≠r->H' z≠ae:=λ{H' z} S i hz hzr h=>by
     cases e:H z with
     |none=>exact hz e
     |some u=>rw[S _ _ (aQ hzr e)] at h;cases h
    have pz:∀z,H z≠ae->p≠z:=λz hz y=>by
     subst y;by_cases U:p=r
     .subst U;obtain⟨dx',as,ts,n,g1,_⟩:=Y;rw[g1] at hp;cases hp
     .exact none_of S02 hR hz U hp
    refine pR (y.tok==.sign 124) (λR q'=>#[_,Z,r,lt,_,[124],y,l3,Z,hR3,ux "|" (by decide +kernel),(by decide +kernel),λM S4=>#[_,Z,by rw[h124];exact q' M S4]]) (λM S4=>?_)
    have O:=Sp.trans S4;have S04:=S02.trans O;have I:=Y.same O;by_cases hy:(y.tok==vm 124)=ai
    .rw[hy];rw[aC hy] at q;refine bu #[_,Z,r,lt,y,l3,Z,I,eq_of_beq hy,?_];cases htp:mN 0 l3 with
     |error f=>
      rw[htp] at q;exact FX.same (λb u e=>aQ (bh e).1 (S04 _ _ e)) q
     |ok pr=>
      obtain⟨ps,l4⟩:=pr;rw[htp] at q;intro H5 c os S5 hR5 hpn hpp hN5;have S05:=oP S04 S5;refine fin H5 c os ps l4 S05 hR5 ((I.tok (ht2.same O)).same S5) ((I.kind (hkd.same O)).same S5) hpp hN5 (λz hz y=>?_) q;subst y;by_cases U:c=r
      .subst U;obtain⟨dx',as,ts,n,g1,_⟩:=I;rw[g1] at hpn;cases hpn
      .exact none_of S04 hR hz U hpn
    .rw[aw hy] at q;have hy:(y.tok==vm 124)=az:=by simpa using hy
     rw[hy];refine br ?_;exact fin M p [] [] (y::l3) S04 I (ht2.same O) (hkd.same O) (S4 _ _ aA) .nil pz q
end
noncomputable def iV(l:List Nat):List V:=l.map λ(n:Nat)=>.int (n:Int)
theorem cY(l:List Nat):(iV l).length=l.length:=by unfold iV;rw[aJ]
theorem gS{l:List Nat}(h:(iV l)[i]? =aa y):∃n,l[i]? =aa n/\y=.int (n:Int):=by
 unfold iV at h;rw[bL] at h;cases e:l[i]? with
 |none=>rw[e] at h;cases h
 |some x=>rw[e] at h;exact#[x,Z,(bf h).symm]
inductive uA(a:Ad)(H:Hp)(o:af)(c:Column):Prop|m:∀dx nb k p,H o=aa (.ins a.Column dx (qx [.ref nb,.ref k,.ref p]))->H nb=aa (.lst (bV c.name))->fq a H k c.kind->H p=aa (.lst (iV c.parents))->uA a H o c
theorem uA.same(S:ag H H')(h:uA a H o c):uA a H' o c:=by
 obtain⟨dx,A,k,p,M,J,I,E⟩:=h;exact#[dx,A,k,p,S _ _ M,S _ _ J,I.same S,S _ _ E]
def ft(a:Ad)(H:Hp)(os:List af)(cs:List Column):Prop:=Paired (uA a H) os cs
theorem ft.same(S:ag H H')(h:ft a H os cs):ft a H' os cs:=Paired.eJ h λx x q=>q.same S
theorem ft.get(h:ft a H os cs)(A:cs[i]? =aa c):∃o,(os.map V.ref)[i]? =aa (.ref o)/\uA a H o c:=by
 obtain⟨o,I,E⟩:=Paired.at_ h A;exact#[o,by rw[bL,I];rfl,E]
def sS(cs:List Column):Prop:=∀c∈cs,lI c.kind
theorem fq.at_{k:af}(h:fq a H k kd):∃dx lo A f,H k=aa (.ins a.Kind dx (jx [.bl f,.int lo,.int A]))/\A-lo+1=N5 kd:=by
 cases kd with
 |flag=>obtain⟨dx,h⟩:=h;exact#[dx,0,1,_,h,Z]
 |num lo A=>obtain⟨dx,h⟩:=h;exact#[dx,lo,A,_,h,Z]
section
variable {w:aS}{base:aU}
inductive Qs(a:Ad)(vs:List V)(H:Hp)(Q:VK)(x_0:XK):Prop|m:∀(k:af)(kd:eE),vs=[.ref k]->fq a H k kd->lI kd->Q (.int (aD kd:Nat)) H->Qs a vs H Q x_0
theorem oR(T:TX K mg a d):aV P w K mg base bo 41 a.size_of d.size_of ["kind"] (Qs a):=by
 refine T.size_of.ok bE λnD S A outer s H vs Q E hr h=>?_;rcases h with⟨k,kd,rfl,M,J,q⟩;refine#[_,(aF (aZ (bg eK (bg rO (aK (pv 0) Z) (aK (pv 0) Z)) aX))),?_];rcases M.at_ with⟨dx,lo,O,f,I,R⟩;refine#[_,Z,k,_,dx,_,_,Z,I,T.js,T.BG,GB,_,Z,k,_,dx,_,_,Z,I,T.js,T.sO,uv,_,_,Z,Z,_,_,Z,Z,?_];show Q (.int (O-lo+1)) H;rw[R,N6 J];exact q
inductive Qt(a:Ad)(K:aP)(vs:List V)(H:Hp)(Q:VK)(x_0:XK):Prop|m:∀(cl p:af)(os:List af)(cs:List Column)(ps:List Nat),vs=[.ref cl,.ref p]->ao K H cl (os.map V.ref)->ft a H os cs->ao K H p (iV ps)->sS cs->(∀i∈ps,i<cs.length)->Q (.int (bw cs ps:Nat)) H->Qt a K vs H Q x_0
theorem vY(h:cs[i]? =aa c):dA cs i=aD c.kind:=by unfold dA;rw[h];rfl
theorem BV(T:TX K mg a d):aV P w K mg base bo 42 a.mT d.mT ["columns","parents"] (Qt a K):=by
 refine T.mT.ok bE λnD cdv A outer s H vs Q E hr h=>?_;obtain⟨cl,p,os,cs,ps,rfl,O,M,S,Y,hb,q⟩:=h;refine#[_,(ay (aM 2 aX)
   (ay (du dM Z (d_ (pv 1)) (bJ 3) (aF (aM 2 (bg gi (pv 2) (a_ T.size_of (oR T) (ah (aK (bt b8 (pv 0) (pv 3)) Z) ak))))))
   (aF (aZ (pv 2))))),?_]
 refine#[_,Z,p,Z,#[_,S],gf (a:=p) (xs:=iV ps) (λi z H'=>H'=H/\∃v,z=[aa (.ref cl),aa (.ref p),aa (.int (bw cs (ps.take i):Nat)),v]) #[Z,ae,Z] (λi z H' x ⟨e,_⟩=>by rw[e];exact S) ?_ ?_]
 .rintro i y z H' b ⟨rfl,v,rfl⟩;obtain⟨n,U,rfl⟩:=gS b;have J:=hb n (dg U);obtain⟨c,R⟩:∃c,cs[n]? =aa c:=#[_,aY J];rcases M.get R with⟨o,V,dx,nb,k,pp,h1,h2,h3,h4⟩;have I:=Y c (dg R);have hsz:=size_pos I;refine#[_,Z,_,Z,_,Z,cl,_,_,_,Z,Z,O,bY V,o,_,dx,_,_,Z,h1,T.ez,T.i5,jy,k,c.kind,Z,h3,I,_,_,Z,Z,.of_right (uX (by lia) (by lia)),Z,aa (.int (n:Int)),?_]
  rw[take_snoc U,N8,vY R];rfl
 .rintro z H' ⟨rfl,v,rfl⟩;refine#[_,Z,?_];rw[cY,eV];exact q
end
theorem Qu(x:Nat):∀l:List Nat,nQ (.int (x:Int)) (iV l)=l.contains x
 |[]=>Z
 |y::l=>by
  have A:=Qu x l;unfold nQ iV at A⊢;rw[b7,l7,A,yQ]
  congr 1
  show decide ((y:Int)=(x:Int))=(x==y);rw[gu,Ae,fJ];lia
theorem Qv:∀l:List Nat,(iV l).all iR=ai
 |[]=>Z
 |y::l=>by unfold iV;rw[b7,yO];exact B9.mpr #[Z,Qv l]
noncomputable def sT(cs:List Column)(b:cA):Option Nat:=cs.findIdx? λc=>c.name==b
noncomputable def jz(cs:List Column):List cA:=cs.map λc=>c.name
theorem Z4{b:cA}(h:sT cs b=ae):(jz cs).contains b=az:=by
 unfold sT at h;rw[Hv] at h;rw[uG];intro A;rw[yR] at A;obtain⟨c,E,rfl⟩:=bK.mp A;have:=h c E;simp at this
theorem Z5{b:cA}(h:sT cs b=aa i):(jz cs).contains b=ai/\i<cs.length/\((jz cs).map bD)[i]? =aa (bD b)/\∀(m:Nat)(I:g_),m<i->((jz cs).map bD)[m]? =aa I->hJ I (bD b)=az:=by
 unfold sT at h;rw[yT] at h;rcases h with⟨E,R,O⟩;have M:cs[i].name=b:=by simpa using R
 refine#[?_,E,?_,λm I J A=>?_]
 .rw[yR];exact bK.mpr #[_,ff E,M]
 .unfold jz;rw[eU,bL,aY E,<-M];rfl
 .unfold jz at A;rw[eU,bL,aY (gy J E)] at A;have A:=bf A;rw[<-A];show hJ (bD _) _=_;rw[uu];exact bO λz=>O m J (by simpa using z)
section
variable {w:aS}{base:aU}
inductive Qw(a:Ad)(K:aP)(vs:List V)(H:Hp)(Q:VK)(E:XK):Prop|m:∀(t nl pl:af)(n:nF)(e:Nat)(ns:List af)(cs:List Column)(l:List Nat),vs=[.ref t,.ref nl,.ref pl]->dw a.Token H t #[n.place,.name n.name] e->ao K H nl (ns.map V.ref)->kP H ns (jz cs)->ao K H pl (iV l)->(match sT cs n.name with
 |none=>FX E a.Fault 6 n.place H
 |some i=>if l.contains i=ai then FX E a.Fault 5 n.place H else Q (.int (i:Nat)) H)->Qw a K vs H Q E
theorem Z6(T:TX K mg a d):aV P w K mg base (e9 P w a.Fault) 44 a.og d.og ["token","names","parents"] (Qw a K):=by
 refine T.og.gL bE λnD M A outer s H vs Q E hr W h=>?_;rcases h with⟨t,nl,pl,n,e,ns,cs,l,rfl,ht,J,hns,bC,q⟩;have hu:=by
  have:=hr.un;show(A.deeper (jH "settled_parent" (gK (top 101)) s.heap.objs.size a.og M)).units+1+64<gC;lia
 have hv:(A.deeper (jH "settled_parent" (gK (top 101)) s.heap.objs.size a.og M)).units+128<gC:=by
  have:=hr.un;lia
 refine#[_,(ay (cy (b9 (Xq hu) (aK (pv 0) Z) (pv 1) (by with_unfolding_all rfl)) (aF (jn T.xt (ju T) T.fo.b (dW hr) Z W Z T.i4 (ah (bZ Z T.YV) (ah (aK (pv 0) Z) ak)))) cC)
   (ay (aM 3 (eP eO zH Kc (Xr hv) (pv 1) (ah (aK (pv 0) Z) ak)))
   (ay (cy (b9 EH (pv 3) (pv 2) (by with_unfolding_all rfl)) (aF (jn T.xt (ju T) T.fo.b (dW hr) Z W Z T.i4 (ah (bZ Z T.Pm) (ah (aK (pv 0) Z) ak)))) cC)
   (aF (aZ (pv 3)))))),?_]
 rcases ht with⟨c,⟨dx,I⟩,hc⟩;have O:∀e'∈(jz cs).map bD,ku e'=ai:=λe' he'=>by
  obtain⟨b',_,rfl⟩:=bK.mp he';exact kN b'
 have S:=kP.dp (K:=K) hns;have U:Dp K H (.ref c) (bD n.name):=oK (ao.of hc);refine cX (!(jz cs).contains n.name) (λR f=>#[_,Z,t,_,dx,_,_,Z,I,T.dP,T.j4,kO,_,Z,nl,_,_,bD n.name,Z,J,S,U,kN _,O,_,Z,?_]) ?_
 .rw[aC Z,BP];exact f
 cases Y:sT cs n.name with
 |none=>
  rw[Y] at q;rw[Z4 Y];exact bu #[_,Z,t,_,dx,_,_,Z,I,T.dP,T.mZ,oM,_,_,Z,q]
 |some i=>
  rw[Y] at q;rcases Z5 Y with⟨h1,h2,h3,h4⟩;rw[h1];refine br ?_;dsimp only[di];refine#[_,Z,.inl #[Z,_,J],_,Z,t,_,dx,_,_,Z,I,T.dP,T.j4,kO,nl,_,_,_,bD n.name,bD n.name,i,Z,Z,J,S,U,kN _,O,h3,by rw[uu];simp,h4,?_]
  dsimp only[aR,aN,cN,L2.start];refine cX (l.contains i) (λR f=>#[_,Z,_,Z,pl,_,Z,.inl bC,Z,Qv l,_,Z,?_]) ?_
  .rw[aw cZ,Qu];exact f
  dsimp only at q;cases V:l.contains i with
  |true=>
   rw[V,aC Z] at q;exact bu #[_,Z,t,_,dx,_,_,Z,I,T.dP,T.mZ,oM,_,_,Z,q]
  |false=>
   rw[V,aw cZ] at q;exact br #[_,Z,q]
end
end CC
namespace L2
open CC (Wo aQ bh cU)
theorem qy{e:bW}{f:au}(w:PE X e ta)(A:o8 e f X.env (bT e X.env)=bT e X.env)(E:X.K=K:=by rfl):PE X (.Attribute e f pos) (Ap K ta f):=E▸aK w A
theorem Z7(w:X.K=K:=by rfl):ly X (xr K):=w▸b8
theorem Qx(w:X.K=K:=by rfl):ly X (As K):=w▸ec
theorem i7{w:TI}{σ:St}(h:w σ H λJ H1=>LcK J g te vs σ H1 Q):t8 w g xB te vs σ H Q:=h
theorem Qy{J:It}{σ:St}(n:Nat)(X:Nat->V->Prop)(F:Nat->List V->Hp->Prop)(hn:n<bp)(Z:∀i H,i<n->ag H1 H->J.go i H)(I:∀H,ag H1 H->J.stop n H)(hy:∀i H x H',i<n->ag H1 H->J.kA i H x H'->H'=H/\X i x)(hm:∀i ys H H',ag H H'->F i ys H->F i ys H')(h0:F 0 [] H1)(hw:∀x,wipe ((wipe σ vs).set j (aa x)) vs=wipe σ vs)(hs:∀D i x H ys,i<n->H1 D=ae->H D=aa (.lst ys)->ag H1 (Wo H D)->ys.length=i->F i ys (Wo H D)->X i x->∀R:VK,(∀y U,ag H U->F (i+1) (ys++[y]) (Wo U D)->R y U)->te ((wipe σ vs).set j (aa x)) H R)(hd:∀D H ys,H1 D=ae->ag H1 H->ag H1 (Wo H D)->H D=aa (.lst ys)->ys.length=n->F n ys (Wo H D)->Q (.ref D) H):LcK J (aR j) te vs σ H1 Q:=by
 have E:∀{D H},H1 D=ae->ag H1 (Wo H D)->ag H1 H:=λ{D H} z S=>λb u e=>(bh (S _ _ e)).2;refine AX n (λD i H=>H1 D=ae/\ag H1 (Wo H D)/\∃ys,H D=aa (.lst ys)/\ys.length=i/\F i ys (Wo H D)) (λD w=>?_) (λD i H T ⟨w,S,_⟩=>Z i H T (E w S)) (λD H ⟨w,S,_⟩=>I H (E w S)) ?_ Fg ?_
 .have S:ag H1 (Wo (upd H1 D (.lst [])) D):=λb u e=>aQ (bc e w) (by rw[aB (bc e w)];exact e)
  exact#[w,S,[],aA,rfl,hm _ _ _ _ S h0]
 .rintro D i H T ⟨w,S,ys,A,O,hF⟩ x H' Y;obtain⟨rfl,hx⟩:=hy i H x H' T (E w S) Y;refine#[hw x,hs D i x H' ys T w A S O hF hx _ λy U S4 hF4=>#[ys,S4 _ _ A,by lia,w,λb u e=>?_,ys++[y],aA,by rw[b6,O];rfl,hm _ _ _ _ (λb u e=>?_) hF4]]
  .obtain⟨M,e2⟩:=bh (S _ _ e);exact aQ M (by rw[aB M];exact S4 _ _ e2)
  .obtain⟨M,e2⟩:=bh e;exact aQ M (by rw[aB M];exact e2)
 .rintro D H ⟨w,S,ys,A,O,hF⟩;exact hd D H ys w (E w S) S A O hF
theorem qz{c:af}{σ:St}(F:Nat->List V->Hp->Prop)(A:ao K H1 c xs)(J:xs.length<bp)(M:∀i ys H H',ag H H'->F i ys H->F i ys H')(Z:F 0 [] H1)(hw:∀x,wipe ((wipe σ vs).set j (aa x)) vs=wipe σ vs)(I:∀D i x H ys,xs[i]? =aa x->H1 D=ae->H D=aa (.lst ys)->ag H1 (Wo H D)->ys.length=i->F i ys (Wo H D)->∀R:VK,(∀y E,ag H E->F (i+1) (ys++[y]) (Wo E D)->R y E)->te ((wipe σ vs).set j (aa x)) H R)(hd:∀D H ys,H1 D=ae->ag H1 H->ag H1 (Wo H D)->H D=aa (.lst ys)->ys.length=xs.length->F xs.length ys (Wo H D)->Q (.ref D) H):LcK (Itl K c) (aR j) te vs σ H1 Q:=
 Qy xs.length (λi x=>xs[i]? =aa x) F J (λi H T S=>#[xs,xs[i],S.seq A,aY T]) (λH S=>#[xs,S.seq A,bb _]) (λi H x H' z S ⟨e,q⟩=>#[e,q _ (e▸S.seq A)]) M Z hw
  (λD i x H ys z Y w S O U hx=>I D i x H ys hx Y w S O U) hd
theorem yq{lo:Int}{σ:St}(F:Nat->List V->Hp->Prop)(J:n<bp)(M:∀i ys H H',ag H H'->F i ys H->F i ys H')(Y:F 0 [] H1)(hw:∀x,wipe ((wipe σ vs).set j (aa x)) vs=wipe σ vs)(I:∀D i H ys,i<n->H1 D=ae->H D=aa (.lst ys)->ag H1 (Wo H D)->ys.length=i->F i ys (Wo H D)->∀R:VK,(∀y E,ag H E->F (i+1) (ys++[y]) (Wo E D)->R y E)->te ((wipe σ vs).set j (aa (.int (lo+i)))) H R)(hd:∀D H ys,H1 D=ae->ag H1 H->ag H1 (Wo H D)->H D=aa (.lst ys)->ys.length=n->F n ys (Wo H D)->Q (.ref D) H):LcK (Itr lo n) (aR j) te vs σ H1 Q:=
 Qy n (λi x=>x=.int (lo+i)) F J (λi H A S=>A) (λH S=>bb _) (λi H x H' z S ⟨e,q⟩=>#[e,q]) M Y hw
  (λD i x H ys A U w S O T hx=>by subst hx;exact I D i H ys A U w S O T) hd
end L2
namespace CC
section
variable {w:aS}{base:aU}
inductive Qz(a:Ad)(K:aP)(vs:List V)(H:Hp)(Q:VK)(E:XK):Prop|m:∀(o cl z:af)(H0:Hp)(raw:ic)(os:List af)(cs:List Column),vs=[.ref o,.ref cl]->ag H0 H->iC a z H0 o raw->H cl=aa (.lst (os.map V.ref))->ft a H os cs->sS cs->lI raw.kind->cs.length<=1000->raw.parents.length<=1000->(match pV cs raw with
 |.error f=>FX E a.Fault f.code f.place H
 |.ok ps=>∀H' o',ag H H'->(∃dx nb k p,H' o'=aa (.ins a.Column dx (qx [.ref nb,.ref k,.ref p]))/\H0 nb=aa (.lst (bV raw.name.name))/\fq a H0 k raw.kind/\H p=ae/\H' p=aa (.lst (iV ps))/\H o'=ae)->Q (.ref o') H')->Qz a K vs H Q E
theorem Z8(T:TX K mg a d):aV P w K mg base (e9 P w a.Fault) 46 a.settled d.settled ["draft","earlier"] (Qz a K):=by
 refine T.settled.gL bE λnD cdv A outer s H vs Q E hr W h=>?_;rcases h with⟨o,cl,z,H0,raw,os,cs,rfl,S0,hdr,hcl,hcs,hks,hkd,hclen,hplen,q⟩;have hu:=by
  have:=hr.un;show(A.deeper (jH "settled" (gK (top 100)) s.heap.objs.size a.settled cdv)).units+1+64<gC;lia
 refine#[_,(ay (pN (i:=2) Z nD Z Z Z (d_ (pv 1)) (own:=[("column",3)]) T.settled.s.c9 (λn n n n n=>(bJ 3)) (λn n n n n=>gh) (λn n n n n=>(qy (K:=K) (pv 3) Z)))
   (ay (cy (b9 (NS hu) (aK (aK (pv 0) Z) Z) (pv 2) (by with_unfolding_all rfl)) (aF (jn T.xt (ju T) T.fo.b (dW hr) Z W Z T.i4 (ah (bZ Z T.Pm) (ah (aK (aK (pv 0) Z) Z) ak)))) cC)
   (ay (aM 4 (bU ak))
   (ay (du kq Z (d_ (aK (pv 0) Z)) (bJ 5) (aF (dU (eP eO je jf jl (pv 4) (ah (ek T.og (Z6 T) (ej W) (ah (pv 5) (ah (pv 2) (ah (pv 4) ak)))) ak)))))
   (ay (cy (b9 nP (bg gi (a_ T.size_of (oR T) (ah (aK (pv 0) Z) ak)) (a_ T.mT (BV T) (ah (pv 1) (ah (pv 4) ak)))) (bZ Z T.Y3) (cu _)) (aF (jn T.xt (ju T) T.fo.b (dW hr) Z W Z T.i4 (ah (bZ Z T.YW) (ah (aK (aK (pv 0) Z) Z) ak)))) cC)
   (aF (aZ (pMk T.qm T.Zs T.Zm (ZW T) (ah (aK (aK (pv 0) Z) Z) (ah (aK (pv 0) Z) (ah (pv 4) ak))))))))))),?_]
 rcases hdr with⟨dd,t,k,p,ts,e,hD,⟨nb,⟨dt,hT⟩,hnb⟩,hK,hp,hN,_⟩;have hlen:=bS hcs;dsimp only[cN,jk];refine i7 #[_,Z,cl,Z,#[_,ao.of hcl],?_];refine qz (xs:=os.map V.ref) (λi ys H'=>∃ns:List af,ys=ns.map V.ref/\kP H' ns (jz (cs.take i))) (ao.of hcl) (by rw[aJ,hlen,bQ];lia) (λi ys H H' S ⟨ns,h1,h2⟩=>#[ns,h1,h2.same S]) #[[],Z,.nil] ?_ ?_ ?_
 .exact λn=>Z
 .rintro D i x H1 ys hx hD1 hys g hl ⟨ns,rfl,M⟩ R hR;have hi:i<cs.length:=by have:=(bx.mp hx).1;rw[aJ] at this;simp_all
  rcases hcs.get (aY hi) with⟨o1,ho1,dx,nb1,k1,p1,g1,g2,g3,g4⟩;obtain rfl:V.ref o1=x:=by rw[hx] at ho1;exact(bf ho1).symm
  refine#[_,Z,o1,_,dx,_,_,Z,(bh (g _ _ g1)).2,T.ez,T.BH,GC,hR _ _ (ag.refl _) #[ns++[nb1],by rw[bR];rfl,?_]]
  delta jz at M⊢;rw[qJ,aY hi,bR];exact eX M (g _ _ g2)
 .rintro D H1 ys hD1 g _ hys hl r;rcases r with⟨ns,rfl,M⟩;rw[aJ,hlen,eV] at M;have M:=M.same cU;dsimp only[aR,aN,L2.start,cN];have Y:=g _ _ (S0 _ _ hD);have htt1:=g _ _ (S0 _ _ hT);have hdp:=kP.dp (K:=K) M;have hsh:∀e'∈(jz cs).map bD,ku e'=ai:=λe' he'=>by
   obtain⟨b',_,rfl⟩:=bK.mp he';exact kN b'
  refine cX ((jz cs).contains raw.name.name) (λR q'=>#[_,Z,o,_,dd,_,_,Z,Y,T.oH,T.yi,BR,t,_,dt,_,_,Z,htt1,T.dP,T.j4,kO,_,Z,D,_,_,bD raw.name.name,Z,ao.of hys,hdp,oK (ao.of (g _ _ (S0 _ _ hnb))),kN _,hsh,_,Z,?_]) ?_
  .rw[aw cZ,BP];exact q'
  delta pV at q;have hnm:(cs.any λc=>c.name==raw.name.name)=(jz cs).contains raw.name.name:=(XR ..).symm;rw[hnm] at q;cases hc:(jz cs).contains raw.name.name with
  |true=>
   rw[hc,aC Z] at q;exact bu #[_,Z,o,_,dd,_,_,Z,Y,T.oH,T.yi,BR,t,_,dt,_,_,Z,htt1,T.dP,T.mZ,oM,_,_,Z,FX.same g q]
  |false=>
   rw[hc,aw cZ] at q;refine br ?_;dsimp only[di];refine#[c7 _,λpn hpn0=>?_];dsimp only[aR,aN,cN];have Sn:ag H1 (upd H1 pn (.lst [])):=ag.new hpn0;have Sw:∀{H':Hp},ag H1 (Wo H' pn)->ag H1 H':=λS=>S.trans cU;refine#[_,Z,o,_,dd,_,_,Z,Sn _ _ Y,T.oH,T.PU,ZS,p,Z,#[_,ao.of (Sn _ _ (g _ _ (S0 _ _ hp)))],gf (a:=p) (xs:=ts.map V.ref) (λi X H'=>ag H1 (Wo H' pn)/\∃l v,X=[aa (.ref o),aa (.ref cl),aa (.ref D),ae,aa (.ref pn),v]/\H' pn=aa (.lst (iV l))/\xT cs l/\l.length<=i/\pB cs [] raw.parents=pB cs l (raw.parents.drop i)) ?_ ?_ ?_ ?_]
   .exact#[λb u e=>aQ (bc e hpn0) (Sn _ _ e),[],ae,Z,aA,#[λn h=>(dB h).elim,mi],bb _,Z]
   .rintro i X H' _ ⟨S,_⟩;exact ao.of (Sw S _ _ (g _ _ (S0 _ _ hp)))
   .rintro i y X H' hy r;rcases r with⟨S,l,v,rfl,hl,ax,hll,I⟩;have O:=bS hN;have hi:i<raw.parents.length:=by have:=(bx.mp hy).1;rw[aJ] at this;simp_all
    rcases Paired.at_ hN (aY hi) with⟨ti,hti,ei,htok⟩;obtain rfl:y=V.ref ti:=by rw[bL,hti] at hy;exact(bf hy).symm
    have S':=Sw S;dsimp only[aR,aN];refine#[_,Z,.inl #[Z,_,ao.of hl],_,Z,_,Z,_,Z,ti,D,pn,raw.parents[i],ei,ns,cs,l,Z,(htok.same S0).same (g.trans S'),ao.of (S' _ _ hys),M.same S',ao.of hl,?_];rw[tf hi,N_] at I;have hnm2:(cs.findIdx? λc=>c.name==raw.parents[i].name)=sT cs raw.parents[i].name:=Z;rw[hnm2] at I;cases hix:sT cs raw.parents[i].name with
    |none=>
     rw[hix] at I;rw[I] at q;exact FX.same (g.trans S') q
    |some j=>
     rw[hix] at I;dsimp only at I⊢;cases hcj:l.contains j with
     |true=>
      rw[hcj,aC Z] at I;rw[I] at q;exact bu (FX.same (g.trans S') q)
     |false=>
      rw[hcj,aw cZ] at I;refine br #[pn,_,_,Z,Z,hl,by rw[cY,bQ];lia,?_]
      refine#[λb u e=>?_,l++[j],_,Z,by rw[aA];delta iV;rw[bR];rfl,?_,by rw[b6];simp;omega,I]
      .obtain⟨e1,e2⟩:=bh (S _ _ e);exact aQ e1 (by rw[aB e1];exact e2)
      .refine#[λm hm=>?_,?_]
       .obtain hm|hm:=df.mp hm
        .exact ax.1 m hm
        .rw[cj] at hm;subst hm;exact Oa hix
       .rw[oV];exact#[ax.2,by simp,λx hx y hy=>by rw[cj] at hy;subst hy;exact λz=>by rw[z] at hx;rw[yR.mpr hx] at hcj;cases hcj]
   .rintro X H2 r;rcases r with⟨S,ps,v,rfl,hl,ax,hll,I⟩;have S2:=Sw S;have O:=bS hN;rw[aJ,O,Cj] at I;have I:=I;rw[I] at q;have S02:=g.trans S2;have U:=S2 _ _ Y;have htt2:=S2 _ _ htt1;have hsz:=size_pos hkd;have q:match(if 512<aD raw.kind*bw cs ps then(.error #[12,raw.name.place]:Except D3 (List Nat)) else .ok ps) with
     |.error f=>FX E a.Fault f.code f.place H
     |.ok ps=>∀H' o',ag H H'->(∃dx nb k p,H' o'=aa (.ins a.Column dx (qx [.ref nb,.ref k,.ref p]))/\H0 nb=aa (.lst (bV raw.name.name))/\fq a H0 k raw.kind/\H p=ae/\H' p=aa (.lst (iV ps))/\H o'=ae)->Q (.ref o') H':=q
    dsimp only[cN];refine cX (decide (512<aD raw.kind*bw cs ps)) (λR q'=>#[_,Z,o,_,dd,_,_,Z,U,T.oH,T.Gp,Qj,k,raw.kind,Z,(hK.same S0).same S02,hkd,_,Z,_,Z,cl,pn,os,cs,ps,Z,ao.of (S02 _ _ hcl),hcs.same S02,ao.of hl,hks,ax.1,_,_,Z,Z,.of_left (uX (by lia) (by lia)),_,_,Z,Z,_,Z,?_]) ?_
    .rw[show decide ((512:Int)<(aD raw.kind:Nat)* (bw cs ps:Nat))=decide (512<aD raw.kind*bw cs ps) by rw[d9,<-fH];lia]
     exact q'
    by_cases J:512<aD raw.kind*bw cs ps
    .rw[bX J];rw[aC J] at q;exact bu #[_,Z,o,_,dd,_,_,Z,U,T.oH,T.yi,BR,t,_,dt,_,_,Z,htt2,T.dP,T.mZ,oM,_,_,Z,FX.same S02 q]
    .rw[bO J];rw[aw J] at q;refine br #[_,Z,o,_,dd,_,_,Z,U,T.oH,T.yi,BR,t,_,dt,_,_,Z,htt2,T.dP,T.j4,kO,_,Z,o,_,dd,_,_,Z,U,T.oH,T.Gp,Qj,_,Z,λxo dx hx hdx hne=>#[xo,dx,_,Z,Z,aA,Z,?_]];rw[dI];have S6:ag H2 (upd (upd H2 dx (.own xo)) xo (.ins a.Column dx (qx [.ref nb,.ref k,.ref pn]))):=λb u e=>by
      rw[aB (bc e hx),aB (bc e hdx)];exact e
     have nn:∀{b:af},H1 b=ae->H b=ae:=λ{b} h=>by
      cases e:H b with
      |none=>rfl
      |some u=>rw[g _ _ e] at h;cases h
     have nn2:∀{b:af},H2 b=ae->H b=ae:=λ{b} h=>by
      cases e:H b with
      |none=>rfl
      |some u=>rw[S02 _ _ e] at h;cases h
     exact q _ xo (S02.trans S6) #[dx,nb,k,pn,aA,hnb,hK,nn hpn0,S6 _ _ hl,nn2 hx]
end
theorem QA x (l:cB):m9 ai (x::l)=mB (x::l):=by
 delta m9
 try dsimp only
 cases h:dJ x with
 |none=>rw[A8,h]
 |some b=>rfl
theorem Z9 x (l:cB):tcR 0 (x::l)=(m9 ai (x::l)).bind λy=>n0 [y.1] y.2:=by
 delta tcR;rw[vI,aw (λh=>i_ _ h.2),aw (λh=>by have h:=h.2;have E:z6=6:=Z;simp_all),QA]
 cases A:mB (x::l) with
 |error e=>rfl
 |ok y=>
  have:=(xV A).1.len;show(iL (x::l).length 1 y.2).map _=(tcR 1 y.2).map _;delta tcR;rw[Fs _ (y.2.length+1) 1 y.2 this (iH _)];rfl
theorem Z_{pre:List ic}{l:cB}(A:0<pre.length)(h:x.tok=.halt_):n0 pre (x::l)=.ok pre:=by
 have E:=by show(x.tok==.halt_)=ai;rw[h];rfl
 delta n0 tcR;rw[vI,aC #[E,A]];show s_ (pre++[])=_;rw[l8]
theorem aaa{pre:List ic}{l:cB}(O:0<pre.length)(h:x.tok≠.halt_):n0 pre (x::l)=(m9 (decide (pre.length<6)) (x::l)).bind λy=>n0 (pre++[y.1]) y.2:=by
 have E:=λz=>h (eq_of_beq z);have M:z6=6:=Z;delta n0 tcR;rw[vI,aw (λz=>E z.1),A7,M];by_cases A:pre.length<6
 .rw[aw (λz=>by lia),bX A,QA]
  cases I:mB (x::l) with
  |error e=>rfl
  |ok y=>
   have:=(xV I).1.len;show((iL (x::l).length (pre.length+1) y.2).map _).map _=(iL (y.2.length+1) (pre++[y.1]).length y.2).map _;rw[Fs _ (y.2.length+1) _ y.2 this (iH _),b6,kT];cases iL (y.2.length+1) (pre.length+1) y.2 with
   |error e=>rfl
   |ok r=>show s_ (pre ++y.1::r)=s_ ((pre++[y.1]) ++r);rw[kf];rfl
 .rw[bO A];delta m9
  try dsimp only
  cases J:dJ x with
  |none=>
   rw[aw (λz=>by cases z.1),A8,J];rfl
  |some b=>rw[aC #[Z,by simp_all]];rfl
theorem aab{room}{l l'}{x}(h:m9 room l=.ok (x,l')):l'.length<l.length/\room=ai:=by
 delta m9 at h;cases l with
 |nil=>cases h
 |cons y l=>
  dsimp only at h;cases A:dJ y with
  |none=>rw[A] at h;cases h
  |some b=>
   rw[A] at h;cases room with
   |true=>rw[aC Z] at h;exact#[(xV h).1.len,Z]
   |false=>cases h
theorem aac  x :(!decide (V.str (formOf x)=V.str "end"))=!(x==.halt_):=by
 congr 1
 cases x with
 |name b=>rw[bO (λz=>by injection z with z;exact absurd z (show ¬(("word":au)="end") by decide +kernel))];rfl
 |num n=>rw[bO (λz=>by injection z with z;exact absurd z (show ¬(("number":au)="end") by decide +kernel))];rfl
 |sign n=>rw[bO (λz=>by injection z with z;exact absurd z (show ¬(("sign":au)="end") by decide +kernel))];rfl
 |halt_=>exact bX Z
inductive oS(a:Ad)(H:Hp)(o:af)(m:dz):Prop|m:∀dx tb cl os,H o=aa (.ins a.Model dx (vX [.ref tb,.ref cl]))->H tb=aa (.lst (bV m.title))->H cl=aa (.lst (os.map V.ref))->ft a H os m.columns->oS a H o m
theorem oS.same(S:ag H H')(h:oS a H o m):oS a H' o m:=by
 obtain⟨dx,tb,cl,os,J,I,E,A⟩:=h;exact#[dx,tb,cl,os,S _ _ J,S _ _ I,S _ _ E,A.same S]
def QB(a:Ad)(z:af)(H:Hp)(os:List af)(A:List ic):Prop:=Paired (λo r=>iC a z H o r) os A
section
variable {w:aS}{base:aU}
inductive QC(a:Ad)(K:aP)(vs:List V)(H:Hp)(Q:VK)(E:XK):Prop|m:∀(p:af)(b:cA),vs=[.ref p]->ao K H p (bV b)->b.length<=8192->(match nI b with
 |.ok m=>∀H' o,ag H H'->oS a H' o m->Q (.ref o) H'
 |.error f=>FX E a.Fault f.code f.place H)->QC a K vs H Q E
theorem aad(T:TX K mg a d):aV P w K mg base (e9 P w a.Fault) 50 a.sH d.sH ["text"] (QC a K):=by
 refine T.sH.gL bE λnD cdv A outer s H vs Q E hr W h=>?_;obtain⟨p,b,rfl,hS,hb,q⟩:=h;refine#[_,(ay (aM 1 (pMk T.qr T.Zv T.Zp (ZY T) (ah (ek T.sj (ZN T) (ej W) (ah (pv 0) ak)) ak)))
   (ay (dU (ek T.mX (BO T) (ej W) (ah (pv 1) (ah iO ak))))
   (ay (aM 2 (ek T.kI (BQ T) (ej W) (ah (pv 1) (ah rJ ak))))
   (ay (aM 3 (bU (ah (ek T.ql (Qr T) (ej W) (ah (pv 1) (ah rJ ak))) ak)))
   (ay (pI kq (b9 jR (aK (mJ (pv 1) T.gn T.gm.m (vW T) (dW hr) T.gm.b .nil iT) Z) (pQ Z T.Py) (cu _)) (aF (dU (eP eO je jf jl (pv 3) (ah (ek T.ql (Qr T) (ej W) (ah (pv 1) (ah (An kB (cz (c8) Z T.de c_ (ah (pv 3) ak)) (bZ Z T.Y1) (cu _)) ak))) ak)))))
   (ay (aM 4 (bU ak))
   (ay (du kq Z (d_ (pv 3)) (bJ 5) (aF (dU (eP eO je jf jl (pv 4) (ah (ek T.settled (Z8 T) (ej W) (ah (pv 5) (ah (pv 4) ak))) ak)))))
   (aF (aZ (pMk T.qo T.Zt T.Zn (ZX T) (ah (aK (pv 2) Z) (ah (pv 4) ak)))))))))))),?_]
 refine#[_,Z,p,b,Z,hS,hb,?_];cases ht:D7 b with
 |error f=>
  have:nI b=.error f:=by unfold nI;rw[ht];rfl
  rw[this] at q;exact q
 |ok ts=>
  intro H1 lt as S1 hlt0 hlt hts r dr hr0 hdr0 hne;obtain⟨hend,htok,htl⟩:=XI ht;refine#[r,dr,_,Z,aA,Z,?_];rw[dI];dsimp only[aR,aN,L2.start,cN];generalize hH2:upd (upd H1 dr (.own r)) r (.ins a.Reader dr (iB (.ref lt) (.int 0)))=H2;have S12:ag H1 H2:=λb u e=>by rw[<-hH2,aB (bc e hr0),aB (bc e hdr0)];exact e
  have S02:=S1.trans S12;have hrn:=S1.free hr0;have hR:cw a H2 r lt ts:=#[dr,as,ts,0,by rw[<-hH2];exact aA,S12 _ _ hlt,j6.same (λb u e=>S12 _ _ (jw (bh e).2).2) hts,Z,hend,htok,by lia]
  have keep:∀{H' H''},ag H H'->ag (Wo H' r) H''->ag H H'':=λ{H' H''} S S' b u e=>S' _ _ (aQ (bc e hrn) (S _ _ e));obtain⟨x,l,rfl⟩:=hR.cons;refine#[_,Z,r,lt,_,gF "table",x,l,Z,hR,ux "table" (by decide +kernel),(by decide +kernel),(by decide +kernel),?_]
  have htab:decide (content x.tok=aa (gF "table"))=(x.tok==.name (gF "table")):=Fm hR.ok (by decide +kernel)
  have hnext:VaprbBase.takeWord "table" (x::l)=if (x.tok==.name (gF "table"))=ai then .ok l else .error #[3,x.place]:=Z
  by_cases hx:¬(x.tok==vl (gF "table"))=ai
  .rw[aw (λz=>hx (htab.symm.trans (bX z)))];have:ig (x::l)=.error #[3,x.place]:=by unfold ig;rw[hnext,aw hx];rfl
   rw[xW ht this] at q;exact FX.same (λb u e=>aQ (bc e hrn) (S02 _ _ e)) q
  have hx:=Classical.not_not.mp hx;rw[aC (rF (htab.trans hx))];rw[aC hx] at hnext;intro H3 v3 S3 hR3;have S03:=keep S02 S3;obtain⟨y,l2,rfl⟩:=hR3.cons;refine#[_,Z,r,lt,ai,y,l2,Z,hR3,?_];cases hy:dJ y with
  |none=>
   have:ig (x::y::l2)=.error #[3,y.place]:=by
    unfold ig;rw[hnext];show((nG (y::l2)).bind _)=_;rw[uf,hy];rfl
   rw[xW ht this] at q;exact FX.same (λb u e=>aQ (bc e hrn) (S03 _ _ e)) q
  |some nm=>
   have J:ig (x::y::l2)=(tcR 0 l2).map λr=>(nm,r):=by
    unfold ig;rw[hnext];show((nG (y::l2)).bind _)=_;rw[uf,hy];rfl
   show if ai=ai then _ else _
   rw[aC Z];intro H4 t e S4 hR4 htk;have S04:=keep S03 S4;rw[BU hy] at htk;dsimp only[aR,aN];obtain⟨z,l3,rfl⟩:=hR4.cons;refine#[_,Z,r,lt,ai,_,Z,hR4,?_];rw[Z9] at J;cases hc:m9 ai (z::l3) with
   |error f=>
    rw[hc] at J;rw[xW ht J] at q;exact FX.same (λb u e=>aQ (bc e hrn) (S04 _ _ e)) q
   |ok cl=>
    obtain⟨raw,l4⟩:=cl;rw[hc] at J;have J:ig (x::y::z::l3)=(n0 [raw] l4).map λr=>(nm,r):=J;intro H5 o5 S5 hR5 hd5;have S05:=keep S04 S5;have htk5:=(hR4.tok htk).same S5;refine#[cb,λdl hdl=>?_]
    dsimp only[aR,aN];have Sdl:ag H5 (upd H5 dl (.lst [.ref o5])):=ag.new hdl;have hHdl:=S05.free hdl;have hdlr:dl≠r:=λz=>by subst z;obtain⟨dx,as,ts,n,h1,_⟩:=hR5;rw[h1] at hdl;cases hdl
    have hdlt:dl≠lt:=λz=>by subst z;obtain⟨dx,as,ts,n,h1,h2,_⟩:=hR5;rw[h2] at hdl;cases hdl
    refine GD (λm o H'=>∃rest os pre,m=rest.length/\o=[aa (.ref p),aa (.ref r),aa (.ref t),aa (.ref dl),ae,ae]/\ag H H'/\cw a H' r lt rest/\dw a.Token H' t #[y.place,.name nm] e/\(∃q M,os=q::M)/\H' dl=aa (.lst (os.map V.ref))/\QB a dl H' os pre/\pre.length<=6/\n0 [raw] l4=n0 pre rest)
     (λo H'=>∃os pre,o=[aa (.ref p),aa (.ref r),aa (.ref t),aa (.ref dl),ae,ae]/\ag H H'/\dw a.Token H' t #[y.place,.name nm] e/\H' dl=aa (.lst (os.map V.ref))/\QB a dl H' os pre/\n0 [raw] l4=.ok pre) _
     #[l4,[o5],[raw],Z,Z,S05.trans Sdl,hR5.same Sdl,htk5.same Sdl,#[o5,[],Z],aA,.cons ?_ .nil,by simp,Z] ?_ ?_
    .obtain⟨dx,as,ts,n,h1,_⟩:=id hR4;exact((hd5 r (by rw[h1];exact λz=>by cases z)).avoid hdl).same Sdl
    .rintro out m o H' j;rcases j with⟨rest',os,pre,rfl,rfl,S,hR',htk',⟨q0,M,rfl⟩,R,hD,bC,U⟩;obtain⟨u,l',rfl⟩:=hR'.cons;rcases id hR' with⟨dx,as',ts',n,h1,_⟩;refine#[_,Z,r,dx,_,Z,h1,vU,r,lt,u,l',Z,hR',λou eu hou=>?_];obtain⟨c,dx2,hat⟩:=hou.Gz;refine#[ou,_,dx2,_,_,Z,hat,T.dP,T.BF,Gw,Z,_,Z,?_];rw[aac];have g:=bS hD;have hpos:0<pre.length:=by rw[<-g];simp
     cases hu:(u.tok==z0.halt_) with
     |true=>
      refine br (out _ _ #[_,pre,Z,S,htk',R,hD,?_]);rw[U,Z_ hpos (eq_of_beq hu)]
     |false=>
      refine bu (GF ?_);have hu':u.tok≠.halt_:=λz=>by rw[z] at hu;cases hu
      refine#[_,Z,.inl #[Z,_,ao.of R],_,Z,_,Z,dl,_,Z,.inl (ao.of R),_,_,Z,Z,r,lt,_,_,Z,hR',?_];have hdec:decide ((((q0::M).map V.ref).length:Int)<6)=decide (pre.length<6):=by rw[d9,aJ,g];lia
      rw[hdec];rw[aaa hpos hu'] at U;cases hc6:m9 (decide (pre.length<6)) (u::l') with
      |error f=>
       rw[hc6] at U;have U:=U;rw[U] at J;rw[xW ht J] at q;exact FX.same (λb u e=>aQ (bc e hrn) (S _ _ e)) q
      |ok cl=>
       obtain⟨raw6,l6⟩:=cl;rw[hc6] at U;have U:=U;obtain⟨hless,hroom⟩:=aab hc6;have hroom:=rF hroom;intro H6 o6 S6 hR6 hd6;have hdl6:=S6 _ _ (aQ hdlr R);have hD6:=Paired.eJ hD λk k z=>(hR'.Z2 z).same S6;have htk6:=(hR'.tok htk').same S6;have S06:=keep S S6;refine#[dl,_,_,Z,Z,hdl6,by rw[aJ,g,bQ];lia,?_]
       refine#[l6.length,hless,l6,(q0::M)++[o6],pre++[raw6],Z,Z,λb u e=>by rw[aB (bc e hHdl)];exact S06 _ _ e,(hR6.j8 hdl6 hdlt).same uz,(htk6.j8 hdl6).same uz,#[q0,M++[o6],Z],by rw[aA,bR];rfl,?_,by rw[b6];simp;exact Nat.le_of_lt_succ ‹_›,U]
       exact eX (Paired.eJ hD6 λk k z=>(z.j8 hdl6).same uz) (((hd6 dl (by rw[R];exact λz=>by cases z)).j8 hdl6).same uz)
    .rintro o H3' j;rcases j with⟨os,I,rfl,S,htk',R,hD,U⟩;rw[U] at J;have J:=J;obtain⟨hr6,hrok,hr0',_⟩:=Oi J;dsimp only[cN];refine#[c7 _,λcl hcl=>?_];dsimp only[aR,aN];have Scl:ag H3' (upd H3' cl (.lst [])):=ag.new hcl;refine#[_,Z,dl,Z,#[_,ao.of (Scl _ _ R)],gf (a:=dl) (xs:=os.map V.ref) (λi o H'=>ag H3' H'/\∃M cs v,o=[aa (.ref p),aa (.ref r),aa (.ref t),aa (.ref dl),aa (.ref cl),v]/\H' cl=aa (.lst (M.map V.ref))/\ft a (Wo H' cl) M cs/\sS cs/\cs.length<=i/\ji [] I=ji cs (I.drop i)) ?_ ?_ ?_ ?_]
     .exact#[Scl,[],[],ae,Z,aA,.nil,λk h=>(dB h).elim,bb _,Z]
     .rintro i o H' _ ⟨S',_⟩;exact ao.of (S' _ _ R)
     .rintro i v0 o H' hv j;rcases j with⟨S',M,cs,v,rfl,Y,hcs,hks,hle,O⟩;have g:=bS hD;have hi:i<I.length:=by have:=(bx.mp hv).1;rw[aJ] at this;simp_all
      obtain⟨oi,hoi,hdi⟩:=Paired.at_ hD (aY hi);obtain rfl:v0=V.ref oi:=by rw[bL,hoi] at hv;exact(bf hv).symm
      dsimp only[aR,aN];have ax:=hrok _ (ff hi);refine#[_,Z,.inl #[Z,_,ao.of Y],_,Z,_,Z,oi,cl,dl,H3',I[i],M,cs,Z,S',hdi,Y,hcs.same cU,hks,ax.1,by lia,by have:=ax.2;lia,?_]
      rw[tf hi,N9] at O;cases hse:pV cs I[i] with
      |error f=>
       rw[hse] at O;have O:=O;rw[Oo ht J O] at q;exact FX.same (S.trans S') q
      |ok ps=>
       rw[hse] at O;have O:ji [] I=ji (cs++[#[I[i].name.name,I[i].kind,ps]]) (I.drop (i+1)):=O;rintro H6 o6 S6 j;rcases j with⟨dx6,nb6,k6,p6,g1,g2,g3,g4,g5,g6⟩;have hlen2:=bS hcs;refine#[cl,_,_,Z,Z,S6 _ _ Y,by rw[aJ,hlen2,bQ];lia,?_]
       have hw:∀{b:af}{u:HO},b≠cl->H6 b=aa u->Wo (upd H6 cl (.lst (M.map V.ref++[.ref o6]))) cl b=aa u:=λhb hu=>aQ hb (by rw[aB hb];exact hu)
       have S36:ag H3' (Wo (upd H6 cl (.lst (M.map V.ref++[.ref o6]))) cl):=λb u e=>hw (bc e hcl) (S6 _ _ (S' _ _ e));refine#[S36.trans cU,M++[o6],cs++[#[I[i].name.name,I[i].kind,ps]],_,Z,by rw[aA,bR];rfl,?_,?_,by rw[b6];simp;omega,O]
       .refine eX (ft.same (λb u e=>?_) hcs) #[dx6,nb6,k6,p6,hw (λz=>by subst z;rw[Y] at g6;cases g6) g1,S36 _ _ g2,g3.same S36,hw (λz=>by subst z;rw[Y] at g4;cases g4) g5]
        obtain⟨e1,e2⟩:=bh e;exact hw e1 (S6 _ _ e2)
       .intro c hc;obtain hc|hc:=df.mp hc
        .exact hks c hc
        .rw[cj] at hc;subst hc;exact ax.1
     .rintro o H' j;rcases j with⟨S',M,cs,v,rfl,Y,hcs,hks,hle,O⟩;have g:=bS hD;rw[aJ,g,Cj] at O;have O:ji [] I=.ok cs:=O;rw[Om ht J O] at q;obtain⟨tb,⟨dt,hT⟩,htb⟩:=htk';refine#[_,Z,t,_,dt,_,_,Z,S' _ _ hT,T.dP,T.j4,kO,_,Z,λxo dx hx hdx hne=>#[xo,dx,_,Z,Z,aA,Z,?_]];rw[dI];have S6:ag H' (upd (upd H' dx (.own xo)) xo (.ins a.Model dx (vX [.ref tb,.ref cl]))):=λb u e=>by
       rw[aB (bc e hx),aB (bc e hdx)];exact e
      exact q _ xo ((S.trans S').trans S6) #[dx,tb,cl,M,aA,S6 _ _ (S' _ _ htb),S6 _ _ Y,(hcs.same cU).same S6]
end
theorem aae(i:Int):word (toString i)=vj i:=by
 cases i with
 |ofNat n=>
  show(qS n).toList.map _=(if (Hh n)<0 then _ else _)
  rw[aw (by simp)]
  show _=(zc 10 n).map _;unfold qS;rw[zX]
 |negSucc n=>
  show("-" ++qS (n+1)).toList.map _=(if (Int.negSucc n)<0 then _ else _)
  rw[aC (by simp)]
  show _=45::(zc 10 (n+1)).map _;unfold qS;rw[K0];simp only[zX];rfl
theorem QD(h:n<=1000):∀c∈zc 10 n,c.toNat<256:=by
 have:∀k:Fin 1001,∀c∈zc 10 k.val,c.toNat<256:=by decide +kernel
 exact this #[n,by lia]
theorem aaf{i:Int}(I:-1000<=i)(E:i<=1000):∀c∈(toString i).toList,c.toNat<256:=by
 cases i with
 |ofNat n=>
  intro c A;change c∈(qS n).toList at A;unfold qS at A;rw[zX] at A;exact QD (by have:Hh n=(n:Int):=Z;lia) c A
 |negSucc n=>
  intro c A;change c∈("-" ++qS (n+1)).toList at A;unfold qS at A;rw[K0] at A;simp only[zX] at A;obtain A|A:=df.mp A
  .exact(show ∀c∈("-":String).toList,c.toNat<256 by decide +kernel) c A
  .exact QD (by lia) c A
theorem QE{i:Int}(E:-1000<=i)(A:i<=1000):codes (dy (toString i))=bV (vj i):=by
 rw[lX _ (aaf E A),aae]
theorem GG(x y:au):codes (x ++y)=codes x ++codes y:=by
 show(x.cps ++y.cps).toList.map _=_;rw[Array.toList_append,bR];rfl
theorem GH(x:au):x.length=(codes x).length:=by unfold codes;rw[aJ];rfl
theorem vZ(x y:cA):bV (x ++y)=bV x ++bV y:=by unfold bV;rw[bR]
section
variable {w:aS}{base:aU}
inductive QF(a:Ad)(vs:List V)(H:Hp)(Q:VK)(x_0:XK):Prop|m:∀(k:af)(kd:eE),vs=[.ref k]->fq a H k kd->lI kd->(∀p,H p=ae->Q (.ref p) (upd H p (.lst (bV (rA kd)))))->QF a vs H Q x_0
theorem aag(T:TX K mg a d):aV P w K mg base bo 42 a.sA d.sA ["kind"] (QF a):=by
 refine T.sA.ok bE λnD cdv A outer s H vs Q E hr h=>?_;obtain⟨k,kd,rfl,U,R,q⟩:=h;refine#[_,(ay (cy (eZ (aK (pv 0) Z) (λx=>Z)) (aF (aZ (a_ T.gP (oI T) (ah iO ak)))) cC)
   (aF (aZ (a_ T.gP (oI T) (ah (bg Ey (bg Ey (bg Ey iO (vx (LI) Z T.Pz NY (ah (aK (pv 0) Z) ak))) iO) (vx (LI) Z T.Pz NY (ah (aK (pv 0) Z) ak))) ak))))),?_]
 cases kd with
 |flag=>
  obtain⟨dx,J⟩:=U;refine#[_,Z,k,_,dx,_,_,Z,J,T.js,T.Gi,Qi,ai,Z,bu #[_,Z,by decide +kernel,λp O=>?_]]
  rw[lX _ (by decide +kernel)]
  exact q p O
 |num lo I=>
  obtain⟨dx,J⟩:=U;have R:lo<=I/\I<=lo+63/\-1000<=lo/\I<=1000:=R;refine#[_,Z,k,_,dx,_,_,Z,J,T.js,T.Gi,Qi,az,Z,br ?_];dsimp only[di];have Y:=QE (i:=lo) (by simp_all) (by lia)
  have V:=QE (i:=I) (by lia) (by simp_all)
  have n1:=GH (dy (toString lo));have b:=GH (dy (toString I));rw[Y,fG] at n1;rw[V,fG] at b;have l1:=Bb (n:=lo) (by simp_all) (by lia)
  have l2:=Bb (n:=I) (by lia) (by simp_all)
  have S:∀{n:Int},-1000<=n->n<=1000->n.natAbs.log2<1920:=λ{n} h1 h2=>tE (Nat.log2_le_self _) (by lia)
  have w1:(dy "num ").length=4:=by decide +kernel
  have w2:(dy " ").length=1:=by decide +kernel
  have hz:codes (dy "num " ++dy (toString lo) ++dy " " ++dy (toString I))=bV (rA (.num lo I)):=by
   rw[GG,GG,GG,Y,V,lX "num " (by decide +kernel),lX " " (by decide +kernel),<-vZ,<-vZ,<-vZ]
   rfl
  have M:=GH (dy "num " ++dy (toString lo) ++dy " " ++dy (toString I));rw[hz,fG] at M;have hkl:=Fu (k:=.num lo I) R;have e1:=Kx (dy "num ") (dy (toString lo));have e2:=Kx (dy "num " ++dy (toString lo)) (dy " ");refine#[_,Z,k,_,dx,_,_,Z,J,T.js,T.sO,uv,lo,Z,S (by simp_all) (by lia),_,_,Z,Z,by rw[bQ];lia,_,_,Z,Z,by rw[bQ];lia,_,Z,k,_,dx,_,_,Z,J,T.js,T.BG,GB,I,Z,S (by lia) (by simp_all),_,_,Z,Z,by rw[bQ];lia,_,Z,?_,λp O=>?_]
  .show(dy "num " ++dy (toString lo) ++dy " " ++dy (toString I)).length<=100000;lia
  .rw[hz];exact q p O
end
theorem aah(b:cA):(bV b).isEmpty=decide (b=[]):=by cases b<;>rfl
theorem aai(h:cs[i]? =aa c):gG cs i=c.name:=by unfold gG;rw[h];rfl
section
variable {w:aS}{base:aU}
inductive QG(a:Ad)(K:aP)(vs:List V)(H:Hp)(Q:VK)(x_0:XK):Prop|m:∀(cl pl:af)(os:List af)(cs:List Column)(ps:List Nat),vs=[.ref cl,.ref pl]->ao K H cl (os.map V.ref)->ft a H os cs->ao K H pl (iV ps)->(∀i∈ps,i<cs.length)->ps.length<=3->(∀c∈cs,c.name.length<=16)->(∀H' p,ag H H'->H' p=aa (.lst (bV (iU (ps.map (gG cs)))))->Q (.ref p) H')->QG a K vs H Q x_0
theorem aaj(T:TX K mg a d):aV P w K mg base bo 42 a.sC d.sC ["columns","parents"] (QG a K):=by
 refine T.sC.ok bE λnD cdv A outer s H vs Q E hr h=>?_;obtain⟨cl,pl,os,cs,ps,rfl,hcl,hcs,bC,hb,h3,R,q⟩:=h;refine#[_,(ay (aM 2 (bU ak))
   (ay (du dM Z (d_ (pv 1)) (bJ 3) (ay (aM 4 (Lo (eZ (pv 2) (λz=>Z)) iO iO))
   (aF (aM 2 (bg lz (bg lz (pv 2) (a_ T.gP (oI T) (ah (pv 4) ak))) (aK (bt b8 (pv 0) (pv 3)) Z))))))
   (aF (aZ (pv 2))))),?_]
 refine#[c7 _,λf0 M=>?_];dsimp only[aR,aN,L2.start];refine#[_,Z,pl,Z,#[_,(ag.new M).seq bC],gf (a:=pl) (xs:=iV ps) (λi t H'=>ag H H'/\∃f v J,t=[aa (.ref cl),aa (.ref pl),aa (.ref f),v,J]/\H' f=aa (.lst (bV (iU ((ps.take i).map (gG cs)))))) #[ag.new M,f0,ae,ae,Z,aA] (λi t H' z ⟨S,_⟩=>S.seq bC) ?_ ?_]
 .rintro i y t H' hi ⟨S,f,v,J,rfl,O⟩;obtain⟨n,hn,rfl⟩:=gS hi;have hlt:=hb n (dg hn);obtain⟨c,hc⟩:∃c,cs[n]? =aa c:=#[_,aY hlt];obtain⟨o,ho,dx,nb,k,pp,h1,h2,_,_⟩:=(hcs.same S).get hc;have hcn:=R c (dg hc);have hil:=(bx.mp hn).1;have bC:=Ov ((ps.take i).map (gG cs)) (λx hx=>by obtain⟨j,_,rfl⟩:=bK.mp hx;exact Fw R j) (by rw[aJ,gw];lia)
  have key:∀(mk:String),(∀c∈mk.toList,c.toNat<256)->(word mk).length<=3->(dy mk).cps.size<=100000->word mk=word (if iU ((ps.take i).map (gG cs))=[] then " | " else ", ")->
    jk (tOp xx (tOp xx (fF 2) (vv yl [] E0 (iQ (fF 4) jS))) (Ap K (tOp (xr K) (fF 0) (fF 3)) "name")) (aR 2) {nx:=λt H'=>ag H H'/\∃f v J,t=[aa (.ref cl),aa (.ref pl),aa (.ref f),v,J]/\H' f=aa (.lst (bV (iU ((ps.take (i+1)).map (gG cs))))),rt:=Q} [aa (.ref cl),aa (.ref pl),aa (.ref f),aa (.int (n:Int)),aa (.str mk)] H':=by
   intro mk I hm2 hm3 hm4;refine#[_,Z,_,Z,_,Z,hm3,λV hp1=>?_];have S1:ag H' (upd H' V (.lst (codes (dy mk)))):=ag.new hp1;refine#[f,V,_,_,Z,Z,S1 _ _ O,aA,?_,λp2 b=>?_]
   .rw[lX _ I,fG,fG,bQ];lia
   have U:ag H' (upd (upd H' V (.lst (codes (dy mk)))) p2 (.lst (bV (iU ((ps.take i).map (gG cs))) ++codes (dy mk)))):=S1.trans (ag.new b);refine#[_,Z,_,Z,cl,_,_,_,Z,Z,(S.trans U).seq hcl,bY ho,o,_,dx,_,_,Z,U _ _ h1,T.ez,T.BH,GC,p2,nb,_,_,Z,Z,aA,U _ _ h2,?_,λp3 Y=>?_]
   .rw[b6,lX _ I,fG,fG,fG,bQ];lia
   refine#[S.trans (U.trans (ag.new Y)),p3,_,_,Z,?_];rw[aA,lX _ I,<-vZ,<-vZ,take_snoc hn,bR];show _=aa (HO.lst (bV (iU (_++[gG cs n]))));rw[X3,aai hc,hm4];rfl
  dsimp only[aR,aN];refine#[_,Z,_,.inl #[_,ao.of O,Z],?_];rw[aah];by_cases hz:iU ((ps.take i).map (gG cs))=[]
  .rw[bX hz];exact br (key " | " (by decide +kernel) (by decide +kernel) (by decide +kernel) (by rw[aC hz]))
  .rw[bO hz];exact bu (key ", " (by decide +kernel) (by decide +kernel) (by decide +kernel) (by rw[aw hz]))
 .rintro t H' ⟨S,f,v,J,rfl,O⟩;rw[cY,eV] at O;exact#[_,Z,q H' f S O]
end
section
variable {w:aS}{base:aU}
inductive QH(a:Ad)(vs:List V)(H:Hp)(Q:VK)(x_0:XK):Prop|m:∀(o:af)(m:dz),vs=[.ref o]->oS a H o m->r9 m->(∀H' p,ag H H'->H' p=aa (.lst (bV m.shown))->Q (.ref p) H')->QH a vs H Q x_0
theorem aak s (I:∀c∈s.toList,c.toNat<256) (E:(dy s).cps.size<=100000) (h:∀p,H p=ae->Q (.ref p) (upd H p (.lst (bV (word s))))):vv yl [] E0 (iQ (tC (.str s)) jS) σ H Q:=#[_,Z,E,λp A=>by rw[lX _ I];exact h p A]
theorem uB{tb} x y (Y:x.length+y.length<=100000) (T:∀R,(∀H1 p,ag H H1->H1 p=aa (.lst (bV x))->R (.ref p) H1)->ta σ H R) (S:∀H1,ag H H1->∀R,(∀H2 p,ag H1 H2->H2 p=aa (.lst (bV y))->R (.ref p) H2)->tb σ H1 R) (h:∀H2 p,ag H H2->H2 p=aa (.lst (bV (x ++y)))->Q (.ref p) H2):tOp xx ta tb σ H Q:=by
 refine T _ λH1 O I V=>S H1 I _ λH2 M E U=>#[O,M,_,_,Z,Z,E _ _ V,U,by rw[fG,fG,bQ];lia,λJ A=>h _ J (I.trans (E.trans (ag.new A))) ?_]
 rw[aA,vZ]
theorem BW{R} s (I:∀c∈s.toList,c.toNat<256) (E:(dy s).cps.size<=100000) (h:∀H2 p,ag H H2->H2 p=aa (.lst (bV (word s)))->R (.ref p) H2):vv yl [] E0 (iQ (tC (.str s)) jS) σ H R:=aak s I E λp A=>h _ p (ag.new A) aA
theorem aal(T:TX K mg a d):aV P w K mg base bo 43 a.sy d.sy ["model"] (QH a):=by
 refine T.sy.ok bE λnD cdv A outer s H vs Q E hr h=>?_;rcases h with⟨o,m,rfl,hm,ax,q⟩;refine#[_,(ay (aM 1 (bg lz (bg lz (a_ T.gP (oI T) (ah iO ak)) (aK (pv 0) Z)) (a_ T.gP (oI T) (ah iO ak))))
   (ay (du dM Z (d_ (aK (pv 0) Z)) (bJ 2) (ay (aM 1 (bg lz (bg lz (bg lz (pv 1) (aK (pv 2) Z)) (a_ T.gP (oI T) (ah iO ak))) (a_ T.sA (aag T) (ah (aK (pv 2) Z) ak))))
   (aF (aM 1 (bg lz (bg lz (pv 1) (a_ T.sC (aaj T) (ah (aK (pv 0) Z) (ah (aK (pv 2) Z) ak)))) (a_ T.gP (oI T) (ah iO ak)))))))
   (aF (aZ (pv 1))))),?_]
 rcases hm with⟨dx,tb,cl,os,g1,g2,g3,Y⟩;rcases id ax with⟨o0,o6,ocs,ot,on⟩;have w1:(word "table ").length=6:=by decide +kernel
 have w2:(word "\n").length=1:=by decide +kernel
 have w3:(word " ").length=1:=by decide +kernel
 have w4:(word " ;\n").length=3:=by decide +kernel
 dsimp only[cN,jk];refine uB (word "table " ++m.title) (word "\n") (by rw[b6];lia) (λR hR=>?_) (λH1 I R hR=>BW "\n" (by decide +kernel) (by decide +kernel) hR) ?_
 .refine uB (word "table ") m.title (by lia) (λR hR=>BW "table " (by decide +kernel) (by decide +kernel) hR) (λH1 I R hR=>?_) hR
  exact#[_,Z,o,_,dx,_,_,Z,I _ _ g1,T.iz,T.PN,ZT,hR H1 tb (ag.refl _) (I _ _ g2)]
 intro H1 f I J;dsimp only[aR,aN,L2.start];refine#[_,Z,o,_,dx,_,_,Z,I _ _ g1,T.iz,T.jt,j7,cl,Z,#[_,ao.of (I _ _ g3)],gf (a:=cl) (xs:=os.map V.ref) (λi u H'=>ag H H'/\∃f v,u=[aa (.ref o),aa (.ref f),v]/\H' f=aa (.lst (bV (kG m i)))) #[I,f,ae,Z,?_] (λi u H' z ⟨S,_⟩=>ao.of (S _ _ g3)) ?_ ?_]
 .rw[J];show _=aa (HO.lst (bV (_ ++_ ++_++[])));rw[l8]
 .rintro i y u H' hi t;rcases t with⟨S,f,v,rfl,J⟩;have hlen:=bS Y;have M:i<m.columns.length:=by have:=(bx.mp hi).1;rw[aJ] at this;simp_all
  have O:=aY M;generalize m.columns[i]=c at O;rcases(Y.same S).get O with⟨U,hoc,dc,nb,k,pp,h1,h2,h3,h4⟩;obtain rfl:y=V.ref U:=by rw[hoc] at hi;exact(bf hi).symm
  rcases ocs i c O with⟨c1,c2,c3,c4,c5⟩;have cn:=on c (dg O);have ck:=Fu c1;have cp:=Ov (c.parents.map (gG m.columns)) (λx hx=>by obtain⟨j,_,rfl⟩:=bK.mp hx;exact Fw on j) (by rw[aJ];exact c2)
  have cf:=X8 ax i;dsimp only[aR,aN,cN,jk];refine uB (kG m i ++c.name ++word " ") (rA c.kind) (by simp only[b6];lia) (λR hR=>?_) (λH1 I R hR=>?_) ?_
  .refine uB (kG m i ++c.name) (word " ") (by simp only[b6];lia) (λR hR=>?_) (λH1 I R hR=>BW " " (by decide +kernel) (by decide +kernel) hR) hR
   refine uB (kG m i) c.name (by lia) (λR hR=>#[_,Z,hR H' f (ag.refl _) J]) (λH1 I R hR=>?_) hR
   exact#[_,Z,U,_,dc,_,_,Z,I _ _ h1,T.ez,T.BH,GC,hR H1 nb (ag.refl _) (I _ _ h2)]
  .exact#[_,Z,U,_,dc,_,_,Z,I _ _ h1,T.ez,T.i5,jy,k,c.kind,Z,h3.same I,c1,λp hp=>hR _ p (ag.new hp) aA]
  intro H2 f2 b hf2;refine uB (kG m i ++c.name ++word " " ++rA c.kind ++iU (c.parents.map (gG m.columns))) (word " ;\n") (by simp only[b6];lia) (λR hR=>?_) (λH1 I R hR=>BW " ;\n" (by decide +kernel) (by decide +kernel) hR) ?_
  .refine uB (kG m i ++c.name ++word " " ++rA c.kind) (iU (c.parents.map (gG m.columns))) (by simp only[b6];lia) (λR hR=>#[_,Z,hR H2 f2 (ag.refl _) hf2]) (λH1 I R hR=>?_) hR
   have S':=S.trans (b.trans I);refine#[_,Z,o,_,dx,_,_,Z,S' _ _ g1,T.iz,T.jt,j7,_,Z,U,_,dc,_,_,Z,I _ _ (b _ _ h1),T.ez,T.sP,uw,cl,pp,os,m.columns,c.parents,Z,ao.of (S' _ _ g3),Y.same S',ao.of (I _ _ (b _ _ h4)),λj hj=>gy (c3 j hj) M,c2,on,hR]
  intro H3 f3 S3 hf3;refine#[S.trans (b.trans S3),f3,_,Z,?_];rw[hf3,X7 m i c O]
 .rintro u H' t;rcases t with⟨S,f,v,rfl,J⟩;rw[aJ,bS Y,X6] at J;exact#[_,Z,q H' f S J]
end
end CC
namespace L2
theorem sU{a:af}{σ:St}(j k:Nat)(S:∀T x y σ H Q,H T=aa (.tup [x,y])->Q ((σ.set j (aa x)).set k (aa y)) H->g (.ref T) σ H Q)(Pv:Nat->St->Hp->Prop)(V:Pv 0 σ H)(O:∀i σ H,i<=xs.length->Pv i σ H->ao K H a xs)(M:∀i x σ H,xs[i]? =aa x->Pv i σ H->∀H',ag H H'->tb {D with nx:=Pv (i+1),ct:=Pv (i+1),bk:=D.nx} ((σ.set j (aa (.int (i:Nat)))).set k (aa x)) H')(hd:∀σ H,Pv xs.length σ H->D.nx σ H):
  ∃W:Nat->Nat->St->Hp->Prop,(∃m,W 0 m σ H)/\∀i m σ H,W i m σ H->
   ((Ite K a).stop i H/\D.nx σ H)\/((Ite K a).go i H/\∃N:St->Hp->Prop,(∀w H',N w H'->∃I,I<m/\W (i+1) I w H')/\∀x H',(Ite K a).kA i H x H'->g x σ H' λA H2=>tb {D with nx:=N,ct:=N,bk:=D.nx} A H2):=by
 refine#[λi m σ H=>m=xs.length-i/\i<=xs.length/\Pv i σ H,#[xs.length,by simp,c7 _,V],?_]
 rintro i m σ H ⟨rfl,R,p⟩;have q:=O i σ H R p;by_cases E:i<xs.length
 .refine .inr #[#[xs,_,q,aY E],Pv (i+1),λw H' J=>#[xs.length-(i+1),by grind,Z,by assumption,J],?_]
  rintro v H' ⟨T,x,rfl,U,rfl,hx⟩;exact S T _ _ _ _ _ aA (M i x σ H (hx _ q) p _ (ag.new U))
 .obtain rfl:i=xs.length:=by lia
  exact .inl #[#[xs,q,bb _],hd σ H p]
theorem BX{a:af}{σ:St}(j k:Nat)(Z:∀T x y σ H Q,H T=aa (.tup [x,y])->Q ((σ.set j (aa x)).set k (aa y)) H->g (.ref T) σ H Q)(Pv:Nat->St->Hp->Prop)(S:ys.length=xs.length)(h0:Pv 0 σ H)(V:∀i σ H,i<=xs.length->Pv i σ H->ao K H a xs/\ao K H b ys)(U:∀i x y σ H,xs[i]? =aa x->ys[i]? =aa y->Pv i σ H->∀H',ag H H'->tb {D with nx:=Pv (i+1),ct:=Pv (i+1),bk:=D.nx} ((σ.set j (aa x)).set k (aa y)) H')(hd:∀σ H,Pv xs.length σ H->D.nx σ H):
  ∃W:Nat->Nat->St->Hp->Prop,(∃m,W 0 m σ H)/\∀i m σ H,W i m σ H->
   ((Itz K a b).stop i H/\D.nx σ H)\/((Itz K a b).go i H/\∃N:St->Hp->Prop,(∀w H',N w H'->∃M,M<m/\W (i+1) M w H')/\∀x H',(Itz K a b).kA i H x H'->g x σ H' λA H2=>tb {D with nx:=N,ct:=N,bk:=D.nx} A H2):=by
 refine#[λi m σ H=>m=xs.length-i/\i<=xs.length/\Pv i σ H,#[xs.length,by simp,c7 _,h0],?_]
 rintro i m σ H ⟨rfl,Y,p⟩;obtain⟨I,E⟩:=V i σ H Y p;by_cases J:i<xs.length
 .refine .inr #[#[xs,ys,_,_,I,E,aY J,aY (by simp_all)],Pv (i+1),λw H' O=>#[xs.length-(i+1),by grind,rfl,by assumption,O],?_]
  rintro v H' z;rcases z with⟨T,x,y,rfl,hT,rfl,hx,R⟩;exact Z T _ _ _ _ _ aA (U i x y σ H (hx _ I) (R _ E) p _ (ag.new hT))
 .obtain rfl:i=xs.length:=by lia
  exact .inl #[#[xs,ys,I,E,.inl (bb _)],hd σ H p]
end L2
namespace CC
noncomputable def nV(l:List Int):List V:=l.map V.int
theorem iD l:(nV l).length=l.length:=by delta nV;rw[aJ]
theorem qA{n}(h:l[i]? =aa n):(nV l)[i]? =aa (.int n):=by delta nV;rw[bL,h];rfl
theorem fq.yr{k}(h:fq a H k kd):∃dx f,H k=aa (.ins a.Kind dx (jx [.bl f,.int (fL kd),.int (Bc kd)])):=by
 cases kd with
 |flag=>obtain⟨dx,h⟩:=h;exact#[dx,_,h]
 |num lo A=>obtain⟨dx,h⟩:=h;exact#[dx,_,h]
noncomputable def cV(cs:List Column):List eE:=cs.map λc=>c.kind
theorem GI(h:cs[i]? =aa c):(cV cs)[i]? =aa c.kind:=by delta cV;rw[bL,h];rfl
theorem aam{ks}{k}{n}(E:ks[i]? =aa k)(A:l[i]? =aa n):((tu ks l).take (i+1)).all (λx=>lJ x.1 x.2)=(((tu ks l).take i).all (λx=>lJ x.1 x.2)&&lJ k n):=by
 have:(tu ks l)[i]? =aa (k,n):=by rw[List.getElem?_zip_eq_some];exact#[E,A]
 rw[qJ,this,List.all_append];show(_&&(lJ k n&&ai))=_;rw[Bool.and_true]
section
variable {w:aS}{base:aU}
inductive QI(a:Ad)(K:aP)(vs:List V)(H:Hp)(Q:VK)(x_0:XK):Prop|m:∀(cl rl:af)(os:List af)(cs:List Column)(l:List Int),vs=[.ref cl,.ref rl]->ao K H cl (os.map V.ref)->ft a H os cs->ao K H rl (nV l)->(∀H',ag H H'->Q (.bl (px (cV cs) l).isSome) H')->QI a K vs H Q x_0
theorem aan(T:TX K mg a d):aV P w K mg base bo 41 a.sx d.sx ["columns","row"] (QI a K):=by
 refine T.sx.ok bE λnD cdv A outer s H vs Q E hr h=>?_;rcases h with⟨cl,rl,os,cs,l,rfl,hcl,hcs,hrl,q⟩;refine#[_,(ay (cy (b9 jR (cz (c8) Z T.de c_ (ah (pv 1) ak)) (cz (c8) Z T.de c_ (ah (pv 0) ak)) (cu _)) (aF (aZ rJ)) cC)
   (ay (du dM Z (rV Z T.sM (ah (pv 0) ak)) (iP Z (dj (bJ 2) (dj (bJ 3) gJ))) (ay (aM 4 (xp mH mH (aK (aK (pv 3) Z) Z) (bt b8 (pv 1) (pv 2)) (aK (aK (pv 3) Z) Z)))
   (aF (cy (PW.pt (pG (lr (eZ (pv 4) (λt=>Z))) (rL (b9 jR (bt b8 (pv 1) (pv 2)) (bZ Z T.BD) (cu _))))) (aF (aZ rJ)) cC))))
   (aF (aZ rJ)))),?_]
 have b:=bS hcs;have hkl:(cV cs).length=cs.length:=by delta cV;rw[aJ]
 rw[Ow] at q;refine cX (!decide (l.length=cs.length)) (λR M=>#[_,Z,rl,_,Z,.inl hrl,_,Z,cl,_,Z,.inl hcl,Z,_,Z,?_]) ?_
 .rw[show(!decide (V.int ((nV l).length:Int)=V.int ((os.map V.ref).length:Int)))=!decide (l.length=cs.length) by
   congr 1;rw[d9,iD,aJ,b]
   exact#[λz=>by injection z with z;lia,λz=>by rw[z]]]
  exact M
 by_cases O:l.length=cs.length
 .rw[bX O];rw[bX (O.trans hkl.symm),yI] at q;refine br ?_;dsimp only[di];refine#[_,Z,cl,_,Z,hcl,sU (a:=cl) (xs:=os.map V.ref) 2 3 (λT' x y j H Q hT hQ=>#[T',_,Z,.inl (.inl hT),Z,_,_,Z,_,_,Z,Z,hQ]) (λi j H'=>ag H H'/\(((tu (cV cs) l).take i).all λx=>lJ x.1 x.2)=ai/\∃v v' v'',j=[aa (.ref cl),aa (.ref rl),v,v',v'']) #[ag.refl _,Z,ae,ae,ae,Z] (λi j H' t ⟨S,_⟩=>S.seq hcl) ?_ ?_]
  .rintro i y j H' hi ⟨S,I,v,v',v'',rfl⟩ H2 S2;have hil:i<cs.length:=by have:=(bx.mp hi).1;rw[aJ] at this;simp_all
   have hc:=aY hil;generalize cs[i]=c at hc;have S':=S.trans S2;rcases(hcs.same S').get hc with⟨oc,hoc,dc,nb,k,pp,h1,h2,h3,h4⟩;obtain rfl:y=V.ref oc:=by rw[hoc] at hi;exact(bf hi).symm
   rcases h3.yr with⟨dk,f,hk⟩;have hn:l[i]? =aa l[i]:=aY (by simp_all)
   generalize l[i]=n at hn;have Y:=bY (qA hn);have hz:=aam (GI hc) hn;rw[I,yI] at hz;dsimp only[aN];dsimp only[cN,jk];refine XC (.bl (decide (fL c.kind<=n)&&decide (n<=Bc c.kind))) H2 (λR M=>?_) ?_
   .refine#[_,Z,oc,_,dc,_,_,Z,h1,T.ez,T.i5,jy,k,_,dk,_,_,Z,hk,T.js,T.sO,uv,_,Z,_,Z,rl,_,_,_,Z,Z,S'.seq hrl,Y,_,_,Z,Z,decide (fL c.kind<=n),Z,?_];cases hd:decide (fL c.kind<=n) with
    |false=>rw[hd] at M;exact br M
    |true=>
     rw[hd] at M;exact bu #[_,Z,oc,_,dc,_,_,Z,h1,T.ez,T.i5,jy,k,_,dk,_,_,Z,hk,T.js,T.BG,GB,_,_,Z,Z,M]
   dsimp only[aR,aN];refine cX (!lJ c.kind n) (λR M=>r0 (!(decide (fL c.kind<=n)&&decide (n<=Bc c.kind))) (!decide (n=5000)) (λR2 q2=>#[_,Z,_,Z,q2]) (λt R2 q2=>#[_,Z,_,Z,rl,_,_,_,Z,Z,S'.seq hrl,Y,Z,_,Z,?_]) ?_) ?_
   .rw[show(!decide (V.int n=V.int 5000))=!decide (n=5000) by congr 1;rw[d9];exact#[λz=>by injection z,λz=>by rw[z]]]
    exact q2
   .unfold lJ at M;rw[Bool.not_or] at M;exact M
   cases ax:lJ c.kind n with
   |true=>
    rw[ax] at hz;exact br #[S',hz,_,_,_,Z]
   |false=>
    rw[ax] at hz;have U:((tu (cV cs) l).all λx=>lJ x.1 x.2)=az:=by
     rw[uG];intro J;rw[jE] at J;rw[uG] at hz;exact hz (jE.mpr λx hx=>J x (qH hx))
    rw[U] at q;exact bu (q H2 S')
  .rintro j H' u;rcases u with⟨S,I,v,v',v'',rfl⟩;rw[aJ,b,mj (by rw[List.length_zip];simp_all)] at I
   rw[I] at q;exact q H' S
 .rw[bO O];rw[bO (λz=>O (z.trans hkl))] at q;exact bu (q H (ag.refl _))
end
section
variable {w:aS}{base:aU}
def oU(K:aP)(H:Hp)(a:af)(xs:List V):Prop:=ao K H a xs\/cM K H a xs
theorem oU.same{a}(S:ag H H')(h:oU K H a xs):oU K H' a xs:=h.imp (S.seq ·) (S.xR ·)
theorem aao{a}{i}(h:oU K H a xs)(A:rR xs i=aa v)(q:Q v H):rIx K (.ref a) (.int i) H Q:=by
 obtain h|h:=h
 .exact .inl #[a,_,_,_,Z,Z,h,A,q]
 .exact .inr (.inl #[a,_,_,_,Z,Z,h,A,q])
inductive QJ(a:Ad)(K:aP)(vs:List V)(H:Hp)(Q:VK)(x_0:XK):Prop|m:∀(cl rl:af)(os:List af)(cs:List Column)(l:List Int)(r:K7),vs=[.ref cl,.ref rl]->ao K H cl (os.map V.ref)->ft a H os cs->sS cs->oU K H rl (nV l)->px (cV cs) l=aa r->(∀H',ag H H'->Q (.int (ie (cV cs) r:Nat)) H')->QJ a K vs H Q x_0
theorem GJ(T:TX K mg a d):aV P w K mg base bo 42 a.n8 d.n8 ["columns","row"] (QJ a K):=by
 refine T.n8.ok bE λnD cdv A outer s H vs Q E hr h=>?_;obtain⟨cl,rl,os,cs,l,r,rfl,hcl,b,hks,hrl,Y,q⟩:=h;refine#[_,(ay (aM 2 aX)
   (ay (du dM Z (rV Z T.sM (ah (pv 0) ak)) (iP Z (dj (bJ 3) (dj (bJ 4) gJ))) (aF (cy (b9 mG (bt UH (pv 1) (pv 3)) (bZ Z T.BD) (cu _)) (aF (aM 2 (bg gi (pv 2) (a_ T.size_of (oR T) (ah (aK (pv 4) Z) ak))))) cC)))
   (aF (aZ (pv 2))))),?_]
 have O:=bS b;have hkl:(cV cs).length=cs.length:=by delta cV;rw[aJ]
 obtain⟨hl1,hl2⟩:=Bd Y;refine#[_,Z,cl,_,Z,hcl,sU (a:=cl) (xs:=os.map V.ref) 3 4 (λT' x y u H Q hT hQ=>#[T',_,Z,.inl (.inl hT),Z,_,_,Z,_,_,Z,Z,hQ]) (λi u H'=>ag H H'/\∃v v',u=[aa (.ref cl),aa (.ref rl),aa (.int (ie ((cV cs).take i) (r.take i):Nat)),v,v']) #[ag.refl _,ae,ae,Z] (λi u H' t ⟨S,_⟩=>S.seq hcl) ?_ ?_]
 .rintro i y u H' hi ⟨S,v,v',rfl⟩ H2 S2;have hil:i<cs.length:=by have:=(bx.mp hi).1;rw[aJ] at this;simp_all
  have hc:=aY hil;generalize cs[i]=c at hc;have S':=S.trans S2;obtain⟨oc,hoc,dc,nb,k,pp,h1,h2,h3,h4⟩:=(b.same S').get hc;obtain rfl:y=V.ref oc:=by rw[hoc] at hi;exact(bf hi).symm
  have hn:l[i]? =aa l[i]:=aY (by simp_all)
  generalize l[i]=n at hn;have M:=bY (qA hn);obtain⟨x,hx,hex⟩:=FA Y i _ n (GI hc) hn;obtain⟨_,J⟩:=Fz hex;have U:=hks c (dg hc);have hsz:=size_pos U;have I:ie ((cV cs).take (i+1)) (r.take (i+1))=ie ((cV cs).take i) (r.take i)* (if x=ae then aD c.kind else 1):=by
   rw[take_snoc (GI hc),take_snoc hx,FC];rw[gw,gw];lia
  dsimp only[aN];refine cX (decide (n=5000)) (λR q'=>#[_,Z,_,Z,aao (hrl.same S') M #[Z,_,Z,?_]]) ?_
  .rw[show decide (V.int n=V.int 5000)=decide (n=5000) by rw[d9];exact#[λz=>by injection z,λz=>by rw[z]]]
   exact q'
  by_cases h5:n=5000
  .rw[bX h5];rw[aC (J.mpr h5)] at I;refine bu #[_,Z,_,Z,oc,_,dc,_,_,Z,h1,T.ez,T.i5,jy,k,c.kind,Z,h3,U,_,_,Z,Z,.of_right (uX (by lia) (by lia)),S',aa (.int (i:Nat)),aa (.ref oc),?_]
   rw[I];rfl
  .rw[bO h5];rw[aw (λz=>h5 (J.mp z)),tF] at I;exact br #[S',aa (.int (i:Nat)),aa (.ref oc),by rw[I]]
 .rintro u H' ⟨S,v,v',rfl⟩;refine#[_,Z,?_];rw[aJ,O,mj (by simp_all),mj (by simp_all)]
  exact q H' S
inductive QK(a:Ad)(K:aP)(vs:List V)(H:Hp)(Q:VK)(x_0:XK):Prop|m:∀(cl pl rl:af)(os:List af)(cs:List Column)(ps:List Nat)(l:List Int),vs=[.ref cl,.ref pl,.ref rl]->ao K H cl (os.map V.ref)->ft a H os cs->sS cs->ao K H pl (iV ps)->ao K H rl (nV l)->(∀i∈ps,i<cs.length)->l.length=cs.length->Q (.int (pW cs l ps)) H->QK a K vs H Q x_0
theorem aap(T:TX K mg a d):aV P w K mg base bo 42 a.sv d.sv ["columns","parents","row"] (QK a K):=by
 refine T.sv.ok bE λnD cdv A outer s H vs Q E hr h=>?_;rcases h with⟨cl,pl,rl,os,cs,ps,l,rfl,b,Y,V,bC,R,hb,hll,q⟩;refine#[_,(ay (aM 3 aX)
   (ay (du dM Z (d_ (pv 1)) (bJ 4) (ay (aM 5 (aK (bt b8 (pv 0) (pv 4)) Z))
   (aF (aM 3 (bg eK (bg gi (pv 3) (a_ T.size_of (oR T) (ah (pv 5) ak))) (bg rO (bt b8 (pv 2) (pv 4)) (aK (pv 5) Z)))))))
   (aF (aZ (pv 3))))),?_]
 refine#[_,Z,pl,Z,#[_,bC],gf (a:=pl) (xs:=iV ps) (λi z H'=>H'=H/\∃v O,z=[aa (.ref cl),aa (.ref pl),aa (.ref rl),aa (.int (pW cs l (ps.take i))),v,O]) #[Z,ae,ae,Z] (λi z H' x ⟨e,_⟩=>by rw[e];exact bC) ?_ ?_]
 .rintro i y z H' hi ⟨rfl,v,O,rfl⟩;obtain⟨p,hp,rfl⟩:=gS hi;have U:=hb p (dg hp);obtain⟨c,M⟩:∃c,cs[p]? =aa c:=#[_,aY U];rcases Y.get M with⟨o,ho,dx,nb,k,pp,h1,h2,h3,h4⟩;have J:=V c (dg M);have hsz:=size_pos J;obtain⟨dk,f,hk⟩:=h3.yr;have S:l[p]? =aa l[p]:=aY (by simp_all)
  generalize l[p]=n at S;have I:=bY (qA S);dsimp only[aR,aN];refine#[_,Z,_,Z,cl,_,_,_,Z,Z,b,bY ho,o,_,dx,_,_,Z,h1,T.ez,T.i5,jy,?_];dsimp only[aR,aN];refine#[_,Z,_,Z,k,c.kind,Z,h3,J,_,_,Z,Z,.of_right (uX (by lia) (by lia)),_,Z,_,Z,rl,_,_,_,Z,Z,R,I,_,Z,k,_,dk,_,_,Z,hk,T.js,T.sO,uv,_,_,Z,Z,_,_,Z,Z,Z,aa (.int (p:Int)),aa (.ref k),?_]
  rw[take_snoc hp,Ya,vY M,S];delta lL;rw[M];rfl
 .rintro z H' ⟨rfl,v,O,rfl⟩;refine#[_,Z,?_];rw[cY,eV];exact q
end
def uC(H:Hp)(x:af)(f:cK):Prop:=H x=aa (.tup [.int f.num,.int (f.den:Nat)])
def jA(H:Hp)(xs:List af)(fs:List cK):Prop:=Paired (uC H) xs fs
theorem jA.same{xs:List af}{fs:List cK}(S:ag H H')(h:jA H xs fs):jA H' xs fs:=Paired.eJ h λx x q=>S _ _ q
inductive uD(H:Hp)(g:af)(fs:List cK):Prop|m:∀xs:List af,H g=aa (.lst (xs.map V.ref))->jA H xs fs->uD H g fs
theorem uD.same{g:af}{fs:List cK}(S:ag H H')(h:uD H g fs):uD H' g fs:=by
 obtain⟨xs,E,A⟩:=h;exact#[xs,S _ _ E,A.same S]
def jB(H:Hp)(gs:List af)(c:cx):Prop:=Paired (uD H) gs c
theorem jB.same{c:cx}(S:ag H H')(h:jB H gs c):jB H' gs c:=Paired.eJ h λx x q=>q.same S
theorem aaq(h:0<n):aW 1 n=#[1,n]:=by
 unfold aW;rw[aw (by lia)]
 have:bj (1:Int).natAbs n=1:=Nat.gcd_one_left n;rw[this];simp
theorem aar(h:0<n):rB n=cR n #[1,n]:=by
 unfold rB;rw[aaq h];rw[Cz,me]
theorem uE{A:Type}(x:A):∀n,(cR n [x]).flatten=cR n x
 |0=>Z
 |n+1=>by rw[y2,wt,uE x n];rfl
theorem Paired.replicate{E A:Type}{F:E->A->Prop}{x:E}{y:A}(h:F x y):∀n,Paired F (cR n x) (cR n y)
 |0=>.nil
 |n+1=>.cons h (Paired.replicate h n)
theorem QL(S:ag H1 H2):ag (gR H H1) (gR H H2):=λb u e=>by
 obtain⟨A,e⟩:=jw e;exact fO A (S _ _ e)
section
variable {w:aS}{base:aU}
inductive QM(a:Ad)(K:aP)(vs:List V)(H:Hp)(Q:VK)(x_0:XK):Prop|m:∀(cl o:af)(os:List af)(cs:List Column)(c:Column),vs=[.ref cl,.ref o]->ao K H cl (os.map V.ref)->ft a H os cs->sS cs->uA a H o c->lI c.kind->(∀i∈c.parents,i<cs.length)->bw cs c.parents<=512->(∀H' t gs,ag H H'->H t=ae->H' t=aa (.lst (gs.map V.ref))->jB (Wo (gR H H') t) gs (cR (bw cs c.parents) (rB (aD c.kind)))->Q (.ref t) H')->QM a K vs H Q x_0
theorem aas(T:TX K mg a d):aV P w K mg base bo 43 a.p9 d.p9 ["columns","column"] (QM a K):=by
 refine T.p9.ok bE λnD cdv A outer s H vs Q E hr h=>?_;obtain⟨cl,o,os,cs,c,rfl,hcl,hcs,hks,hc,Y,hb,hg,q⟩:=h;refine#[_,(ay (aM 2 (a_ T.size_of (oR T) (ah (aK (pv 1) Z) ak)))
   (aF (aZ (pM Z nD (vr Z T.vR (ah (a_ T.mT (BV T) (ah (pv 0) (ah (aK (pv 1) Z) ak))) ak)) (own:=[("group",3)]) T.p9.s.c9 (λy y y y y=>(bJ 3)) (λy y y y y=>gh) (λy y y y y=>(bg vA (bU (ah (vu (ah aX (ah (pv 2) ak))) ak)) (pv 2))))))),?_]
 obtain⟨dx,nb,k,p,h1,h2,h3,h4⟩:=hc;have hsz:=size_pos Y;refine#[_,Z,o,_,dx,_,_,Z,h1,T.ez,T.i5,jy,k,c.kind,Z,h3,Y,?_];dsimp only[aR,aN,L2.start];dsimp only[mF];refine i7 #[_,Z,_,Z,o,_,dx,_,_,Z,h1,T.ez,T.sP,uw,cl,p,os,cs,c.parents,Z,hcl,hcs,ao.of h4,hks,hb,?_];refine#[((bw cs c.parents:Nat):Int),Z,by simp,by lia,?_]
 rw[cI];refine yq (λi ys H'=>∃gs:List af,ys=gs.map V.ref/\jB (gR H H') gs (cR i (rB (aD c.kind)))) (by rw[bQ];lia) (λi ys H2 H2' S ⟨gs,e1,e2⟩=>#[gs,e1,e2.same (QL S)]) #[[],Z,.nil] ?_ ?_ ?_
 .exact λy=>Z
 .rintro D i H1 ys hi hD J S1 hl ⟨gs,rfl,O⟩ R hR;refine#[_,Z,cb,λx hx=>#[cb,λg0 M=>#[_,Z,g0,_,_,Z,Z,aA,by simp,by lia,?_,λg I=>?_]]]
  .rw[cI,kT,bQ];lia
  have SH:=S1.trans cU;have Sx:ag H1 (upd H1 x (.tup [.int 1,.int (aD c.kind:Nat)])):=ag.new hx;have U:=Sx.trans (ag.new (o:=.lst [.ref x]) M);have Sg:=U.trans (ag.new (o:=.lst (cR ((aD c.kind:Nat):Int).toNat [V.ref x]).flatten) I);have hxD:x≠D:=λz=>by subst z;rw[J] at hx;cases hx
  have hgD:g≠D:=λz=>by subst z;rw[U _ _ J] at I;cases I
  have hgx:g≠x:=λz=>by subst z;rw[ag.new M _ _ aA] at I;cases I
  have f:g0≠x:=λz=>by subst z;rw[aA] at M;cases M
  refine hR _ _ Sg #[gs++[g],by rw[bR];rfl,?_]
  rw[HU];refine eX (jB.same (λb u e=>?_) O) #[cR (aD c.kind) x,fO (SH.free (U.free I)) (aQ hgD ?_),?_]
  .obtain⟨e0,e⟩:=jw e;obtain⟨e1,e2⟩:=bh e;exact fO e0 (aQ e1 (Sg _ _ e2))
  .rw[aA,cI,uE,uJ]
  .rw[aar (by lia)]
   refine Paired.replicate (F:=uC _) (show uC _ x #[1,aD c.kind] from fO (SH.free hx) (aQ hxD ?_)) _;rw[aB (bG hgx),aB (bG f),aA]
 .rintro D H1 ys hD S1 S1' J hl ⟨gs,rfl,O⟩;refine q H1 D gs S1 hD J (O.same λb u e=>?_);obtain⟨e0,e⟩:=jw e;obtain⟨e1,e2⟩:=bh e;exact aQ e1 (fO e0 e2)
end
noncomputable def dY(H:Hp)(l:List af):Hp:=λb=>if b∈l then ae else H b
theorem iE{l:List af}{o:HO}(h:b∉l)(e:H b=aa o):dY H l b=aa o:=by unfold dY;rw[aw h];exact e
theorem j9{l:List af}{o:HO}(e:dY H l b=aa o):b∉l/\H b=aa o:=by
 unfold dY at e;by_cases h:b∈l
 .rw[aC h] at e;cases e
 .rw[aw h] at e;exact#[h,e]
theorem aat{l:List af}(S:ag H H'):ag (dY H l) (dY H' l):=λb u e=>by
 obtain⟨E,A⟩:=j9 e;exact iE E (S _ _ A)
def eA(H Hi:Hp)(ts:List af)(cs:List cx):Prop:=Paired (λt c=>∃gs:List af,H t=aa (.lst (gs.map V.ref))/\jB Hi gs c) ts cs
theorem eA.same{A:Hp}{cs:List cx}(S:ag H H')(J:ag Hi A)(h:eA H Hi ts cs):eA H' A ts cs:=Paired.eJ h λx x ⟨gs,I,E⟩=>#[gs,S _ _ I,E.same J]
noncomputable def GK(cs:List Column)(c:Column):cx:=cR (bw cs c.parents) (rB (aD c.kind))
theorem eA.mem{H Hi:Hp}{ts:List af}{cs:List cx}(e:eA H Hi ts cs):∀t∈ts,∃xs,H t=aa (.lst xs):=by
 induction e with|nil=>simp|cons a b f=>obtain⟨g,a,_⟩:=a;simp;exact#[#[_,a],f]
section
variable {w:aS}{base:aU}
inductive QN(a:Ad)(K:aP)(vs:List V)(H:Hp)(Q:VK)(x_0:XK):Prop|m:∀(cl:af)(os:List af)(cs:List Column),vs=[.ref cl]->ao K H cl (os.map V.ref)->ft a H os cs->cO cs->cs.length<=1000->(∀H' ch ts,ag H H'->H ch=ae->H' ch=aa (.lst (ts.map V.ref))->ts.Nodup->(∀t∈ts,H t=ae/\t≠ch)->eA H' (dY (gR H H') (ch::ts)) ts (cs.map (GK cs))->Q (.ref ch) H')->QN a K vs H Q x_0
theorem cO.cV(h:cO cs):sS cs:=λc E=>by
 obtain⟨i,A⟩:=kh.mp E;exact(h i c A).1
theorem QO(T:TX K mg a d):aV P w K mg base bo 44 a.n_ d.n_ ["columns"] (QN a K):=by
 refine T.n_.ok bE λnD cdv A outer s H vs Q E hr h=>?_;obtain⟨cl,os,cs,rfl,hcl,hcs,ax,hlen,q⟩:=h;refine#[_,(aF (aZ (pM Z nD (d_ (pv 0)) (own:=[("column",1)]) T.n_.s.c9 (λv v v v v=>(bJ 1)) (λv v v v v=>gh) (λv v v v v=>(a_ T.p9 (aas T) (ah (pv 0) (ah (pv 1) ak))))))),?_];have hl:=bS hcs;dsimp only[mF];refine i7 #[_,Z,cl,Z,#[_,hcl],?_];refine qz (xs:=os.map V.ref) (λi ys H'=>∃ts:List af,ys=ts.map V.ref/\ts.Nodup/\(∀t∈ts,H t=ae)/\eA H' (dY (gR H H') ts) ts ((cs.take i).map (GK cs))) hcl (by rw[aJ,hl,bQ];lia) (λi ys H1 H2 S ⟨ts,Y,U,M,e4⟩=>#[ts,Y,U,M,e4.same S (aat (QL S))]) #[[],Z,mi,λv h=>(dB h).elim,.nil] ?_ ?_ ?_
 .exact λv=>Z
 .rintro D i x H1 ys hx hD O S1 hl1 ⟨ts,rfl,f,hfr,I⟩ R hR;have hi:i<cs.length:=by have:=(bx.mp hx).1;rw[aJ] at this;simp_all
  have hc:=aY hi;generalize cs[i]=c at hc;have SH:=S1.trans cU;obtain⟨o,ho,hco⟩:=(hcs.same SH).get hc;obtain rfl:x=V.ref o:=by rw[ho] at hx;exact(bf hx).symm
  obtain⟨k1,k2,k3,k4,k5⟩:=ax i c hc;have hsz:=size_pos k1;have hg:=bF (y6 _ hsz.1) k5;refine#[_,Z,_,Z,cl,o,os,cs,c,Z,SH.seq hcl,hcs.same SH,ax.cV,hco,k1,λj hj=>gy (k3 j hj) hi,hg,λH4 t gs S4 J ht hgs=>hR _ _ S4 #[ts++[t],by rw[bR];rfl,?_,?_,?_]]
  .rw[oV];refine#[f,by simp,λx hx y hy=>?_]
   rw[cj] at hy;subst hy;rintro rfl;obtain⟨zs,hz⟩:=I.mem x hx;rw[(bh hz).2] at J;cases J
  .intro x hx;obtain hx|hx:=df.mp hx
   .exact hfr x hx
   .rw[cj] at hx;subst hx;exact SH.free J
  .rw[take_snoc hc,bR];have htD:t≠D:=λz=>by subst z;rw[O] at J;cases J
   refine eX (I.same (λb u e=>?_) λb u e=>?_) #[gs,aQ htD ht,hgs.same λb u e=>?_]
   .obtain⟨Y,U⟩:=bh e;exact aQ Y (S4 _ _ U)
   .obtain⟨Y,U⟩:=j9 e;obtain⟨M,e4⟩:=jw U;obtain⟨e5,e6⟩:=bh e4;refine iE (λz=>?_) (fO M (aQ e5 (S4 _ _ e6)));obtain z|z:=df.mp z
    .exact Y z
    .rw[cj] at z;subst z;rw[e6] at J;cases J
   .obtain⟨Y,U⟩:=bh e;obtain⟨M,e4⟩:=jw U;refine iE (λz=>?_) (fO (SH.free M) (aQ (λz=>by subst z;rw[O] at M;cases M) e4))
    obtain z|z:=df.mp z
    .obtain⟨zs,hz⟩:=I.mem b z;rw[(bh hz).2] at M;cases M
    .rw[cj] at z;exact Y z
 .rintro D H1 ys hD S1 S1' O hl1 ⟨ts,rfl,f,hfr,I⟩;rw[aJ,hl,eV] at I;refine q H1 D ts S1 hD O f (λt ht=>#[hfr t ht,λz=>?_]) (I.same cU λb u e=>?_)
  .obtain⟨zs,hz⟩:=I.mem t ht;exact(bh hz).1 z
  .obtain⟨Y,U⟩:=j9 e;obtain⟨M,e4⟩:=jw U;obtain⟨e5,e6⟩:=bh e4;refine iE (λz=>?_) (fO M e6);obtain z|z:=bM.mp z
   .exact e5 z
   .exact Y z
end
noncomputable def Ext(H0 H H':Hp):Hp:=λb=>if H b=ae then H' b else H0 b
theorem j_(h:H b=ae)(e:H' b=aa u):Ext H0 H H' b=aa u:=by unfold Ext;rw[aC h];exact e
theorem kQ(S:ag H0 H)(e:H0 b=aa u):Ext H0 H H' b=aa u:=by unfold Ext;rw[aw (by rw[S _ _ e];exact λz=>by cases z)];exact e
theorem iF(e:Ext H0 H H' b=aa u):(H b=ae/\H' b=aa u)\/(H b≠ae/\H0 b=aa u):=by
 unfold Ext at e;by_cases h:H b=ae
 .rw[aC h] at e;exact .inl #[h,e]
 .rw[aw h] at e;exact .inr #[h,e]
theorem v_(S:ag H1 H2):ag (Ext H0 H H1) (Ext H0 H H2):=λb u e=>by
 unfold Ext at e⊢;by_cases h:H b=ae
 .rw[aC h] at e⊢;exact S _ _ e
 .rw[aw h] at e⊢;exact e
theorem QP:∀{ws:List Int},(∀x∈ws,0<=x)->0<=ws.sum
 |[],_=>by simp
 |x::ws,h=>by
  have I:=h x bH;have E:=QP (ws:=ws) λy A=>h y (bI _ A);rw[kW];lia
theorem sV(x y:Nat)(A:0<y):aW (x:Int) y=#[((x/bj x y:Nat):Int),y/bj x y]:=by
 unfold aW;rw[aw (by lia),wk,fR]
section
variable {w:aS}{base:aU}
inductive QQ(a:Ad)(K:aP)(vs:List V)(H:Hp)(Q:VK)(x_0:XK):Prop|m:∀(cl:af)(i:Nat)(os:List af)(cs:List Column)(c:Column),vs=[.ref cl,.int (i:Nat)]->ao K H cl (os.map V.ref)->ft a H os cs->sS cs->cs[i]? =aa c->(∀j∈c.parents,j<cs.length)->(∀p,H p=ae->Q (.ref p) (upd H p (.lst [.int (bw cs c.parents:Nat),.int (aD c.kind:Nat)])))->QQ a K vs H Q x_0
theorem GL(T:TX K mg a d):aV P w K mg base bo 43 a.oB d.oB ["columns","number"] (QQ a K):=by
 refine T.oB.ok bE λnD b A outer s H vs Q E hr h=>?_;obtain⟨cl,i,os,cs,c,rfl,M,J,I,O,U,q⟩:=h;refine#[_,(ay (aM 2 (bt b8 (pv 0) (pv 1)))
   (aF (aZ (bU (ah (a_ T.mT (BV T) (ah (pv 0) (ah (aK (pv 2) Z) ak))) (ah (a_ T.size_of (oR T) (ah (aK (pv 2) Z) ak)) ak)))))),?_]
 rcases J.get O with⟨o,S,dx,nb,k,p,R,h2,Y,V⟩;refine#[_,Z,_,Z,cl,_,_,_,Z,Z,M,bY S,?_];dsimp only[aR,aN,L2.start];exact#[_,Z,_,Z,o,_,dx,_,_,Z,R,T.ez,T.sP,uw,cl,p,os,cs,c.parents,Z,M,J,ao.of V,I,U,_,Z,o,_,dx,_,_,Z,R,T.ez,T.i5,jy,k,c.kind,Z,Y,I c (dg O),cb,q]
inductive QR(a:Ad)(K:aP)(vs:List V)(H:Hp)(Q:VK)(x_0:XK):Prop|m:∀(wl g:af)(ws:List Int)(old:List cK)(H0:Hp),vs=[.ref wl,.ref g]->ao K H wl (nV ws)->ag H0 H->uD H0 g old->(∀x∈ws,0<=x)->ws.length<=1000->old.length<=1000->(∀H' g' xs,ag H H'->H g'=ae->H' g'=aa (.lst (xs.map V.ref))->jA (Wo (Ext H0 H H') g') xs (if ws.sum=0 then old else ws.map λx=>aW x ws.sum.toNat)->Q (.ref g') H')->QR a K vs H Q x_0
theorem GN(T:TX K mg a d)(hP:P.given.tree=ae):aV P w K mg base bo 43 a.mV d.mV ["weights","before"] (QR a K):=by
 refine T.mV.ok bE λnD cdv A outer s H vs Q E hr h=>?_;obtain⟨wl,g,ws,old,H0,rfl,O,S0,hg,J,hlw,hlo,q⟩:=h;refine#[_,(ay (aM 2 (cz (xy Z) Z T.ye xQ (ah (pv 0) ak)))
   (ay (cy (b9 mG (pv 2) aX (cu _)) (aF (aZ (vx (UO) Z T.Zi Xz (ah (pv 1) ak)))) cC)
   (aF (aZ (pM Z nD (d_ (pv 0)) (own:=[("weight",3)]) T.mV.s.c9 (λy y y y y=>(bJ 3)) (λy y y y y=>gh) (λy y y y y=>(a_ T.lN (yk T hP) (ah (pv 3) (ah (pv 2) ak))))))))),?_]
 have hs0:=QP J;refine#[_,Z,wl,ws,Z,O,?_];dsimp only[aR,aN,L2.start,cN];refine cX (decide (ws.sum=0)) (λR q'=>#[_,Z,Z,_,Z,?_]) ?_
 .rw[show decide (V.int ws.sum=V.int 0)=decide (ws.sum=0) by rw[d9];exact#[λz=>by injection z,λz=>by rw[z]]]
  exact q'
 by_cases h0:ws.sum=0
 .rw[bX h0];rw[aC h0] at q;obtain⟨xs,h1,h2⟩:=hg;exact bu #[_,Z,g,_,Z,.inl (ao.of (S0 _ _ h1)),λl hl=>q _ l xs (ag.new hl) hl aA (h2.same λb u e=>aQ (bc (S0 _ _ e) hl) (kQ S0 e))]
 .rw[bO h0];rw[aw h0] at q;refine br ?_;dsimp only[di,mF];refine i7 #[_,Z,wl,Z,#[_,O],?_];refine qz (xs:=nV ws) (λi ys H'=>∃xs:List af,ys=xs.map V.ref/\jA (Ext H0 H H') xs ((ws.take i).map λx=>aW x ws.sum.toNat)) O (by rw[iD,bQ];lia) (λi ys H1 H2 S ⟨xs,Y,U⟩=>#[xs,Y,U.same (v_ S)]) #[[],Z,.nil] ?_ ?_ ?_
  .exact λy=>Z
  .rintro D i x H1 ys hx hD M S1 hl ⟨xs,rfl,I⟩ R hR;have hi:=by have:=(bx.mp hx).1;rw[iD] at this;exact this
   have hn:=aY hi;have hn0:=J _ (ff hi);generalize ws[i]=n at hn hn0;obtain rfl:x=V.int n:=by rw[qA hn] at hx;exact(bf hx).symm
   have hnn:((n.toNat:Nat):Int)=n:=by lia
   have hss:((ws.sum.toNat:Nat):Int)=ws.sum:=by lia
   refine#[_,Z,_,Z,n.toNat,ws.sum.toNat,by rw[hnn,hss];rfl,by lia,λp c=>hR _ _ (ag.new c) #[xs++[p],by rw[bR];rfl,?_]]
   have hpD:p≠D:=λz=>by subst z;rw[M] at c;cases c
   rw[take_snoc hn,bR];refine eX (jA.same (v_ λb u e=>?_) I) (j_ ((S1.trans cU).free c) (aQ hpD ?_))
   .obtain⟨Y,U⟩:=bh e;exact aQ Y (ag.new c _ _ U)
   .have hfl:=sV n.toNat ws.sum.toNat (by lia)
    rw[hnn] at hfl
    try dsimp only
    rw[hfl,aA]
  .rintro D H1 ys hD S1 S1' M hl ⟨xs,rfl,I⟩;rw[iD,eV] at I;refine q H1 D xs S1 hD M (I.same λb u e=>?_);obtain⟨Y,U⟩|⟨Y,U⟩:=iF e
   .obtain⟨e3,e4⟩:=bh U;exact aQ e3 (j_ Y e4)
   .exact aQ (λz=>by subst z;exact Y hD) (kQ S0 U)
end
def gp(H:Hp)(gs:List af)(ct:List (List Nat)):Prop:=Paired (λg cnt=>H g=aa (.lst (iV cnt))) gs ct
theorem gp.same{ct}(S:ag H H')(h:gp H gs ct):gp H' gs ct:=Paired.eJ h λx x q=>S _ _ q
section
variable {w:aS}{base:aU}
inductive QS(a:Ad)(K:aP)(vs:List V)(H:Hp)(Q:VK)(x_0:XK):Prop|m:∀(cl bl:af)(A B:Nat)(cgs gs:List af)(ct:List (List Nat))(old:cx)(H0:Hp),vs=[.ref cl,.ref bl,.int (A:Int),.int (B:Int)]->H cl=aa (.lst (cgs.map V.ref))->gp H cgs ct->H bl=aa (.lst (gs.map V.ref))->ag H0 H->jB H0 gs old->ct.length=old.length->ct.length<=1000->(∀c∈ct,c.length<=1000/\∀n∈c,n<=1000)->(∀o∈old,o.length<=1000)->(∀H' t gs',ag H H'->H t=ae->H' t=aa (.lst (gs'.map V.ref))->jB (Ext H0 H (Wo H' t)) gs' (sf A B ct old)->Q (.ref t) H')->QS a K vs H Q x_0
theorem aau{E A J:Type}{f:E->A->J}{l:List E}{m:List A}{x}{y}(hx:l[i]? =aa x)(I:m[i]? =aa y):oW f (l.take (i+1)) (m.take (i+1))=oW f (l.take i) (m.take i)++[f x y]:=by
 rw[take_snoc hx,take_snoc I,List.zipWith_append]
 .rfl
 .have O:=(bx.mp hx).1;have M:=(bx.mp I).1;rw[gw,gw];lia
theorem aav(T:TX K mg a d)(hP:P.given.tree=ae):aV P w K mg base bo 44 a.qb d.qb ["counts","before","ahead_above","ahead_below"] (QS a K):=by
 refine T.qb.ok bE λnD cdv A' outer s H vs Q E hr h=>?_;obtain⟨cl,bl,A,B,cgs,gs,ct,old,H0,rfl,hcl,hct,hbl,S0,hold,hlen,hl1,hcs,hos,q⟩:=h;refine#[_,(ay (aM 4 (bU ak))
   (ay (du dM Z (vD Z T.sN (ah (pv 0) (ah (pv 1) ak))) (iP Z (dj (bJ 5) (dj (bJ 6) gJ))) (ay (pN (i:=7) Z nD Z Z Z (d_ (pv 5)) (own:=[("count",8)]) T.qb.s.c9 (λt t t t t=>(bJ 8)) (λt t t t t=>gh) (λt t t t t=>(bg eK (bg gi (pv 8) (pv 3)) (pv 2))))
   (aF (dU (eP eO je jf jl (pv 4) (ah (a_ T.mV (GN T hP) (ah (pv 7) (ah (pv 6) ak))) ak))))))
   (aF (aZ (pv 4))))),?_]
 have n1:=bS hct;have n2:=bS hold;refine#[c7 _,λM hfl=>?_];dsimp only[aR,aN,L2.start];have Sf:ag H (upd H M (.lst [])):=ag.new hfl;have U:∀{H':Hp},ag H (Wo H' M)->ag H H':=λS=>S.trans cU;refine#[_,Z,_,Z,cl,bl,_,_,Z,ao.of (Sf _ _ hcl),ao.of (Sf _ _ hbl),BX (a:=cl) (b:=bl) (xs:=cgs.map V.ref) (ys:=gs.map V.ref) 5 6 (λT' x y v H Q hT hQ=>#[T',_,Z,.inl (.inl hT),Z,_,_,Z,_,_,Z,Z,hQ]) (λi v H'=>ag H (Wo H' M)/\∃(I:List af)(v5 v6 v7:Option V),v=[aa (.ref cl),aa (.ref bl),aa (.int (A:Int)),aa (.int (B:Int)),aa (.ref M),v5,v6,v7,ae]/\H' M=aa (.lst (I.map V.ref))/\I.length=i/\jB (Ext H0 H (Wo H' M)) I (sf A B (ct.take i) (old.take i))) (by rw[aJ,aJ];simp_all) #[λb u e=>aQ (bc e hfl) (Sf _ _ e),[],ae,ae,ae,Z,aA,Z,.nil] (λi v H' t ⟨S,_⟩=>#[ao.of (U S _ _ hcl),ao.of (U S _ _ hbl)]) ?_ ?_]
 .rintro i x y v H' hx hy ⟨S,I,v5,v6,v7,rfl,hf,c,J⟩ H2 S2;have hi:i<ct.length:=by have:=(bx.mp hx).1;rw[aJ] at this;simp_all
  have hc:=aY hi;have ho:old[i]? =aa old[i]:=aY (by lia)
  generalize ct[i]=cnt at hc;generalize old[i]=o at ho;obtain⟨cg,hcg,hcn⟩:=Paired.at_ hct hc;obtain⟨g,hg,hgo⟩:=Paired.at_ hold ho;obtain rfl:x=V.ref cg:=by rw[bL,hcg] at hx;exact(bf hx).symm
  obtain rfl:y=V.ref g:=by rw[bL,hg] at hy;exact(bf hy).symm
  obtain⟨c1,c2⟩:=hcs cnt (dg hc);have o1:=hos o (dg ho);have SH2:=(U S).trans S2;dsimp only[aN,cN,jk];refine i7 #[_,Z,cg,Z,#[_,ao.of (SH2 _ _ hcn)],?_];refine qz (xs:=iV cnt) (λj ys t=>ys=nV (kH A B (cnt.take j))) (ao.of (SH2 _ _ hcn)) (by rw[cY,bQ];lia) (λt t t t t h=>h) Z ?_ ?_ ?_
  .exact λt=>Z
  .rintro D j x H3 ys hx hD hys S3 hl rfl R hR;obtain⟨n,hn,rfl⟩:=gS hx;have hn1:=c2 n (dg hn);refine#[_,Z,_,Z,_,_,Z,Z,.of_left (uX (by lia) (by lia)),_,Z,_,_,Z,Z,hR _ _ (ag.refl _) ?_]
   rw[take_snoc hn];delta kH nV;rw[bR,bR];rfl
  .rintro D H3 ys hD S3 S3' hys hl hF;rw[cY,eV] at hF;subst hF;dsimp only[aR,aN];have SH3:=SH2.trans S3;have O:=S3 _ _ (S2 _ _ hf);refine#[_,Z,.inl #[Z,_,ao.of O],_,Z,_,Z,D,g,kH A B cnt,o,H0,Z,ao.of hys,S0.trans SH3,hgo,FL,by delta kH;rw[aJ];exact c1,o1,λH4 g' xs S4 hg0 hg' hfr=>?_]
   have hf4:=S4 _ _ O;have Y:g'≠M:=λz=>by subst z;rw[O] at hg0;cases hg0
   refine#[M,_,_,Z,Z,hf4,by rw[aJ,c,bQ];lia,?_]
   have Sw:ag (Wo H' M) (Wo (upd H4 M (.lst (I.map V.ref++[.ref g']))) M):=λb u e=>by
    obtain⟨e1,e2⟩:=bh e;exact aQ e1 (by rw[aB e1];exact S4 _ _ (S3 _ _ (S2 _ _ e2)))
   refine#[S.trans Sw,I++[g'],_,_,_,Z,by rw[aA,bR];rfl,by rw[b6,c];rfl,?_]
   delta sf;rw[aau hc ho];refine eX (J.same (v_ Sw)) #[xs,j_ (SH3.free hg0) (aQ Y (by rw[aB Y];exact hg')),hfr.same λb u e=>?_]
   obtain⟨e1,e2⟩:=bh e;obtain⟨e3,e4⟩|⟨e3,e4⟩:=iF e2
   .have hb:b≠M:=λz=>by subst z;rw[O] at e3;cases e3
    exact j_ (SH3.free e3) (aQ hb (by rw[aB hb];exact e4))
   .exact kQ S0 e4
 .rintro v H' ⟨S,I,v5,v6,v7,rfl,hf,c,J⟩;rw[aJ,n1,eV,mj (by simp_all)] at J
  exact#[_,Z,q H' M I (U S) hfl hf J]
end
end CC
namespace L2
open CC (Wo aQ bh cU)
theorem GO{a}{σ}(hg:∀T x y σ H Q,H T=aa (.tup [x,y])->Q ((σ.set j (aa x)).set k (aa y)) H->g (.ref T) σ H Q)(hgm:∀x σ H P P',(∀σ H,P σ H->P' σ H)->g x σ H P->g x σ H P')(F:Nat->List V->Hp->Prop)(ha:ao K H1 a xs)(hb:ao K H1 b ys)(hxy:ys.length=xs.length)(hn:xs.length<bp)(hm:∀i A H H',ag H H'->F i A H->F i A H')(h0:F 0 [] H1)(hw:∀x y,wipe (((wipe σ vs).set j (aa x)).set k (aa y)) vs=wipe σ vs)(hs:∀D i x y H A,xs[i]? =aa x->ys[i]? =aa y->H1 D=ae->H D=aa (.lst A)->ag H1 (Wo H D)->A.length=i->F i A (Wo H D)->∀R,(∀v Y,ag H Y->F (i+1) (A++[v]) (Wo Y D)->R v Y)->te (((wipe σ vs).set j (aa x)).set k (aa y)) H R)(hd:∀D H A,H1 D=ae->ag H1 H->ag H1 (Wo H D)->H D=aa (.lst A)->A.length=xs.length->F xs.length A (Wo H D)->Q (.ref D) H):LcK (Itz K a b) g te vs σ H1 Q:=by
 have I:∀{D H},H1 D=ae->ag H1 (Wo H D)->ag H1 H:=λz S=>λb u e=>(bh (S _ _ e)).2;refine AX _ (λD i H=>H1 D=ae/\ag H1 _/\∃A,H D=aa (.lst A)/\A.length=i/\F i A (Wo H D)) (λD E=>?_) (λD i H hi ⟨E,S,_⟩=>#[xs,ys,_,_,(I E S).seq ha,(I E S).seq hb,aY hi,aY (by simp_all)]) (λD H ⟨E,S,_⟩=>#[xs,ys,(I E S).seq ha,(I E S).seq hb,.inl (bb _)]) ?_ hgm ?_
 .have S:ag H1 (Wo (upd H1 D (.lst [])) D):=λb u e=>aQ (bc e E) (by rw[aB (bc e E)];exact e)
  exact#[E,S,[],aA,Z,hm _ _ _ _ S h0]
 .rintro D i H hi ⟨E,S,A,J,U,hF⟩ v H' ⟨T,x,y,rfl,hT,rfl,hx,c⟩;have hx:=hx xs ((I E S).seq ha);have c:=c ys ((I E S).seq hb);have ST:ag H (upd H T (.tup [x,y])):=ag.new hT;have Sw:ag _ (Wo _ D):=λb u e=>by
   obtain⟨M,O⟩:=bh e;exact aQ M (ST _ _ O)
  refine hg T x y _ _ _ aA #[hw x y,hs D i x y _ A hx c E (ST _ _ J) (S.trans Sw) U (hm _ _ _ _ Sw hF) _ λv Y S4 hF4=>#[A,S4 _ _ (ST _ _ J),by lia,E,λb u e=>?_,_,aA,by rw[b6,U];rfl,hm _ _ _ _ (λb u e=>?_) hF4]]
  .obtain⟨M,O⟩:=bh (S _ _ e);exact aQ M (by rw[aB M];exact S4 _ _ (ST _ _ O))
  .obtain⟨M,O⟩:=bh e;exact aQ M (by rw[aB M];exact O)
 .rintro D H ⟨E,S,A,J,U,hF⟩;exact hd D H A E (I E S) S J U hF
end L2
namespace CC
theorem lY{x y f:Nat}(hx:x<=2^e)(A:y<=2^f)(h:e+f+2<=134217728):CO x y:=by
 have bits:∀{n k:Nat},n<=2^k->fi.Int.intBits n<=k+1:=λE=>by
  refine intBits_le_iff.mpr ?_;exact tE E (Nat.pow_lt_pow_right (by simp) (by simp))
 exact CO.of_le (bits hx) (bits A) (by lia)
theorem i8{x g}(h:x<=2^e):x/g<=2^e:=bF (oX _ _) h
section
variable {w:aS}{base:aU}
inductive QT(K:aP)(vs:List V)(H:Hp)(Q:VK)(x_0:XK):Prop|m:∀(p q:af)(x y z u e f:Nat),vs=[.ref p,.ref q]->cM K H p [.int (x:Nat),.int (y:Nat)]->cM K H q [.int (z:Nat),.int (u:Nat)]->0<y->0<u->x<=2^e->y<=2^e->z<=2^f->u<=2^f->e+f+2<=134217728->(∀r,H r=ae->Q (.ref r) (upd H r (.tup [.int ((x/bj x u* (z/bj y z):Nat):Int),.int ((y/bj y z* (u/bj x u):Nat):Int)])))->QT K vs H Q x_0
theorem aaw(T:TX K mg a d)(O:P.given.tree=ae):aV P w K mg base bo 42 a.times d.times ["one","other"] (QT K):=by
 refine T.times.ok bE λnD b A outer s H vs Q E hr h=>?_;obtain⟨p,q,x,y,z,u,e,f,rfl,M,J,V,Y,x1,x2,x3,U,S,k⟩:=h;have I:=hr.pP (by decide)
 refine#[_,(ay (aM 2 (a_ T.jZ (uq T) (ah (bt ec (pv 0) aX) (ah (bt ec (pv 1) aX) ak))))
   (ay (aM 3 (a_ T.jZ (uq T) (ah (bt ec (pv 0) aX) (ah (bt ec (pv 1) aX) ak))))
   (aF (aZ (vu (ah (bg gi (bg (kF I O) (bt ec (pv 0) aX) (pv 2)) (bg (kF I O) (bt ec (pv 1) aX) (pv 3))) (ah (bg gi (bg (kF I O) (bt ec (pv 0) aX) (pv 3)) (bg (kF I O) (bt ec (pv 1) aX) (pv 2))) ak))))))),?_]
 have g1:0<bj x u:=kY _ Y;have g2:0<bj y z:=y4 _ V;refine#[_,Z,p,_,_,_,Z,Z,M,Z,_,Z,q,_,_,_,Z,Z,J,Z,x,u,Z,?_];dsimp only[aR,aN,L2.start];refine#[_,Z,p,_,_,_,Z,Z,M,Z,_,Z,q,_,_,_,Z,Z,J,Z,y,z,Z,?_];dsimp only[aR,aN,L2.start];refine#[_,Z,p,_,_,_,Z,Z,M,Z,_,Z,_,_,Z,Z,(by simp_all),_,Z,q,_,_,_,Z,Z,J,Z,_,Z,_,_,Z,Z,(by simp_all),_,_,Z,Z,?_,_,Z,p,_,_,_,Z,Z,M,Z,_,Z,_,_,Z,Z,(by simp_all),_,Z,q,_,_,_,Z,Z,J,Z,_,Z,_,_,Z,Z,(by simp_all),_,_,Z,Z,?_,cb,λr R=>?_]
 .rw[<-fR,<-fR];exact lY (i8 x1) (i8 x3) S
 .rw[<-fR,<-fR];exact lY (i8 x2) (i8 U) S
 .have:=k r R;simpa using this
end
end CC
namespace L2
theorem GP{e:eN}{rest:List eN}(hd:X.A.depth+DI<u0)(U:X.prog.given.tree=ae)(E:X.stack=e::rest)(R:e.builtins=zm)(J:e.globals=o_)(M:e.scope.isGenerator=az)(O:e.scope.isCoroutine=az):dR X (nA .FloorDiv) (rI (λz j=>0<j) λi j=>.int (i/j)):=by
 intro pins s a H x y v u Q I T S h;obtain⟨i,j,rfl,rfl,V,q⟩:=h;obtain⟨t,rfl⟩:=T;obtain⟨t',rfl⟩:=S;refine Iw (by lia) ?_ (.inr (Kn I.nolimit hd (Ko I.seer U (by rw[<-E];exact I.ok.frames) M O R J)))
 refine#[.int (i/j),H,I.tok _,#[s.toks,?_],q];rw[Hb i (yK V)]
end L2
namespace CC
section
variable {w:aS}{base:aU}
inductive QU(K:aP)(vs:List V)(H:Hp)(Q:VK)(x_0:XK):Prop|m:∀(p q:af)(x y z u e f:Nat),vs=[.ref p,.ref q]->cM K H p [.int (x:Nat),.int (y:Nat)]->cM K H q [.int (z:Nat),.int (u:Nat)]->0<y->0<u->x<=2^e->y<=2^e->z<=2^f->u<=2^f->e+f+2<=134217728->(∀r,H r=ae->∀s v t g:Nat,s=bj y u->v=y/s->t=x* (u/s)+z*v->g=bj t s->Q (.ref r) (upd H r (.tup [.int ((t/g:Nat):Int),.int ((v* (u/g):Nat):Int)])))->QU K vs H Q x_0
theorem aax(T:TX K mg a d)(M:P.given.tree=ae):aV P w K mg base bo 42 a.plus d.plus ["one","other"] (QU K):=by
 refine T.plus.ok bE λnD cdv A outer s H vs Q E hr h=>?_;obtain⟨p,q,x,y,z,u,e,f,rfl,R,J,Y,hu,x1,x2,x3,S,U,k⟩:=h;have I:=hr.pP (by decide)
 refine#[_,(ay (aM 2 (a_ T.jZ (uq T) (ah (bt ec (pv 0) aX) (ah (bt ec (pv 1) aX) ak))))
   (ay (aM 3 (bg (kF I M) (bt ec (pv 0) aX) (pv 2)))
   (ay (aM 4 (bg eK (bg gi (bt ec (pv 0) aX) (bg (kF I M) (bt ec (pv 1) aX) (pv 2))) (bg gi (bt ec (pv 1) aX) (pv 3))))
   (ay (aM 5 (a_ T.jZ (uq T) (ah (pv 4) (ah (pv 2) ak))))
   (aF (aZ (vu (ah (bg (kF I M) (pv 4) (pv 5)) (ah (bg gi (pv 3) (bg (kF I M) (bt ec (pv 1) aX) (pv 5))) ak))))))))),?_]
 have V:0<bj y u:=y4 _ Y;refine#[_,Z,p,_,_,_,Z,Z,R,Z,_,Z,q,_,_,_,Z,Z,J,Z,y,u,Z,?_];dsimp only[aR,aN,L2.start];refine#[_,Z,p,_,_,_,Z,Z,R,Z,_,Z,_,_,Z,Z,(by simp_all),?_]
 dsimp only[aR,aN,L2.start];refine#[_,Z,p,_,_,_,Z,Z,R,Z,_,Z,q,_,_,_,Z,Z,J,Z,_,Z,_,_,Z,Z,(by simp_all),_,_,Z,Z,?_,_,Z,q,_,_,_,Z,Z,J,Z,_,Z,_,_,Z,Z,?_,_,_,Z,Z,?_]
 .rw[<-fR];exact lY x1 (i8 S) U
 .rw[<-fR];exact lY x3 (i8 x2) (by lia)
 dsimp only[aR,aN,L2.start];have b:(x:Int)* ((u:Int)/(bj y u:Nat))+ (z:Int)* ((y:Int)/(bj y u:Nat))=((x* (u/bj y u)+z* (y/bj y u):Nat):Int):=by
  rw[<-fR,<-fR,yL,fH,fH]
 rw[b,<-fR];have g0:0<bj (x* (u/bj y u)+z* (y/bj y u)) (bj y u):=kY _ V;refine#[_,Z,_,Z,(x* (u/bj y u)+z* (y/bj y u)),bj y u,Z,?_];dsimp only[aR,aN,L2.start];refine#[_,Z,_,Z,_,_,Z,Z,(by lia),_,Z,_,Z,q,_,_,_,Z,Z,J,Z,_,Z,_,_,Z,Z,(by lia),_,_,Z,Z,?_,cb,λr O=>?_]
 .rw[<-fR];exact lY (i8 x2) (i8 S) U
 .have:=k r O _ _ _ _ Z Z Z Z
  try dsimp only
  rw[<-fR,<-fR,<-fH];exact this
inductive QV(K:aP)(vs:List V)(H:Hp)(Q:VK)(x_0:XK):Prop|m:∀(fl:af)(xs:List af)(fs:List cK)(M e:Nat),vs=[.ref fl]->ao K H fl (xs.map V.ref)->jA H xs fs->(∀f∈fs,0<f.den/\f.den∣M)->0<M->M<=2^e->e+e+2<=134217728->Q (.int (eR (fs.map λf=>f.den):Nat)) H->QV K vs H Q x_0
theorem QW(T:TX K mg a d)(hP:P.given.tree=ae):aV P w K mg base bo 42 a.p8 d.p8 ["fractions"] (QV K):=by
 refine T.p8.ok bE λnD cdv A outer s H vs Q E hr h=>?_;obtain⟨fl,xs,fs,M,e,rfl,U,S,hd,hM,hMe,he,q⟩:=h;have hpy:=hr.pP (by decide)
 refine#[_,(ay (aM 1 aX)
   (ay (du dM Z (d_ (pv 0)) (bJ 2) (aF (aM 1 (bg gi (bg (kF hpy hP) (pv 1) (a_ T.jZ (uq T) (ah (pv 1) (ah (bt ec (pv 2) aX) ak)))) (bt ec (pv 2) aX)))))
   (aF (aZ (pv 1))))),?_]
 have O:=bS S;have J:∀n∈fs.map (λf=>f.den),0<n:=λn I=>by
  obtain⟨f,Y,rfl⟩:=bK.mp I;exact(hd f Y).1
 refine#[_,Z,fl,Z,#[_,U],gf (a:=fl) (xs:=xs.map V.ref) (λi c H'=>H'=H/\∃v,c=[aa (.ref fl),aa (.int (eR ((fs.map λf=>f.den).take i):Nat)),v]) #[Z,ae,Z] (λi c H' z ⟨e,_⟩=>by rw[e];exact U) ?_ ?_]
 .rintro i y c H' hi ⟨rfl,v,rfl⟩;have R:i<fs.length:=by have:=(bx.mp hi).1;rw[aJ] at this;simp_all
  have Y:=aY R;have b:=hd _ (ff R);generalize fs[i]=f at Y b;obtain⟨x,hx,hfr⟩:=Paired.at_ S Y;obtain rfl:y=V.ref x:=by rw[bL,hx] at hi;exact(bf hi).symm
  have hT:cM K H' x [.int f.num,.int (f.den:Nat)]:=.inl (.inl hfr);have I:(fs.map λf=>f.den)[i]? =aa f.den:=by rw[bL,Y];rfl
  have hL0:=FT (l:=(fs.map λf=>f.den).take i) λn I=>J n (qH I);have hLM:eR ((fs.map λf=>f.den).take i)<=2^e:=bF (mq hM (OV (λn I=>J n (qH I)) λn I=>by
   obtain⟨g,hg,rfl⟩:=bK.mp (qH I);exact(hd g hg).2)) hMe
  have hdM:=bF (mq hM b.2) hMe;rw[YM I];generalize eR ((fs.map λf=>f.den).take i)=L at hL0 hLM;have hg:0<bj L f.den:=y4 _ hL0;dsimp only[aN];refine#[_,Z,_,Z,_,Z,x,_,_,_,Z,Z,hT,Z,L,f.den,Z,_,_,Z,Z,(by simp_all),_,Z,x,_,_,_,Z,Z,hT,Z,_,_,Z,Z,?_,Z,aa (.ref x),?_]
  .rw[<-fR];exact lY (i8 hLM) hdM he
  .rw[<-fR,<-fH];rfl
 .rintro c H' ⟨rfl,v,rfl⟩;refine#[_,Z,?_];rw[aJ,O,mj (by rw[aJ];simp)]
  exact q
inductive QX(K:aP)(vs:List V)(H:Hp)(Q:VK)(x_0:XK):Prop|m:∀(fl:af)(xs:List af)(fs:List cK)(L e f:Nat),vs=[.ref fl,.int (L:Nat)]->ao K H fl (xs.map V.ref)->jA H xs fs->(∀g∈fs,0<g.den/\0<=g.num/\g.num.toNat<=2^e)->L<=2^f->e+f+2<=134217728->fs.length<=5000->(∀H' D,ag H H'->H D=ae->H' D=aa (.lst (iV (fs.map λg=>fM g L)))->Q (.ref D) H')->QX K vs H Q x_0
theorem QY(T:TX K mg a d)(hP:P.given.tree=ae):aV P w K mg base bo 42 a.n9 d.n9 ["fractions","below"] (QX K):=by
 refine T.n9.ok bE λnD cdv A outer s H vs Q E hr h=>?_;obtain⟨fl,xs,fs,L,e,f,rfl,U,S,hd,hL,he,hlen5,q⟩:=h;have b:=hr.pP (by decide)
 refine#[_,(aF (aZ (pM Z nD (d_ (pv 0)) (own:=[("fraction",2)]) T.n9.s.c9 (λz z z z z=>(bJ 2)) (λz z z z z=>gh) (λz z z z z=>(bg gi (bt (Qx (K:=K)) (pv 2) aX) (bg (GP b hP Z Z Z Z Z) (pv 1) (bt (Qx (K:=K)) (pv 2) aX))))))),?_];have I:=bS S;dsimp only[mF];refine i7 #[_,Z,fl,Z,#[_,U],?_];refine qz (xs:=xs.map V.ref) (λi ys z=>ys=iV ((fs.take i).map λg=>fM g L)) U (by rw[aJ,I,bQ];lia) (λz z z z z h=>h) Z ?_ ?_ ?_
 .exact λz=>Z
 .rintro D i y H1 ys Y hD M S1 hl rfl R hR;have O:i<fs.length:=by have:=(bx.mp Y).1;rw[aJ] at this;simp_all
  have hf:=aY O;have J:=hd _ (ff O);generalize fs[i]=g at hf J;obtain⟨x,hx,hfr⟩:=Paired.at_ S hf;obtain rfl:y=V.ref x:=by rw[bL,hx] at Y;exact(bf Y).symm
  have hT:cM K H1 x [.int g.num,.int (g.den:Nat)]:=.inl (.inl ((bh (S1 _ _ hfr)).2));have hn:g.num=((g.num.toNat:Nat):Int):=by lia
  refine#[_,Z,x,_,_,_,Z,Z,hT,Z,_,Z,_,Z,x,_,_,_,Z,Z,hT,Z,_,_,Z,Z,(by lia),_,_,Z,Z,?_,hR _ _ (ag.refl _) ?_]
  .rw[hn,<-fR];exact lY J.2.2 (i8 hL) he
  .rw[take_snoc hf,bR];delta iV fM;rw[bR]
   congr 1
   show[V.int (g.num* ((L:Int)/(g.den:Nat)))]=[V.int ((g.num.toNat* (L/g.den):Nat):Int)];rw[<-fR,fH,yM J.2.1]
 .rintro D H1 ys hD S1 S1' M hl hF;rw[aJ,I,eV] at hF;subst hF;exact q H1 D S1 hD M
theorem aay(T:TX K mg a d):aV P w K mg base bo 42 a.sD d.sD ["numbers"] (λvs H Q x=>∃(I:af)(l:List Nat),vs=[.ref I]/\ao K H I (iV l)/\Q (.int (gO l:Nat)) H):=by
 refine T.sD.ok bE λnD R A outer s H vs Q E hr h=>?_;obtain⟨I,l,rfl,J,q⟩:=h;refine#[_,(ay (aM 1 aX)
   (ay (du dM Z (d_ (pv 0)) (bJ 2) (aF (aM 1 (a_ T.jZ (uq T) (ah (pv 2) (ah (pv 1) ak))))))
   (aF (aZ (pv 1))))),?_]
 refine#[_,Z,I,Z,#[_,J],gf (a:=I) (xs:=iV l) (λi z H'=>H'=H/\∃v,z=[aa (.ref I),aa (.int (gO (l.take i):Nat)),v]) #[Z,ae,Z] (λi z H' x ⟨e,_⟩=>by rw[e];exact J) ?_ ?_]
 .rintro i y z H' O ⟨rfl,v,rfl⟩;obtain⟨n,M,rfl⟩:=gS O;rw[YN M];dsimp only[aN];exact#[_,Z,_,Z,n,gO (l.take i),Z,Z,aa (.int (n:Nat)),Z]
 .rintro z H' ⟨rfl,v,rfl⟩;refine#[_,Z,?_];rw[cY,eV];exact q
end
end CC
namespace L2
inductive QZ(K:aP)(o:V)(i:V)(H:Hp)(Q:VK):Prop|m:∀p xs,∀j:Nat,∀v,o=.ref p->i=.int (j:Nat)->ao K H p xs->xs[j]? =aa v->Q v H->QZ K o i H Q
theorem Q0:Ls X (QZ X.K):=by
 intro pins s x H o i T U Q I J M h;obtain⟨p,xs,j,v,rfl,rfl,R,E,q⟩:=h;cases J;obtain⟨t,rfl⟩:=M;obtain⟨O,r,pl,hz⟩:=I.list R;obtain⟨w,S,A⟩:=r.get E;have Y:=r.length;have V:=vt;have a:=(bx.mp E).1;exact wpAny_getItem_list pl.isList (by simp) (by lia) (by rw[cI];simpa using S) #[v,H,I,A,q]
end L2
namespace CC
def qB(K:aP)(H:Hp)(ras:List af)(ls:List (List Int)):Prop:=Paired (λA l=>ao K H A (nV l)) ras ls
theorem qB.same(S:ag H H')(h:qB K H ras ls):qB K H' ras ls:=Paired.eJ h λx x q=>S.seq q
theorem aaz x l:nQ (.int x) (nV l)=decide (x∈l):=by
 delta nQ nV;rw[List.any_map,gu,qG,fD];constructor
 .rintro⟨y,A,e⟩;have:=by simpa[iS] using e
  exact this▸A
 .intro h;exact#[x,h,by simp[iS]]
theorem aaA l:(nV l).all iR=ai:=Fb l
theorem Paired.mapM{I E}{F G}{A:List I}{l₂:List E}(e:Paired F A l₂)(h:∀a b,a∈A->F a b->G a b):Paired G A l₂:=by induction e with|nil=>exact .nil|cons q t f=>exact .cons (h _ _ bH q) (f λa b J=>h a b (bI _ J))
theorem GQ(h:j<n):pK n j=aa j:=by
 delta pK;rw[aC (by simp),aC (by simp_all),cI]
theorem gp.put{ct}(J:gs.Nodup)(h:gp H gs ct){g}{ga}{cnt}(A:gs[g]? =aa ga):gp (upd H ga (.lst (iV cnt))) gs (ct.set g cnt):=by
 have key:∀gs ct g,gs.Nodup->gp H gs ct->gs[g]? =aa ga->gp (upd H ga (.lst (iV cnt))) gs (ct.set g cnt):=by
  intro gs
  induction gs with
  |nil=>intro ct g _ _ A;simp at A
  |cons x gs R=>
   intro ct g J h A;cases h with
   |cons q t=>
    obtain⟨M,O⟩:=nq.mp J;cases g with
    |zero=>
     have:=by simpa using A
     subst this;refine .cons aA (Paired.mapM t λy a S z=>?_);have E:y≠x:=λe=>M (by rw[<-e];exact S)
     rw[aB E];exact z
    |succ g=>
     have A:=by simpa using A
     have I:x≠ga:=λe=>M (e▸dg A);exact .cons (by rw[aB I];exact q) (R _ g O t A)
 exact key gs ct g J h A
theorem Q1 l v n:(iV l).set v (.int (n:Nat))=iV (l.set v n):=by delta iV;rw[HJ]
theorem wa{l}{v:Nat}(h:l[v]? =aa n):(iV l)[v]? =aa (.int n):=by delta iV;rw[bL,h];rfl
section
variable {w:aS}{base:aU}
inductive Q2(a:Ad)(K:aP)(vs:List V)(H:Hp)(Q:VK)(x_0:XK):Prop|m:∀(cl rl:af)(i:Nat)(os ras:List af)(cs:List Column)(c:Column)(ls:List (List Int)),vs=[.ref cl,.int (i:Nat),.ref rl]->ao K H cl (os.map V.ref)->ft a H os cs->cO cs->cs[i]? =aa c->ao K H rl (ras.map V.ref)->qB K H ras ls->(∀l∈ls,cG (cV cs) l)->ls.length<=1000->(∀H' t gs,ag H H'->H t=ae->H' t=aa (.lst (gs.map V.ref))->gp H' gs (eQ cs i c ls)->(∀g∈gs,H g=ae)->Q (.ref t) H')->Q2 a K vs H Q x_0
theorem Q3(T:TX K mg a d):aV P w K mg base bo 43 a.mU d.mU ["columns","number","rows"] (Q2 a K):=by
 refine T.mU.ok bE λnD cdv A outer s H vs Q E hr h=>?_;rcases h with⟨cl,rl,i,os,ras,cs,c,ls,rfl,hcl,hcs,ax,hc,hrl,hrs,hro,hlen,q⟩;refine#[_,(ay (aM 3 (bt b8 (pv 0) (pv 1)))
   (ay (aM 4 (a_ T.size_of (oR T) (ah (aK (pv 3) Z) ak)))
   (ay (pN (i:=5) Z nD Z Z Z (vr Z T.vR (ah (a_ T.mT (BV T) (ah (pv 0) (ah (aK (pv 3) Z) ak))) ak)) (own:=[("group",6)]) T.mU.s.c9 (λt t t t t=>(bJ 6)) (λt t t t t=>gh) (λt t t t t=>(bg vA (bU (ah aX ak)) (pv 4))))
   (ay (du dM Z (d_ (pv 2)) (bJ 7) (aF (cy (b9 UN (bZ Z T.BD) (pM Z nD (d_ (bg lz (bU (ah (pv 1) ak)) (aK (pv 3) Z))) (own:=[("needed",8)]) T.mU.s.c9 (λt t t t t=>(bJ 8)) (λt t t t t=>gh) (λt t t t t=>(bt (Z7 (K:=K)) (pv 7) (pv 8)))) (by with_unfolding_all rfl)) (ay (aM 6 (a_ T.sv (aap T) (ah (pv 0) (ah (aK (pv 3) Z) (ah (pv 7) ak)))))
   (aF (Lu (bt b8 (pv 5) (pv 6)) (bg rO (bt b8 (pv 7) (pv 1)) (aK (aK (pv 3) Z) Z)) Q0 aX Lv set_list))) cC)))
   (aF (aZ (pv 5))))))),?_]
 have hl:=bS hcs;have hil:=(bx.mp hc).1;obtain⟨o,ho,hco⟩:=hcs.get hc;rcases ax i c hc with⟨k1,k2,k3,k4,k5⟩;have hsz:=size_pos k1;have hg:=bF (y6 _ hsz.1) k5;have bC:=λp hp=>gy (k3 p hp) hil;rcases hco with⟨dx,nb,k,pp,h1,h2,h3,h4⟩;refine#[_,Z,_,Z,cl,_,_,_,Z,Z,hcl,bY ho,?_];dsimp only[aR,aN,L2.start];refine#[_,Z,o,_,dx,_,_,Z,h1,T.ez,T.i5,jy,k,c.kind,Z,h3,k1,?_];dsimp only[aR,aN,L2.start,cN,jk];refine i7 #[_,Z,_,Z,o,_,dx,_,_,Z,h1,T.ez,T.sP,uw,cl,pp,os,cs,c.parents,Z,hcl,hcs,ao.of h4,ax.cV,bC,?_];refine#[((bw cs c.parents:Nat):Int),Z,by simp,by lia,?_]
 rw[cI];refine yq (λj ys H'=>∃gs:List af,ys=gs.map V.ref/\gs.Nodup/\(∀g∈gs,H g=ae)/\gp H' gs (cR j (cR (aD c.kind) 0))) (by rw[bQ];lia) (λj ys H2 H2' S ⟨gs,e1,e2,e3,e4⟩=>#[gs,e1,e2,e3,e4.same S]) #[[],Z,mi,λt h=>(dB h).elim,.nil] ?_ ?_ ?_
 .exact λt=>Z
 .rintro D j H1 ys hj hD O S1 hl1 ⟨gs,rfl,hnd,hfr,J⟩ R hR;have SH:=S1.trans cU;refine#[cb,λg0 hg0=>#[_,Z,g0,_,_,Z,Z,aA,by simp,by lia,?_,λg hgn=>?_]]
  .rw[cI,kT,bQ];lia
  have S0:ag H1 (upd H1 g0 (.lst [.int 0])):=ag.new hg0;have Sg:=S0.trans (ag.new (o:=.lst (cR ((aD c.kind:Nat):Int).toNat [V.int 0]).flatten) hgn);have hgD:g≠D:=λz=>by subst z;rw[S0 _ _ O] at hgn;cases hgn
  have hg1:=S0.free hgn;refine hR _ _ Sg #[gs++[g],by rw[bR];rfl,?_,?_,?_]
  .rw[oV];refine#[hnd,by simp,λx hx y hy=>?_]
   rw[cj] at hy;subst hy;rintro rfl;obtain⟨n,U⟩:=kh.mp hx;have hnl:n<(cR j (cR (aD c.kind) 0)).length:=by
    have:=bS J;have h0:=(bx.mp U).1;simp_all
   obtain⟨x',Y,hcx⟩:=Paired.at_ J (aY hnl);rw[U] at Y;cases Y;rw[(bh hcx).2] at hg1;cases hg1
  .intro x hx;obtain hx|hx:=df.mp hx
   .exact hfr x hx
   .rw[cj] at hx;subst hx;exact SH.free hg1
  .rw[HU];refine eX (gp.same (λb u e=>?_) J) (aQ hgD ?_)
   .obtain⟨e1,e2⟩:=bh e;exact aQ e1 (Sg _ _ e2)
   .rw[aA,cI,uE];unfold iV;rw[uJ];rfl
 .rintro D H1 ys hD S1 S1' O hl1 r;rcases r with⟨gs,rfl,hnd,hfr,J⟩;have hDg:∀g∈gs,g≠D:=λg hg z=>by
   obtain⟨n,U⟩:=kh.mp hg;have hnl:n<(cR (bw cs c.parents) (cR (aD c.kind) 0)).length:=by
    have:=bS J;have h0:=(bx.mp U).1;simp_all
   obtain⟨x',Y,hcx⟩:=Paired.at_ J (aY hnl);rw[U] at Y;cases Y;exact(bh hcx).1 z
  have hgl:=bS J;rw[Cw] at hgl;refine#[_,Z,rl,Z,#[_,S1.seq hrl],gf (a:=rl) (xs:=ras.map V.ref) (λj X H'=>ag H H'/\H' D=aa (.lst (gs.map V.ref))/\gp H' gs (eQ cs i c (ls.take j))/\∃v6 v7 v8,X=[aa (.ref cl),aa (.int (i:Nat)),aa (.ref rl),aa (.ref o),aa (.int (aD c.kind:Nat)),aa (.ref D),v6,v7,v8]) #[S1,O,by rw[HX,Yh];exact J.same cU,_,_,_,Z] (λj X H' t ⟨S,_⟩=>S.seq hrl) ?_ ?_]
  .rintro j y X H' hj r;rcases r with⟨S,hDt,hcn,v6,v7,v8,rfl⟩;have hjl:j<ls.length:=by have:=(bx.mp hj).1;rw[aJ] at this;have:=bS hrs;simp_all
   have hlj:=aY hjl;have hrow:=hro _ (ff hjl);generalize ls[j]=l at hlj hrow;obtain⟨ra,hra,hsq⟩:=Paired.at_ hrs hlj;obtain rfl:y=V.ref ra:=by rw[bL,hra] at hj;exact(bf hj).symm
   have hrl':=by have:=hrow.len;unfold cV at this;rw[aJ] at this;exact this
   have f:=S.seq hsq;dsimp only[aN];have hids:∀x∈i::c.parents,x<cs.length:=λx hx=>by
    obtain rfl|hx:=bM.mp hx
    .exact hil
    .exact bC x hx
   refine pR (!decide ((5000:Int)∈(i::c.parents).map λp=>(l[p]?).getD 0)) (λR q'=>?_) (λH2 S2=>?_)
   .refine#[_,Z,cb,λl1 hl1=>#[_,Z,o,_,dx,_,_,Z,ag.new hl1 _ _ (S _ _ h1),T.ez,T.sP,uw,l1,pp,_,_,Z,Z,aA,ag.new hl1 _ _ (S _ _ h4),?_,λp hp=>#[p,Z,#[_,ao.of aA],?_]]]
    .rw[cY,bQ];show 1+c.parents.length<=_;lia
    have Sp:ag H' (upd (upd H' l1 (.lst [.int (i:Nat)])) p (.lst ([.int (i:Nat)] ++iV c.parents))):=(ag.new hl1).trans (ag.new hp);refine qz (xs:=iV (i::c.parents)) (Q:=λy H2=>rIn K ai (.int 5000) y H2 (Ao R)) (λn ys t=>ys=nV (((i::c.parents).take n).map λp=>(l[p]?).getD 0)) (ao.of aA) (by rw[cY,bQ];show c.parents.length+1<_;lia) (λt t t t t h=>h) Z ?_ ?_ ?_
    .exact λt=>Z
    .rintro D2 n y H3 ys hy hD2 O S3 hl3 rfl R2 hR2;obtain⟨x,hx,rfl⟩:=gS hy;have hxl:=hids x (dg hx);have U:l[x]? =aa l[x]:=aY (by simp_all)
     refine#[_,Z,_,Z,ra,_,_,_,Z,Z,((Sp.trans S3).trans cU).seq f,bY (qA U),hR2 _ _ (ag.refl _) ?_];rw[take_snoc hx];unfold nV;rw[bR,bR,b7,kU,b7,kU,U];rfl
    .rintro D2 H3 ys hD2 S3 S3' O hl3 hF;rw[cY,eV] at hF;subst hF;refine#[D2,_,Z,.inl (ao.of O),Z,aaA _,_,Z,?_];rw[aaz];exact q' H3 (Sp.trans S3)
   have M:ag H H2:=S.trans S2;by_cases h5:(5000:Int)∈(i::c.parents).map λp=>(l[p]?).getD 0
   .rw[bX h5];have I:mQ cs l i c=ae:=by unfold mQ;rw[aC h5]
    refine br #[M,S2 _ _ hDt,?_,v6,aa (.ref ra),v8,Z];rw[take_snoc hlj,Yf I];exact hcn.same S2
   .rw[bO h5];obtain⟨gv,I⟩:∃gv,mQ cs l i c=aa gv:=by unfold mQ;rw[aw h5];exact#[_,Z]
    obtain⟨g,v⟩:=gv;rcases Yi (m:=#[[],cs]) ax hrow hc I with⟨b1,b2,b3,b4⟩;rcases Yg (ls:=ls.take j) I b1 b2 with⟨cnt,n,c1,c2,c3,c4⟩;refine bu #[_,Z,_,Z,o,_,dx,_,_,Z,M _ _ h1,T.ez,T.sP,uw,_,Z,cl,pp,ra,os,cs,c.parents,l,Z,M.seq hcl,hcs.same M,ax.cV,ao.of (M _ _ h4),S2.seq f,bC,hrl',?_];dsimp only[aR,aN];have hcn2:=hcn.same S2;obtain⟨ga,hga,hgc⟩:=Paired.at_ hcn2 c1;have hgm:=dg hga;have U:l[i]? =aa l[i]:=aY (by simp_all)
    rw[U] at b4;generalize l[i]=x at U b4;have b4:x-fL c.kind=(v:Nat):=b4;obtain⟨dk,fl,hk⟩:=(h3.same M).yr;rw[b3];refine#[_,Z,_,Z,D,_,_,_,Z,Z,ao.of (S2 _ _ hDt),bY (by rw[bL,hga];rfl),_,Z,_,Z,ra,_,_,_,Z,Z,S2.seq f,bY (qA U),_,Z,o,_,dx,_,_,Z,M _ _ h1,T.ez,T.i5,jy,k,_,dk,_,_,Z,hk,T.js,T.sO,uv,_,_,Z,Z,ga,iV cnt,v,_,Z,congrArg V.int b4,ao.of hgc,wa c2,_,_,Z,Z,ga,iV cnt,_,v,Z,Z,hgc,?_,?_]
    .rw[b4,cY];exact GQ (bx.mp c2).1
    have hgH:H ga=ae:=hfr ga hgm;refine#[λb u e=>by rw[aB (bc e hgH)];exact M _ _ e,by rw[aB (bG (hDg ga hgm))];exact S2 _ _ hDt,?_,_,_,_,Z]
    rw[take_snoc hlj,c4];have e1:(iV cnt).set v (.int ((n:Int)+1))=iV (cnt.set v (n+1)):=by rw[<-Q1];rfl
    try dsimp only
    rw[e1];exact hcn2.put hnd hga
  .rintro X H' ⟨S,hDt,hcn,v6,v7,v8,rfl⟩;rw[aJ,bS hrs,eV] at hcn;exact#[_,Z,q H' D gs S hD hDt hcn hfr]
end
theorem aaB{A}{t}(I:cs[i]? =aa c)(E:ch[i]? =aa t):(mR cs ls A B ch)[i]? =aa (sf A B (eQ cs i c ls) t):=by
 delta mR;rw[wu,E,I];rfl
theorem aaC{A}:(mR cs ls A B ch).length=ch.length:=by delta mR;rw[yX]
theorem eA.get{cs}(h:eA H Hi ts cs){c}(E:cs[i]? =aa c):∃t gs,ts[i]? =aa t/\H t=aa (.lst (gs.map V.ref))/\jB Hi gs c:=by
 rcases Paired.at_ h E with⟨t,A,gs,J,I⟩;exact#[t,gs,A,J,I]
section
variable {w:aS}{base:aU}
inductive Q4(a:Ad)(K:aP)(vs:List V)(H:Hp)(Q:VK)(x_0:XK):Prop|m:∀(cl rl bl:af)(A B:Nat)(os ras ts:List af)(cs:List Column)(ls:List (List Int))(ch:List cx)(Hi:Hp),vs=[.ref cl,.ref rl,.ref bl,.int (A:Nat),.int (B:Nat)]->ao K H cl (os.map V.ref)->ft a H os cs->cO cs->cs.length<=1000->ao K H rl (ras.map V.ref)->qB K H ras ls->(∀l∈ls,cG (cV cs) l)->ls.length<=1000->ao K H bl (ts.map V.ref)->ag Hi H->eA H Hi ts ch->gN cs ch->(∀H' fl ts',ag H H'->H fl=ae->H' fl=aa (.lst (ts'.map V.ref))->ts'.Nodup->(∀t∈ts',H t=ae/\t≠fl)->eA H' (dY (Ext Hi H H') (fl::ts')) ts' (mR cs ls A B ch)->Q (.ref fl) H')->Q4 a K vs H Q x_0
theorem aaD(T:TX K mg a d)(hP:P.given.tree=ae):aV P w K mg base bo 45 a.sE d.sE ["columns","rows","before","ahead_above","ahead_below"] (Q4 a K):=by
 refine T.sE.ok bE λnD cdv A' outer s H vs Q E hr h=>?_;obtain⟨cl,rl,bl,A,B,os,ras,ts,cs,ls,ch,Hi,rfl,hcl,hcs,ax,hcl6,hrl,hrs,hro,hlen,hbl,Si,htb,hch,q⟩:=h;refine#[_,(ay (aM 5 (bU ak))
   (ay (du dM Z (rV Z T.sM (ah (pv 2) ak)) (iP Z (dj (bJ 6) (dj (bJ 7) gJ))) (ay (aM 8 (a_ T.mU (Q3 T) (ah (pv 0) (ah (pv 6) (ah (pv 1) ak)))))
   (aF (dU (eP eO je jf jl (pv 5) (ah (a_ T.qb (aav T hP) (ah (pv 8) (ah (pv 7) (ah (pv 3) (ah (pv 4) ak))))) ak))))))
   (aF (aZ (pv 5))))),?_]
 have n1:=bS htb;refine#[c7 _,λO hfl=>?_];dsimp only[aR,aN,L2.start];have Sf:ag H (upd H O (.lst [])):=ag.new hfl;have Swo:∀{H':Hp},ag H (Wo H' O)->ag H H':=λS=>S.trans cU;refine#[_,Z,bl,_,Z,Sf.seq hbl,sU (a:=bl) (xs:=ts.map V.ref) 6 7 (λT' x y k H Q hT hQ=>#[T',_,Z,.inl (.inl hT),Z,_,_,Z,_,_,Z,Z,hQ]) (λi k H'=>ag H (Wo H' O)/\∃(I:List af)(v6 v7 v8:Option V),k=[aa (.ref cl),aa (.ref rl),aa (.ref bl),aa (.int (A:Nat)),aa (.int (B:Nat)),aa (.ref O),v6,v7,v8]/\H' O=aa (.lst (I.map V.ref))/\I.length=i/\I.Nodup/\(∀t∈I,H t=ae/\t≠O)/\eA H' (dY (Ext Hi H H') (O::I)) I ((mR cs ls A B ch).take i)) #[λb u e=>aQ (bc e hfl) (Sf _ _ e),[],ae,ae,ae,Z,aA,Z,mi,λv h=>(dB h).elim,.nil] (λi k H' v ⟨S,_⟩=>(Swo S).seq hbl) ?_ ?_]
 .rintro i x k H' hx ⟨S,I,v6,v7,v8,rfl,hf,hgl,hnd,Y,J⟩ H2 S2;have hi:i<ch.length:=by have:=(bx.mp hx).1;rw[aJ] at this;simp_all
  have hics:i<cs.length:=by have:=hch.1;simp_all
  have hc:=aY hics;have ht:=aY hi;generalize cs[i]=c at hc;generalize ch[i]=old at ht;obtain⟨t,gs,htt,htl,hgs⟩:=htb.get ht;obtain rfl:x=V.ref t:=by rw[bL,htt] at hx;exact(bf hx).symm
  obtain⟨d1,d2⟩:=hch.2 i c old hc ht;obtain⟨k1,k2,k3,k4,k5⟩:=ax i c hc;have hsz:=size_pos k1;have hg:=bF (y6 _ hsz.1) k5;have SH2:=(Swo S).trans S2;have hf2:=S2 _ _ hf;dsimp only[aN];refine#[_,Z,_,Z,_,Z,cl,rl,i,os,ras,cs,c,ls,Z,SH2.seq hcl,hcs.same SH2,ax,hc,SH2.seq hrl,hrs.same SH2,hro,hlen,λH3 t3 gs3 S3 ht3 ht3' hc3 v=>?_];dsimp only[aR,aN];have U:=SH2.trans S3;refine#[_,Z,.inl #[Z,_,ao.of (S3 _ _ hf2)],_,Z,_,Z,_,Z,_,Z,t3,t,A,B,gs3,gs,eQ cs i c ls,old,Hi,Z,ht3',hc3,U _ _ htl,Si.trans U,hgs,by rw[x5,d1],by rw[x5];lia,λcnt hcnt=>?_,λo ho=>by have:=(d2 o ho).1;lia,λH4 t4 gs4 S4 M ht4' hg4=>?_]
  .obtain⟨e1,e2⟩:=Bm cnt hcnt;exact#[by lia,λn hn=>bF (e2 n hn) hlen]
  have hf4:=S4 _ _ (S3 _ _ hf2);have htf:t4≠O:=λz=>by subst z;rw[S3 _ _ hf2] at M;cases M
  refine#[O,_,_,Z,Z,hf4,by rw[aJ,hgl,bQ];have:=hch.1;lia,?_]
  have S34:∀b u,b≠O->H' b=aa u->upd H4 O (.lst (I.map V.ref++[.ref t4])) b=aa u:=λb u hb e=>by rw[aB hb];exact S4 _ _ (S3 _ _ (S2 _ _ e))
  refine#[λb u e=>?_,I++[t4],_,_,_,Z,by rw[aA,bR];rfl,by rw[b6,hgl];rfl,?_,?_,?_]
  .obtain⟨e1,e2⟩:=bh (S _ _ e);exact aQ e1 (S34 _ _ e1 e2)
  .rw[oV];refine#[hnd,by simp,λx hx y hy=>?_]
   rw[cj] at hy;subst hy;rintro rfl;obtain⟨zs,hz⟩:=J.mem x hx;rw[S3 _ _ (S2 _ _ hz)] at M;cases M
  .intro x hx;obtain hx|hx:=df.mp hx
   .exact Y x hx
   .rw[cj] at hx;subst hx;exact#[U.free M,htf]
  .rw[take_snoc (aaB hc ht)];refine eX (Paired.mapM J λt' c' hm ⟨gs',e1,e2⟩=>#[gs',S34 _ _ (Y t' hm).2 e1,e2.same λb u e=>?_]) #[gs4,by rw[aB htf];exact ht4',hg4.same λb u e=>?_]
   .obtain⟨e3,e4⟩:=j9 e;have f:b≠O:=λz=>e3 (by rw[z];exact bH)
    refine iE (λz=>?_) ?_
    .obtain z|z:=bM.mp z
     .exact f z
     .obtain z|z:=df.mp z
      .exact e3 (bI _ z)
      .rw[cj] at z;subst z;obtain⟨_,R⟩|⟨R,e6⟩:=iF e4
       .rw[S3 _ _ (S2 _ _ R)] at M;cases M
       .exact R (U.free M)
    .obtain⟨R,e6⟩|⟨R,e6⟩:=iF e4
     .exact j_ R (S34 _ _ f e6)
     .exact kQ Si e6
   .obtain⟨R,e6⟩|⟨R,e6⟩:=iF e
    .obtain⟨e7,e8⟩:=bh e6;have f:b≠O:=λz=>by subst z;rw[S3 _ _ hf2] at R;cases R
     refine iE (λz=>?_) (j_ (U.free R) (by rw[aB f];exact e8))
     obtain z|z:=bM.mp z
     .exact f z
     .obtain z|z:=df.mp z
      .obtain⟨zs,hz⟩:=J.mem b z;rw[S3 _ _ (S2 _ _ hz)] at R;cases R
      .rw[cj] at z;exact e7 z
    .have hH:=Si _ _ e6;refine iE (λz=>?_) (kQ Si e6);obtain z|z:=bM.mp z
     .rw[z,hfl] at hH;cases hH
     .obtain z|z:=df.mp z
      .rw[(Y b z).1] at hH;cases hH
      .rw[cj] at z;subst z;rw[U.free M] at hH;cases hH
 .rintro k H' ⟨S,I,v6,v7,v8,rfl,hf,hgl,hnd,Y,J⟩;rw[aJ,n1,mj (by rw[aaC];simp)] at J
  exact#[_,Z,q H' O I (Swo S) hfl hf hnd Y J]
end
end CC
namespace L2
theorem aaE{a}{σ} j k (hg:∀T x y σ H Q,H T=aa (.tup [x,y])->Q ((σ.set j (aa x)).set k (aa y)) H->g (.ref T) σ H Q) (Pv:Nat->St->Hp->Prop) (U:ys.length=xs.length) (h0:Pv 0 σ H) (Y:∀i σ H,i<=xs.length->Pv i σ H->cM K H a xs/\ao K H b ys) (V:∀i x y σ H,xs[i]? =aa x->ys[i]? =aa y->Pv i σ H->∀H',ag H H'->tb {D with nx:=Pv (i+1),ct:=Pv (i+1),bk:=D.nx} ((σ.set j (aa x)).set k (aa y)) H') (hd:∀σ H,Pv xs.length σ H->D.nx σ H):
  ∃W:Nat->Nat->St->Hp->Prop,(∃m,W 0 m σ H)/\∀i m σ H,W i m σ H->
   ((xP K a b).stop i H/\D.nx σ H)\/((xP K a b).go i H/\∃N:St->Hp->Prop,(∀A H',N A H'->∃O,O<m/\W (i+1) O A H')/\∀x H',(xP K a b).kA i H x H'->g x σ H' λE H2=>tb {D with nx:=N,ct:=N,bk:=D.nx} E H2):=by
 refine#[λi m σ H=>m=xs.length-i/\i<=xs.length/\Pv i σ H,#[xs.length,by simp,c7 _,h0],?_]
 rintro i m σ H ⟨rfl,c,p⟩;obtain⟨J,I⟩:=Y i σ H c p;by_cases M:i<xs.length
 .refine .inr #[#[xs,ys,_,_,J,I,aY M,aY (by simp_all)],Pv (i+1),λA H' R=>#[xs.length-(i+1),by grind,Z,by assumption,R],?_]
  rintro v H' z;rcases z with⟨T,x,y,rfl,hT,rfl,hx,S⟩;exact hg T _ _ _ _ _ aA (V i x y σ H (hx _ J) (S _ I) p _ (ag.new hT))
 .obtain rfl:i=xs.length:=by lia
  exact .inl #[#[xs,ys,J,I,.inl (bb _)],hd σ H p]
end L2
namespace CC
theorem aaF n f:iV (aO n f)=aO n λj=>V.int (f j):=by delta iV aO;rw[eU];rfl
section
variable {w:aS}{base:aU}
inductive Q5(a:Ad)(K:aP)(vs:List V)(H:Hp)(Q:VK)(x_0:XK):Prop|m:∀(cl rl:af)(os:List af)(m:dz)(l:List Int),vs=[.ref cl,.ref rl]->ao K H cl (os.map V.ref)->ft a H os m.columns->cO m.columns->m.columns.length<=1000->oU K H rl (nV l)->cG (aq m) l->aI (aq m) l<=1024->(∀H' t ks,ag H H'->H t=ae->H' t=aa (.lst (ks.map V.ref))->gp H' ks (aO m.columns.length (gk m l))->Q (.ref t) H')->Q5 a K vs H Q x_0
theorem aaG(T:TX K mg a d)(hP:P.given.tree=ae):aV P w K mg base bo 43 a.qc d.qc ["columns","row"] (Q5 a K):=by
 refine T.qc.ok bE λnD cdv A outer s H vs Q E hr h=>?_;obtain⟨cl,rl,os,m,l,rfl,f,hcs,ax,hlen,hrl,I,hN,q⟩:=h;have hpy:=hr.pP (by decide)
 refine#[_,(ay (aM 2 (a_ T.n8 (GJ T) (ah (pv 0) (ah (pv 1) ak))))
   (ay (aM 3 (pv 2))
   (ay (aM 4 (bU ak))
   (ay (du dM Z (Xd Z T.sN (ah (pv 1) (ah (pv 0) ak))) (iP Z (dj (bJ 5) (dj (bJ 6) gJ))) (ay (aM 7 (a_ T.size_of (oR T) (ah (aK (pv 6) Z) ak)))
   (aF (cy (b9 mG (pv 5) (bZ Z T.BD) (cu _)) (ay (aM 3 (bg (kF hpy hP) (pv 3) (pv 7)))
   (aF (dU (eP eO je jf jl (pv 4) (ah (pM Z nD (vr Z T.vR (ah (pv 2) ak)) (own:=[("at",8)]) T.qc.s.c9 (λp p p p p=>(bJ 8)) (λp p p p p=>gh) (λp p p p p=>(bg Et (bg (GP hpy hP Z Z Z Z Z) (pv 8) (pv 3)) (pv 7)))) ak))))) (aF (dU (eP eO je jf jl (pv 4) (ah (bg vA (bU (ah (bg rO (pv 5) (aK (aK (pv 6) Z) Z)) ak)) (pv 2)) ak))))))))
   (aF (aZ (pv 4))))))),?_]
 have hol:=bS hcs;have hll:=by have:=I.len;unfold aq at this;rw[aJ] at this;exact this
 have hN0:=BB ax l 0;rw[Pk] at hN0;refine#[_,Z,_,Z,cl,rl,os,m.columns,l,_,Z,f,hcs,ax.cV,hrl,I.eq,λH1 S1=>?_];dsimp only[aR,aN,L2.start];refine#[_,Z,?_];dsimp only[aR,aN,L2.start];refine#[c7 _,λt ht=>?_];dsimp only[aR,aN,L2.start];have Sti:ag H (upd H1 t (.lst [])):=S1.trans (ag.new ht);let Pv:=λi g H'=>ag H (Wo H' t)/\∃(ks:List af)(v5 v6 v7 v8:Option V),g=[aa (.ref cl),aa (.ref rl),aa (.int (aI (aq m) l:Nat)),aa (.int (jr m l i:Nat)),aa (.ref t),v5,v6,v7,v8]/\H' t=aa (.lst (ks.map V.ref))/\ks.length=i/\gp (Wo H' t) ks (aO i (gk m l));have p0:Pv 0 [aa (.ref cl),aa (.ref rl),aa (.int (aI (aq m) l:Nat)),aa (.int (aI (aq m) l:Nat)),aa (.ref t),ae,ae,ae,ae] (upd H1 t (.lst [])):=#[λb u e=>aQ (λz=>by subst z;rw[S1 _ _ e] at ht;cases ht) (Sti _ _ e),[],ae,ae,ae,ae,Z,aA,Z,.nil]
 have O:∀{H':Hp},ag H (Wo H' t)->ag H H':=λS=>S.trans cU;have hxy:(os.map V.ref).length=(nV l).length:=by rw[aJ,iD];simp_all
 obtain Y|Y:=hrl
 case' inl=>refine#[_,Z,_,Z,rl,cl,_,_,Z,Sti.seq f,.inl #[Sti.seq Y,BX (a:=rl) (b:=cl) (xs:=nV l) (ys:=os.map V.ref) 5 6 (λT' x y g H Q hT hQ=>#[T',_,Z,.inl (.inl hT),Z,_,_,Z,_,_,Z,Z,hQ]) Pv hxy p0 (λi g H' p ⟨S,_⟩=>#[(O S).seq Y,(O S).seq f]) ?_ ?_]]
 case' inr=>refine#[_,Z,_,Z,rl,cl,_,_,Z,Sti.seq f,.inr #[Sti.xR Y,aaE (a:=rl) (b:=cl) (xs:=nV l) (ys:=os.map V.ref) 5 6 (λT' x y g H Q hT hQ=>#[T',_,Z,.inl (.inl hT),Z,_,_,Z,_,_,Z,Z,hQ]) Pv hxy p0 (λi g H' p ⟨S,_⟩=>#[(O S).xR Y,(O S).seq f]) ?_ ?_]]
 all_goals first
  |(rintro g H' r;rcases r with⟨S,ks,v5,v6,v7,v8,rfl,h2,h3,h4⟩
    rw[iD,hll] at h4;exact#[_,Z,q H' t ks (O S) (S1.free ht) h2 (h4.same cU)])
  |skip
 all_goals
  rintro i x y g H' hx hy ⟨S,ks,v5,v6,v7,v8,rfl,hks,hkl,hct⟩ H2 S2;have hi:i<m.columns.length:=by have:=(bx.mp hx).1;rw[iD] at this;simp_all
  have hc:m.columns[i]? =aa m.columns[i]:=aY hi;generalize m.columns[i]=c at hc;have hil:i<l.length:=by simp_all
  have hn:l[i]? =aa l[i]:=aY hil;generalize l[i]=n at hn;obtain rfl:x=V.int n:=by rw[qA hn] at hx;exact(bf hx).symm
  have SH2:ag H H2:=(O S).trans S2;obtain⟨o,ho,hco⟩:=(hcs.same SH2).get hc;obtain rfl:y=V.ref o:=by rw[ho] at hy;exact(bf hy).symm
  obtain⟨dx,nb,k,pp,h1,h2,h3,h4⟩:=hco;have hkd:=(ax i c hc).1;have hsz:=size_pos hkd;have ha1:=BB ax l (i+1);have hale:=YO ax I i;have J:=S2 _ _ hks;have hwf:∀(U:af)(zs:List V),H2 U=ae->∀H3,ag H2 H3->H3 U=aa (.lst (iV (gk m l i)))->Pv (i+1) [aa (.ref cl),aa (.ref rl),aa (.int (aI (aq m) l:Nat)),aa (.int (jr m l (i+1):Nat)),aa (.ref t),aa (.int n),aa (.ref o),aa (.int (aD c.kind:Nat)),v8] (upd H3 t (.lst (ks.map V.ref++[.ref U]))):=λU zs M H3 S3 hD3=>by
   have hDt:U≠t:=λz=>by subst z;rw[J] at M;cases M
   have Sw:ag (Wo H' t) (Wo (upd H3 t (.lst (ks.map V.ref++[.ref U]))) t):=λb u e=>by
    obtain⟨e1,e2⟩:=bh e;exact aQ e1 (by rw[aB e1];exact S3 _ _ (S2 _ _ e2))
   refine#[S.trans Sw,ks++[U],_,_,_,_,Z,by rw[aA,bR];rfl,by rw[b6,hkl];rfl,?_]
   rw[iY];exact eX (hct.same Sw) (aQ hDt (by rw[aB hDt];exact hD3))
  dsimp only[aN];refine#[_,Z,o,_,dx,_,_,Z,h1,T.ez,T.i5,jy,k,c.kind,Z,h3,hkd,?_];dsimp only[aR,aN];refine cX (decide (n=5000)) (λR q'=>#[_,Z,Z,_,Z,?_]) ?_
  .rw[show decide (V.int n=V.int 5000)=decide (n=5000) by rw[d9];exact#[λz=>by injection z,λz=>by rw[z]]]
   exact q'
  by_cases h5:n=5000
  .rw[bX h5];have hst:=(Pl I hc hn).1 h5;refine bu #[_,Z,_,Z,_,_,Z,Z,(by lia),?_]
   have hdiv:(jr m l i:Int)/(aD c.kind:Nat)=(jr m l (i+1):Nat):=by
    rw[<-fR,hst,f7 _ (by lia)]
   dsimp only[aR,aN];rw[hdiv];subst h5;refine#[_,Z,.inl #[Z,_,ao.of J],?_];refine i7 #[_,Z,((aI (aq m) l:Nat):Int),Z,by simp,by lia,?_]
   rw[cI];refine yq (λj ys p=>ys=iV (aO j λj=>j/jr m l (i+1)%aD c.kind)) (by rw[bQ];lia) (λp p p p p h=>h) Z ?_ ?_ ?_
   .exact λp=>Z
   .rintro U j H3 ys hj M hys S3 hl3 rfl R hR;refine#[_,Z,_,Z,_,_,Z,Z,(by simp_all),_,Z,_,_,Z,Z,(by lia),hR _ _ (ag.refl _) ?_]
    rw[iY];delta iV;rw[bR]
    congr 1
    show[V.int ((0+ (j:Int))/(jr m l (i+1):Nat)%(aD c.kind:Nat))]=[V.int ((j/jr m l (i+1)%aD c.kind:Nat):Int)];rw[yN,Ce,fR]
   .rintro U H3 ys M S3 S3' hys hl3 hF;subst hF;rw[<-YQ I hc hn] at hys;exact#[t,_,_,Z,Z,S3 _ _ J,by rw[aJ,hkl,bQ];lia,hwf U [] M H3 S3 hys]
  .rw[bO h5];have hst:=(Pl I hc hn).2 h5;obtain⟨dk,fl,hk⟩:=h3.yr;obtain⟨v,hv1,hv2⟩:=YR I hc hn h5;refine br #[_,Z,.inl #[Z,_,ao.of J],_,Z,_,Z,o,_,dx,_,_,Z,h1,T.ez,T.i5,jy,k,_,dk,_,_,Z,hk,T.js,T.sO,uv,_,_,Z,Z,cb,λg0 hg0=>#[_,Z,g0,_,_,Z,Z,aA,by simp,by lia,?_,λU M=>?_]]
   .rw[cI,kT,bQ];lia
   have S0:ag H2 (upd H2 g0 (.lst [.int (n-fL c.kind)])):=ag.new hg0;have hDl:(cR ((aI (aq m) l:Nat):Int).toNat [V.int (n-fL c.kind)]).flatten=iV (gk m l i):=by
    rw[cI,uE,hv2,hv1];delta iV;rw[uJ]
   try dsimp only
   rw[hDl];have Sn:=S0.trans (ag.new (o:=.lst (iV (gk m l i))) M);rw[hst] at *;exact#[t,_,_,Z,Z,Sn _ _ J,by rw[aJ,hkl,bQ];lia,hwf U [] (S0.free M) _ Sn aA]
end
end CC
namespace L2
theorem GR{A:List bW}{t:TGs}(J:X.calm=ai)(h:PGs X A t)(I:(qV A X.env).length=n:=by rfl)(E:(qV A X.env).findIdx? (·.1)=ae:=by rfl)(M:X.K=K:=by rfl):PG X (.Tuple A k pos) (Aj K n t):=M▸iP J h I E
end L2
namespace CC
section
variable {w:aS}{base:aU}
inductive Q6(a:Ad)(K:aP)(vs:List V)(H:Hp)(Q:VK)(x_0:XK):Prop|m:∀(cl rkl:af)(i:Nat)(os ks:List af)(m:dz)(c:Column)(l:List Int),vs=[.ref cl,.int (i:Nat),.ref rkl]->ao K H cl (os.map V.ref)->ft a H os m.columns->cO m.columns->m.columns[i]? =aa c->ao K H rkl (ks.map V.ref)->gp H ks (aO m.columns.length (gk m l))->aI (aq m) l<=1024->(∀H' t,ag H H'->H t=ae->H' t=aa (.lst (iV (i3 m l (c.parents++[i]))))->Q (.ref t) H')->Q6 a K vs H Q x_0
theorem aaH(T:TX K mg a d):aV P w K mg base bo 42 a.qd d.qd ["columns","number","ranks"] (Q6 a K):=by
 refine T.qd.ok bE λnD cdv A outer s H vs Q E hr h=>?_;rcases h with⟨cl,Y,i,os,ks,m,c,l,rfl,hcl,hcs,ax,hc,hrk,hks,hN,q⟩;refine#[_,(ay (aM 3 (bg vA (bU (ah aX ak)) (cz (c8) Z T.de c_ (ah (bt b8 (pv 2) (pv 1)) ak))))
   (ay (du dM Z (d_ (bg lz (aK (bt b8 (pv 0) (pv 1)) Z) (bU (ah (pv 1) ak)))) (bJ 4) (ay (aM 5 (a_ T.size_of (oR T) (ah (aK (bt b8 (pv 0) (pv 4)) Z) ak)))
   (aF (pN (i:=3) Z nD Z Z Z (vD Z T.sN (ah (pv 3) (ah (bt b8 (pv 2) (pv 4)) ak))) (own:=[("cell",6),("rank",7)]) T.qd.s.c9 (λz z z z z=>(GR (K:=K) (n:=2) Z (dj (bJ 6) (dj (bJ 7) gJ)))) (λz z z z z=>gh) (λz z z z z=>(bg eK (bg gi (pv 6) (pv 5)) (pv 7)))))))
   (aF (aZ (pv 3))))),?_]
 have hi:=(bx.mp hc).1;rcases ax i c hc with⟨k1,k2,k3,k4,k5⟩;have hps:∀p∈c.parents++[i],p<m.columns.length:=λp I=>by
  obtain I|I:=df.mp I
  .exact gy (k3 p I) hi
  .rw[cj] at I;rw[I];exact hi
 have rks:∀p,p<m.columns.length->∃ra,(ks.map V.ref)[p]? =aa (.ref ra)/\H ra=aa (.lst (iV (gk m l p))):=λp I=>by
  obtain⟨ra,h1,h2⟩:=Paired.at_ hks (cT (gk m l) I);exact#[ra,by rw[bL,h1];rfl,h2]
 rcases rks i hi with⟨ri,hri,hril⟩;refine#[cb,λg0 hg0=>#[_,Z,_,Z,Y,_,_,_,Z,Z,(ag.new hg0).seq hrk,bY hri,ri,_,Z,.inl (ao.of (ag.new hg0 _ _ hril)),g0,_,_,Z,Z,aA,by simp,?_,?_,λt ht=>?_]]
 .rw[cY,ya];lia
 .rw[cY,ya,cI,kT,bQ];lia
 dsimp only[aR,aN,L2.start];have S0:ag H (upd H g0 (.lst [.int 0])):=ag.new hg0;have et:(cR (((iV (gk m l i)).length:Nat):Int).toNat [V.int 0]).flatten=iV (i3 m l []):=by
  rw[cY,ya,cI,uE,cls_nil];delta iV;rw[uJ];rfl
 rw[et];have S1:=S0.trans (ag.new (o:=.lst (iV (i3 m l []))) ht);rcases hcs.get hc with⟨o,ho,hco⟩;rcases hco with⟨dx,nb,k,pp,h1,h2,h3,h4⟩;refine#[_,Z,_,Z,cl,_,_,_,Z,Z,S1.seq hcl,bY ho,o,_,dx,_,_,Z,S1 _ _ h1,T.ez,T.sP,uw,_,Z,cb,λg1 e=>#[pp,g1,_,_,Z,Z,ag.new e _ _ (S1 _ _ h4),aA,?_,λcat U=>#[cat,Z,#[_,ao.of aA],?_]]]
 .rw[cY,bQ];show c.parents.length+1<=_;lia
 have S2:ag H (upd (upd (upd (upd H g0 (.lst [.int 0])) t (.lst (iV (i3 m l [])))) g1 (.lst [.int (i:Nat)])) cat (.lst (iV c.parents++[.int (i:Nat)]))):=(S1.trans (ag.new e)).trans (ag.new U);have ecat:iV c.parents++[V.int (i:Nat)]=iV (c.parents++[i]):=by delta iV;rw[bR];rfl
 rw[ecat] at S2⊢;generalize hHc:upd (upd (upd (upd H g0 (.lst [.int 0])) t (.lst (iV (i3 m l [])))) g1 (.lst [.int (i:Nat)])) cat (.lst (iV (c.parents++[i])))=Hc at S2;have hcatc:Hc cat=aa (.lst (iV (c.parents++[i]))):=by rw[<-hHc,aA]
 have htc:Hc t=aa (.lst (iV (i3 m l []))):=by
  rw[<-hHc];exact ag.new U _ _ (ag.new e _ _ aA)
 refine gf (a:=cat) (xs:=iV (c.parents++[i])) (λj v H'=>ag Hc H'/\∃(t':af)(v4 v5 v6 v7:Option V),v=[aa (.ref cl),aa (.int (i:Nat)),aa (.ref Y),aa (.ref t'),v4,v5,v6,v7]/\H t'=ae/\H' t'=aa (.lst (iV (i3 m l ((c.parents++[i]).take j))))) #[ag.refl _,t,ae,ae,ae,ae,Z,S0.free ht,htc] (λj v H' z ⟨S,_⟩=>ao.of (S _ _ hcatc)) ?_ ?_
 .rintro j y v H' hj u;rcases u with⟨S,t',v4,v5,v6,v7,rfl,ht0,J⟩;rcases gS hj with⟨p,I,rfl⟩;have bC:=hps p (dg I);have SH:=S2.trans S;have M:=aY bC;generalize m.columns[p]=cp at M;rcases(hcs.same SH).get M with⟨op,hop,dx',nb',k',pp',e1,e2,e3,e4⟩;have hkd:=(ax p cp M).1;have hsz:=size_pos hkd;rcases rks p bC with⟨rp,hrp,O⟩;dsimp only[aN];refine#[_,Z,_,Z,cl,_,_,_,Z,Z,SH.seq hcl,bY hop,op,_,dx',_,_,Z,e1,T.ez,T.i5,jy,k',cp.kind,Z,e3,hkd,?_];dsimp only[aR,aN,cN,jk];refine i7 #[_,Z,_,Z,_,Z,Y,_,_,_,Z,Z,SH.seq hrk,bY hrp,t',rp,_,_,Z,ao.of J,ao.of (SH _ _ O),?_];refine GO (a:=t') (b:=rp) (xs:=iV (i3 m l ((c.parents++[i]).take j))) (ys:=iV (gk m l p)) (j:=6) (k:=7) (λT' x y v H Q hT hQ=>#[T',_,Z,.inl (.inl hT),Z,_,_,Z,_,_,Z,Z,hQ]) (λx v H P P' I ⟨a1,a2,a3,a4,a5,a6,a7,a8,a9,a10,a11,a12,q⟩=>#[a1,a2,a3,a4,a5,a6,a7,a8,a9,a10,a11,a12,I _ _ q]) (λn zs z=>zs=(iV (oW (λc r=>c*dA m.columns p+r) (i3 m l ((c.parents++[i]).take j)) (gk m l p))).take n) (ao.of J) (ao.of (SH _ _ O)) (by rw[cY,cY,F_,ya]) (by rw[cY,F_,bQ];lia) (λz z z z z h=>h) Z ?_ ?_ ?_
  .exact λz z=>Z
  .rintro D2 n x y H3 zs hx hy hD2 hzs S3 hl3 rfl R hR;obtain⟨x,hx',rfl⟩:=gS hx;obtain⟨y,hy',rfl⟩:=gS hy;refine#[_,Z,_,Z,_,_,Z,Z,.of_right (uX (by lia) (by lia)),_,Z,_,_,Z,Z,hR _ _ (ag.refl _) ?_]
   rw[take_snoc (wa (n:=x*dA m.columns p+y) (by rw[Ct,hx',hy'])),vY M]
   rfl
  .rintro D2 H3 zs hD2 S3 S3' hzs hl3 hF;rw[mj (by rw[cY,cY,Cy,F_,ya];simp),<-YS] at hF
   subst hF;refine#[S.trans S3,D2,_,_,_,_,Z,SH.free hD2,?_];rw[take_snoc I];exact hzs
 .rintro v H' u;rcases u with⟨S,t',v4,v5,v6,v7,rfl,ht0,J⟩;rw[cY,eV] at J;exact#[_,Z,q H' t' (S2.trans S) ht0 J]
inductive Q7(K:aP)(vs:List V)(H:Hp)(Q:VK)(x_0:XK):Prop|m:∀(t:af)(cell:Nat)(gs:List af)(tb:cx)(cs:List Column)(c:Column)(H0:Hp),vs=[.ref t,.int (cell:Nat)]->ao K H t (gs.map V.ref)->ag H0 H->jB H0 gs tb->nU cs c tb->cell<bw cs c.parents*aD c.kind->(∀x,uC H0 x (dD tb (aD c.kind) cell)->Q (.ref x) H)->Q7 K vs H Q x_0
theorem aaI(T:TX K mg a d)(hP:P.given.tree=ae):aV P w K mg base bo 41 a.sF d.sF ["table","cell"] (Q7 K):=by
 refine T.sF.ok bE λnD cdv A outer s H vs Q E hr h=>?_;rcases h with⟨t,cell,gs,tb,cs,c,H0,rfl,ht,S0,M,J,I,q⟩;have hpy:=hr.pP (by decide)
 refine#[_,(ay (aM 2 (cz (c8) Z T.de c_ (ah (bt b8 (pv 0) aX) ak)))
   (aF (aZ (bt b8 (bt b8 (pv 0) (bg (kF hpy hP) (pv 1) (pv 2))) (bg Et (pv 1) (pv 2)))))),?_]
 have hs:0<aD c.kind:=by
  cases e:aD c.kind with
  |zero=>rw[e,y_] at I;simp_all
  |succ n=>simp
 have O:0<tb.length:=by
  rw[J.1];cases e:bw cs c.parents with
  |zero=>rw[e,uP] at I;simp_all
  |succ n=>simp
 have S:=aY O;have R:=(J.2 _ (ff O)).1;generalize tb[0]=f0 at S R;rcases Paired.at_ M S with⟨ga,hga,xs,hgl,hfr⟩;have b:xs.length=aD c.kind:=by rw[bS hfr,R]
 refine#[_,Z,t,_,_,_,Z,Z,ht,bY (j:=0) (by rw[bL,hga];rfl),ga,_,Z,.inl (ao.of (S0 _ _ hgl)),?_]
 dsimp only[aR,aN,L2.start];rw[aJ,b];rcases FQ J I with⟨gr,e1,e2,e3⟩;rcases Paired.at_ M e1 with⟨gb,hgb,ys,Y,U⟩;rcases Paired.at_ U e2 with⟨x,hx,hfx⟩;refine#[_,Z,_,Z,_,Z,_,_,Z,Z,(by simp_all),t,gs.map V.ref,_,V.ref gb,Z,Z,ht,?_,_,Z,_,Z,_,_,Z,Z,(by simp_all),gb,ys.map V.ref,_,V.ref x,Z,Z,ao.of (S0 _ _ Y),?_,q x hfx]
 .rw[<-fR];exact bY (by rw[bL,hgb];rfl)
 .rw[<-Ce];exact bY (by rw[bL,hx];rfl)
end
end CC
namespace L2
theorem Q8{k}:∀{ks}{ys}{acc},k∉ks->eh (lC acc (nY ks ys)) (fV k)=eh acc (fV k)
 |[],_,acc,_=>Z
 |_::_,[],acc,_=>Z
 |j::ks,y::ys,acc,h=>by
  have A:k≠j:=λe=>h (by rw[e];exact bH)
  show eh (lC (putK acc (fV j) y) (nY ks ys)) (fV k)=_;rw[Q8 λe=>h (bI _ e),Mx,aw (λe=>A (zY e))]
theorem Q9{k}:∀{ks}{ys}{acc}{i:Nat},ks.Nodup->ks[i]? =aa k->ys[i]? =aa v->eh (lC acc (nY ks ys)) (fV k)=aa v
 |[],_,_,i,_,h,_=>by simp at h
 |_::_,[],_,i,_,_,h=>by simp at h
 |j::ks,y::ys,acc,0,A,I,E=>by
  obtain rfl:j=k:=by simpa using I
  obtain rfl:y=v:=by simpa using E
  show eh (lC (putK acc (fV j) y) (nY ks ys)) (fV j)=_;rw[Q8 (nq.mp A).1,Mx,aC Z]
 |j::ks,y::ys,acc,i+1,A,I,E=>Q9 (acc:=putK acc (fV j) y) (nq.mp A).2 (by simpa using I) (by simpa using E)
end L2
namespace CC
noncomputable def sW:List V->List (au×V)
 |[x0,x1,x2,x3]=>[("ranks",x0),("cells",x1),("weights",x2),("below",x3)]
 |_=>[]
theorem Q_:(sW [x0,x1,x2,x3]).lookup ("ranks":au)=aa x0:=by kernel_rfl
theorem aaJ:(sW [x0,x1,x2,x3]).lookup ("cells":au)=aa x1:=by kernel_rfl
theorem qC:(sW [x0,x1,x2,x3]).lookup ("weights":au)=aa x2:=by kernel_rfl
theorem Ra:(sW [x0,x1,x2,x3]).lookup ("below":au)=aa x3:=by kernel_rfl
section
variable {w:aS}{base:aU}
theorem aaK(T:TX K mg a d):aV P w K mg base bo 41 a.qp d.qp ["self","ranks","cells","weights","below"] (m8 a.lU 4 sW):=by
 refine T.qp.ok (λvs H Q E h=>?_) (λnD U A outer s H vs Q E hr h=>?_)
 .obtain⟨x,dx,I,rfl,J,_⟩:=h;simp[J]
 .obtain⟨x,dx,I,rfl,J,hx,q⟩:=h;obtain⟨x0,x1,x2,x3,rfl⟩:=len4 J;refine#[_,(ay (dv (pv 0) (pv 1) Z)
  (ay (dv (pv 0) (pv 2) Z)
  (ay (dv (pv 0) (pv 3) Z)
  (aF (dv (pv 0) (pv 4) Z))))),?_]
  refine#[_,Z,_,Z,x,_,dx,_,Z,hx,T.gQ,T.Gj,dq,?_]
  have S:b_ "ranks" x0 []=([("ranks",x0)]:List (au×V)):=by kernel_rfl
  rw[S];refine#[_,Z,_,Z,x,_,dx,_,Z,aA,T.gQ,T.PQ,dq,?_]
  have R:b_ "cells" x1 ([("ranks",x0)]:List (au×V))=([("ranks",x0),("cells",x1)]:List (au×V)):=by kernel_rfl
  rw[dI,R];refine#[_,Z,_,Z,x,_,dx,_,Z,aA,T.gQ,T.oG,dq,?_]
  have O:b_ "weights" x2 ([("ranks",x0),("cells",x1)]:List (au×V))=([("ranks",x0),("cells",x1),("weights",x2)]:List (au×V)):=by kernel_rfl
  rw[dI,O];refine#[_,Z,_,Z,x,_,dx,_,Z,aA,T.gQ,T.Gk,dq,?_]
  have M:b_ "below" x3 ([("ranks",x0),("cells",x1),("weights",x2)]:List (au×V))=sW [x0,x1,x2,x3]:=by kernel_rfl
  rw[dI,M];exact q
end
theorem m_ l:iV l=(l.map λ(n:Nat)=>(n:Int)).map V.int:=by delta iV;rw[eU];rfl
theorem aaL{ns}{l:List Nat}(A:ns.Nodup)(h:∀k,k∈ns↔k∈l.map λ(n:Nat)=>(n:Int)):∃L:List Nat,ns=L.map (λ(n:Nat)=>(n:Int))/\L.Nodup/\∀x,x∈L↔x∈l:=by
 have I:ns=(ns.map Hk).map (λ(n:Nat)=>(n:Int)):=by
  rw[eU]
  conv=>lhs;rw[<-HI ns]
  refine i9 λk E=>?_;obtain⟨n,_,rfl⟩:=bK.mp ((h k).mp E);rfl
 refine#[ns.map Hk,I,?_,λx=>?_]
 .rw[I] at A;exact List.Pairwise.imp (λe z=>e (by rw[z])) (HQ.mp A)
 .constructor
  .intro hx;obtain⟨k,E,rfl⟩:=bK.mp hx;obtain⟨n,A,rfl⟩:=bK.mp ((h k).mp E);exact A
  .intro hx;exact bK.mpr #[x,(h _).mpr (bK.mpr #[x,hx,Z]),Z]
noncomputable def lZ(m:dz)(l:List Int)(i:Nat):List Nat:=aO (aI (aq m) l) λj=>cl m l j i
theorem aaM(h:m.columns[i]? =aa c):i3 m l (c.parents++[i])=lZ m l i:=by
 delta i3 lZ cl;rw[r_ h]
theorem Rb m l i:(lZ m l i).length=aI (aq m) l:=b5 _ _
inductive yu(a:Ad)(H:Hp)(x:af)(m:dz)(l:List Int)(W:Nat->Nat)(B:Nat):Prop|m:∀(dx rl cl wl:af)(ks cs:List af),H x=aa (.ins a.lU dx (sW [.ref rl,.ref cl,.ref wl,.int (B:Nat)]))->H rl=aa (.lst (ks.map V.ref))->gp H ks (aO m.columns.length (gk m l))->H cl=aa (.lst (cs.map V.ref))->gp H cs (aO m.columns.length (lZ m l))->H wl=aa (.lst (iV (aO (aI (aq m) l) W)))->yu a H x m l W B
section
variable {w:aS}{base:aU}
inductive Rc(a:Ad)(K:aP)(vs:List V)(H:Hp)(Q:VK)(x_0:XK):Prop|m:∀(cl bl rl:af)(os ts:List af)(m:dz)(ch:List cx)(l:List Int)(Hi:Hp),vs=[.ref cl,.ref bl,.ref rl]->ao K H cl (os.map V.ref)->ft a H os m.columns->cO m.columns->m.columns.length<=6->ao K H bl (ts.map V.ref)->ag Hi H->eA H Hi ts ch->gN m.columns ch->oU K H rl (nV l)->cG (aq m) l->aI (aq m) l<=1024->(∀H' x W B,ag H H'->H x=ae->yu a H' x m l W B->fN m ch l W B->Q (.ref x) H')->Rc a K vs H Q x_0
theorem Rf(T:TX K mg a d)(hP:P.given.tree=ae):aV P w K mg base bo 44 a.lO d.lO ["columns","chances","row"] (Rc a K):=by
 refine T.lO.ok bE λnD cdv A outer s H vs Q E hr h=>?_;rcases h with⟨cla,bl,rl,os,ts,m,ch,l,Hi,rfl,hcl,hcs,ax,h6,hbl,Si,htb,hch,hrl,M,hN,q⟩;have hpy:=hr.pP (by decide)
 refine#[_,(ay (aM 3 (a_ T.qc (aaG T hP) (ah (pv 0) (ah (pv 2) ak))))
   (ay (pN (i:=4) Z nD Z Z Z (vr Z T.vR (ah (cz (c8) Z T.de c_ (ah (pv 0) ak)) ak)) (own:=[("number",5)]) T.lO.s.c9 (λv v v v v=>(bJ 5)) (λv v v v v=>gh) (λv v v v v=>(a_ T.qd (aaH T) (ah (pv 0) (ah (pv 5) (ah (pv 3) ak))))))
   (ay (aM 6 (bg vA (bU (ah aX ak)) (a_ T.n8 (GJ T) (ah (pv 0) (ah (pv 2) ak)))))
   (ay (aM 7 aX)
   (ay (du dM Z (rV Z T.sM (ah (pv 1) ak)) (iP Z (dj (bJ 5) (dj (bJ 8) gJ))) (ay (aM 9 (cz (WS Z) Z T.Zj WO (ah (vx (WQ Z) Z T.Zk WN (ah (bt b8 (pv 4) (pv 5)) ak)) ak)))
   (ay (pN (i:=10) Z nD Z Z Z (d_ (pv 9)) (own:=[("cell",11)]) T.lO.s.c9 (λv v v v v=>(bJ 11)) (λv v v v v=>gh) (λv v v v v=>(a_ T.sF (aaI T hP) (ah (pv 8) (ah (pv 11) ak)))))
   (ay (aM 12 (a_ T.p8 (QW T hP) (ah (pv 10) ak)))
   (ay (aM 13 (Xp Z Z T.Zl Z T.sN (ah (pv 9) (ah (a_ T.n9 (QY T hP) (ah (pv 10) (ah (pv 12) ak))) ak))))
   (ay (pN (i:=6) Z nD Z Z Z (vD Z T.sN (ah (pv 6) (ah (bt b8 (pv 4) (pv 5)) ak))) (own:=[("weight",14),("cell",11)]) T.lO.s.c9 (λv v v v v=>(GR (K:=K) (n:=2) Z (dj (bJ 14) (dj (bJ 11) gJ)))) (λv v v v v=>gh) (λv v v v v=>(bg gi (pv 14) (U7 (xG hr) (pv 13) (pv 11) (λv v=>Z)))))
   (aF (aM 7 (bg gi (pv 7) (pv 12))))))))))
   (aF (aZ (pMk T.qp T.Zu T.Zo (aaK T) (ah (pv 3) (ah (pv 4) (ah (pv 6) (ah (pv 7) ak)))))))))))),?_]
 have hol:=bS hcs;have hSS:∀{H1 H2:Hp},ag H1 H2->oU K H1 rl (nV l)->oU K H2 rl (nV l):=λS h=>h.elim (λh=>.inl (S.seq h)) λh=>.inr (S.xR h);refine#[_,Z,_,Z,cla,rl,os,m,l,Z,hcl,hcs,ax,by lia,hrl,M,hN,λH1 t1 ks S1 ht1 ht1' hks=>?_]
 dsimp only[aR,aN,L2.start,cN,jk];refine i7 #[_,Z,cla,_,Z,.inl (S1.seq hcl),((m.columns.length:Nat):Int),by rw[aJ,hol],by simp,by lia,?_]
 rw[cI];refine yq (λj ys H'=>∃cs:List af,ys=cs.map V.ref/\gp H' cs (aO j (lZ m l))) (by rw[bQ];lia) (λv v v v S ⟨cs,e1,e2⟩=>#[cs,e1,e2.same S]) #[[],Z,.nil] ?_ ?_ ?_
 .exact λv=>Z
 .rintro D2 j H2 ys hj hD2 hys S2 hl2 ⟨cs,rfl,I⟩ R hR;have hc:m.columns[j]? =aa m.columns[j]:=aY hj;generalize m.columns[j]=c at hc;have J:ag H1 H2:=S2.trans cU;refine#[_,Z,_,Z,_,Z,cla,t1,j,os,ks,m,c,l,?_,(S1.trans J).seq hcl,hcs.same (S1.trans J),ax,hc,ao.of (J _ _ ht1'),hks.same J,hN,λH3 t3 S3 ht3 ht3'=>hR _ _ S3 #[cs++[t3],by rw[bR];rfl,?_]]
  .rw[yN];rfl
  .rw[iY];have h3:t3≠D2:=λz=>by subst z;rw[hys] at ht3;cases ht3
   refine eX (I.same λb u e=>?_) (aQ h3 (by rw[ht3',aaM hc]))
   obtain⟨e1,e2⟩:=bh e;exact aQ e1 (S3 _ _ e2)
 rintro D2 H2 ys hD2 S2 S2' hys hl2 p;rcases p with⟨cs,rfl,I⟩;have I:=I.same cU;have J:=S1.trans S2;have hgs:ie (cV m.columns) (rowOf (aq m) l)<=1024:=hN;refine#[cb,λg0 hg0=>#[_,Z,_,Z,cla,rl,os,m.columns,l,_,Z,(J.trans (ag.new hg0)).seq hcl,hcs.same (J.trans (ag.new hg0)),ax.cV,hSS (J.trans (ag.new hg0)) hrl,M.eq,λH3 S3=>#[g0,_,_,Z,Z,S3 _ _ aA,by simp,by lia,?_,λw0 hw0=>?_]]]
 .rw[cI,kT,bQ];lia
 have ew:(cR ((ie (cV m.columns) (rowOf (aq m) l):Nat):Int).toNat [V.int 1]).flatten=iV (aO (aI (aq m) l) λv=>1):=by
  rw[cI,uE,vO,show ie (cV m.columns) (rowOf (aq m) l)=aI (aq m) l from Z];unfold iV;rw[uJ];rfl
 rw[ew];have S3':ag H2 (upd H3 w0 (.lst (iV (aO (aI (aq m) l) λv=>1)))):=((ag.new hg0).trans S3).trans (ag.new hw0);generalize hH4:upd H3 w0 (.lst (iV (aO (aI (aq m) l) λv=>1)))=H4 at S3';have hw4:H4 w0=aa (.lst (iV (aO (aI (aq m) l) λv=>1))):=by rw[<-hH4,aA]
 have SH4:=J.trans S3';have hcel:∀i,i<m.columns.length->∃ca,(cs.map V.ref)[i]? =aa (.ref ca)/\H4 ca=aa (.lst (iV (lZ m l i))):=λi hi=>by
  obtain⟨ca,h1,h2⟩:=Paired.at_ I (cT (lZ m l) hi);exact#[ca,by rw[bL,h1];rfl,S3' _ _ h2]
 have n1:=bS htb;have n2:=hch.1;refine#[_,Z,bl,_,Z,SH4.seq hbl,sU (a:=bl) (xs:=ts.map V.ref) 5 8 (λT' x y r H Q hT hQ=>#[T',_,Z,.inl (.inl hT),Z,_,_,Z,_,_,Z,Z,hQ]) (λi r H'=>ag H4 H'/\∃(wl:af)(W:Nat->Nat)(B:Nat)(v5 v8 v9 v10 v11 v12 v13 v14:Option V),r=[aa (.ref cla),aa (.ref bl),aa (.ref rl),aa (.ref t1),aa (.ref D2),v5,aa (.ref wl),aa (.int (B:Nat)),v8,v9,v10,v11,v12,v13,v14]/\H' wl=aa (.lst (iV (aO (aI (aq m) l) W)))/\WUp m ch l i W B) #[ag.refl _,w0,λv=>1,1,ae,ae,ae,ae,ae,ae,ae,ae,Z,hw4,Yw m ch l] (λi r H' v ⟨S,_⟩=>(SH4.trans S).seq hbl) ?_ ?_]
 .rintro i x r H' hx ⟨S,wl,W,B,v5,v8,v9,v10,v11,v12,v13,v14,rfl,hwl,o⟩ H5 S5;have hi:i<m.columns.length:=by have:=(bx.mp hx).1;rw[aJ] at this;simp_all
  have hic:i<ch.length:=by simp_all
  have hc:m.columns[i]? =aa m.columns[i]:=aY hi;have ht:ch[i]? =aa ch[i]:=aY hic;generalize m.columns[i]=c at hc;generalize ch[i]=tb at ht;rcases htb.get ht with⟨t,gs,htt,htl,hgs⟩;obtain rfl:x=V.ref t:=by rw[bL,htt] at hx;exact(bf hx).symm
  have htbo:=hch.2 i c tb hc ht;rcases hcel i hi with⟨ca,hca,hcal⟩;have S45:=S.trans S5;have S05:=SH4.trans S45;dsimp only[aN];refine#[_,Z,_,Z,D2,_,_,_,Z,Z,ao.of (S45 _ _ (S3' _ _ hys)),bY hca,ca,_,Z,by rw[<-m_];exact ao.of (S45 _ _ hcal),by rw[aJ,Rb];lia,λp6 hp6=>#[p6,_,Z,aA,λns p7 hnd hmem hp7=>?_]]
  rcases aaL hnd hmem with⟨L,rfl,hLn,hLm⟩;rw[<-m_];generalize AS _ _ p6 ((lZ m l i).map λ(n:Nat)=>(n:Int))=so at hp7⊢;have S57:ag H5 (upd (upd H5 p6 so) p7 (.lst (iV L))):=(ag.new hp6).trans (ag.new hp7);have hL1:∀j,j<aI (aq m) l->cl m l j i∈L:=λj hj=>(hLm _).mpr (dg (cT (λj=>cl m l j i) hj));have hL2:∀x∈L,x<bw m.columns c.parents*aD c.kind:=λx hx=>by
   obtain⟨j,hj,rfl⟩:=bK.mp (show x∈(fg _).map _ from(hLm x).mp hx);have hj:=gx.mp hj;exact(Br ax M hj hc).2
  have hL5:L.length<=512:=bF (Bt _ L hLn hL2) (by have:=(ax i c hc).2.2.2.2;rw[d5] at this;exact this)
  rcases Yy ax hch M o hc ht hL1 hL2 hLn with⟨s1,s2,s3,s4⟩;have hfr:∀x∈L,Bn (dD tb (aD c.kind) x):=λx hx=>by
   obtain⟨_,_,_,q⟩:=FQ htbo (hL2 x hx);exact q
  have O:(upd (upd H5 p6 so) p7 (.lst (iV L))) p7=aa (.lst (iV L)):=aA;generalize upd (upd H5 p6 so) p7 (.lst (iV L))=H7 at S57 O⊢;have S07:=S05.trans S57;have Si7:=Si.trans S07;dsimp only[aR,aN,cN,jk];refine i7 #[_,Z,p7,Z,#[_,ao.of O],?_];refine qz (xs:=iV L) (λj ys v=>∃xs:List af,ys=xs.map V.ref/\jA Hi xs ((L.take j).map (dD tb (aD c.kind)))) (ao.of O) (by rw[cY,bQ];lia) (λv v v v v h=>h) #[[],Z,.nil] ?_ ?_ ?_
  .exact λv=>Z
  .rintro D8 j y H8 ys hy hD8 hys8 S8 hl8 ⟨xs,rfl,hxs⟩ R hR;obtain⟨y,Y,rfl⟩:=gS hy;have S78:ag H7 H8:=S8.trans cU;refine#[_,Z,_,Z,t,y,gs,tb,m.columns,c,Hi,Z,ao.of ((S07.trans S78) _ _ htl),Si7.trans S78,hgs,htbo,hL2 y (dg Y),λx hx=>hR _ _ (ag.refl _) #[xs++[x],by rw[bR];rfl,?_]]
   rw[take_snoc Y,bR];exact eX hxs hx
  rintro D8 H8 ys hD8 S8 S8' hys8 hl8 p;rcases p with⟨xs,rfl,hxs⟩;rw[cY,eV] at hxs;have S08:=S07.trans S8;have Si8:=Si.trans S08;have hxs8:jA H8 xs (L.map (dD tb (aD c.kind))):=Paired.eJ hxs λv v q=>Si8 _ _ q;have eden:(L.map (dD tb (aD c.kind))).map (λf=>f.den)=L.map λx=>(dD tb (aD c.kind) x).den:=by rw[eU];rfl
  have hdenp:∀d∈L.map (λx=>(dD tb (aD c.kind) x).den),0<d:=λd hd=>by
   obtain⟨x,hx,rfl⟩:=bK.mp hd;exact(hfr x hx).1.1
  refine#[_,Z,D8,xs,_,eR (L.map λx=>(dD tb (aD c.kind) x).den),CB,Z,ao.of hys8,hxs8,λf hf=>?_,s1,s3,by unfold CB;simp,?_]
  .obtain⟨x,hx,rfl⟩:=bK.mp hf;exact#[(hfr x hx).1.1,FU hdenp (bK.mpr #[x,hx,Z])]
  rw[eden];generalize hSc:eR (L.map λx=>(dD tb (aD c.kind) x).den)=Sc at s1 s2 s3 s4⊢;refine#[_,Z,_,Z,_,Z,D8,xs,_,Sc,133,CB,Z,ao.of hys8,hxs8,λg hg=>?_,s3,by unfold CB;simp,by rw[aJ];lia,λH9 D9 S9 hD9 hD9'=>#[p7,D9,L.map (λ(n:Nat)=>(n:Int)),iV ((L.map (dD tb (aD c.kind))).map λg=>fM g Sc),Z,by rw[<-m_];exact ao.of (S9 _ _ (S8 _ _ O)),ao.of hD9',by rw[aJ,cY,aJ,aJ],λp10 hp10=>?_]]
  .obtain⟨x,hx,rfl⟩:=bK.mp hg;have h1:=hfr x hx;refine#[h1.1.1,h1.2.1,?_];have h3:=h1.2.2.1;have e:((10^40:Nat):Int)=10^40:=by norm_cast
   have:(dD tb (aD c.kind) x).num.toNat<=10^40:=by simp_all
   exact bF this (by decide)
  have S0:ag H9 (upd H9 p10 (.dK (lC [] (nY (L.map λ(n:Nat)=>(n:Int)) (iV ((L.map (dD tb (aD c.kind))).map λg=>fM g Sc)))))):=ag.new hp10;have hdict:∀H',ag (upd H9 p10 (.dK (lC [] (nY (L.map λ(n:Nat)=>(n:Int)) (iV ((L.map (dD tb (aD c.kind))).map λg=>fM g Sc)))))) H'->∀x∈L,vC H' p10 (.int (x:Nat)) (aa (.int (fM (dD tb (aD c.kind) x) Sc:Nat))):=λH' S x hx=>by
   refine .inl #[_,fV (x:Int),.inl (S _ _ aA),Z,?_];obtain⟨n,hn⟩:=List.getElem?_of_mem hx;exact(Q9 (i:=n) ((HQ.mpr (hLn.imp λe z=>e (by lia)))) (by rw[bL,hn];rfl) (wa (by rw[bL,bL,hn];rfl))).symm
  generalize upd H9 p10 (.dK (lC [] (nY (L.map λ(n:Nat)=>(n:Int)) (iV ((L.map (dD tb (aD c.kind))).map λg=>fM g Sc)))))=H10 at S0 hdict⊢;have S510:ag H5 H10:=((S57.trans S8).trans S9).trans S0;have U:=S45.trans S510;have hwl10:=S510 _ _ (S5 _ _ hwl);refine i7 #[_,Z,_,Z,_,Z,D2,_,_,_,Z,Z,ao.of (U _ _ (S3' _ _ hys)),bY hca,wl,ca,_,_,Z,ao.of hwl10,ao.of (U _ _ hcal),?_];refine GO (a:=wl) (b:=ca) (xs:=iV (aO (aI (aq m) l) W)) (ys:=iV (lZ m l i)) (j:=14) (k:=11) (λT' x y r H Q hT hQ=>#[T',_,Z,.inl (.inl hT),Z,_,_,Z,_,_,Z,Z,hQ]) (λx r H P P' hp ⟨a1,a2,a3,a4,a5,a6,a7,a8,a9,a10,a11,a12,q⟩=>#[a1,a2,a3,a4,a5,a6,a7,a8,a9,a10,a11,a12,hp _ _ q]) (λn zs v=>zs=iV (aO n λj=>W j*fM (dD tb (aD c.kind) (cl m l j i)) Sc)) (ao.of hwl10) (ao.of (U _ _ hcal)) (by rw[cY,cY,Rb,b5]) (by rw[cY,b5,bQ];lia) (λv v v v v h=>h) Z ?_ ?_ ?_
  .exact λv v=>Z
  .rintro D11 n x y H11 zs hx hy hD11 hzs S11 hl11 rfl R hR;obtain⟨x,hx',rfl⟩:=gS hx;obtain⟨y,Y,rfl⟩:=gS hy;have hn:n<aI (aq m) l:=by have:=(bx.mp hx').1;rw[b5] at this;exact this
   rw[cT W hn] at hx';obtain rfl:=bf hx';unfold lZ at Y;rw[cT _ hn] at Y;obtain rfl:=bf Y;refine#[_,Z,_,Z,_,Z,p10,_,Z,hdict _ (S11.trans cU) _ (hL1 n hn),_,_,Z,Z,lY (o.2.2.1 n hn) (s2 _ (hL1 n hn)) ?_,hR _ _ (ag.refl _) ?_]
   .unfold CB;lia
   .rw[iY];unfold iV;rw[bR]
    congr 1
  .rintro D11 H11 zs hD11 S11 S11' hzs hl11 hF;rw[cY,b5] at hF;subst hF;refine#[_,Z,_,Z,_,_,Z,Z,lY o.2.1 s3 ?_,U.trans S11,D11,_,B*Sc,_,_,_,_,_,_,_,_,Z,hzs,s4];unfold CB;lia
 .rintro r H' p;rcases p with⟨S,wl,W,B,v5,v8,v9,v10,v11,v12,v13,v14,rfl,hwl,o⟩;rw[aJ,n1,n2] at o;refine#[_,Z,_,Z,_,Z,_,Z,λx dx nx ndx nex=>#[x,dx,[_,_,_,_],Z,Z,aA,#[Z,?_]]];have Sx:ag H' (upd (upd (upd H' dx (.own x)) x (.ins a.lU dx [])) x (.ins a.lU dx (sW [.ref t1,.ref D2,.ref wl,.int (B:Nat)]))):=by
   rw[dI];exact(ag.new ndx).trans (ag.new (by rw[aB (bG nex)];exact nx))
  have S2':=(S3'.trans S).trans Sx;exact q _ x W B ((SH4.trans S).trans Sx) ((SH4.trans S).free nx) #[dx,t1,D2,wl,ks,cs,aA,(S2.trans S2') _ _ ht1',hks.same (S2.trans S2'),S2' _ _ hys,I.same S2',Sx _ _ hwl] o
end
end CC
namespace L2
theorem Rg:PySem.bootBuiltins "tuple"=aa (.type "tuple"):=by decide +kernel
end L2
namespace CC
theorem yw{A:Type}[DecidableEq A]{k:A}{x:Nat}:∀{T:List (A×Nat)},k∉T.map d7->ups T k x=T++[(k,x)]/\jq T k=0
 |[],_=>#[Z,Z]
 |e::T,h=>by
  have E:e.1≠k:=λz=>h (by rw[<-z];exact bH)
  obtain⟨J,I⟩:=yw (k:=k) (x:=x) (T:=T) λz=>h (by rw[b7];exact bI _ z)
  refine#[?_,?_]
  .unfold ups;rw[aw E,J];rfl
  .unfold jq;rw[aw E,I]
theorem GS{E:Type}[DecidableEq E]{k:E}{x:Nat}:∀{T:List (E×Nat)},(T.map d7).Nodup->k∈T.map d7->ups T k x=T.map λe=>if e.1=k then(e.1,jq T k+x) else e
 |[],_,h=>by simp at h
 |e::T,I,h=>by
  rw[b7] at I h;obtain⟨O,M⟩:=nq.mp I;by_cases A:e.1=k
  .unfold ups jq;rw[aC A,aC A,b7,aC A]
   congr 1
   conv=>lhs;rw[<-HI T]
   refine i9 λJ h'=>?_;have:J.1≠k:=λz=>O (by rw[A,<-z];exact bK.mpr #[J,h',Z])
   rw[aw this];rfl
  .have R:k∈T.map d7:=by
    obtain h|h:=bM.mp h
    .exact absurd h.symm A
    .exact h
   unfold ups jq;rw[aw A,b7,aw A,aw A,GS M R]
theorem Rh{A:Type}[DecidableEq A]{k:A}{x:Nat}{T:List (A×Nat)}(E:(T.map d7).Nodup):((ups T k x).map d7).Nodup:=by
 by_cases h:k∈T.map d7
 .rw[GS E h,eU];have:(d7∘λ(e:A×Nat)=>if e.1=k then(e.1,jq T k+x) else e)=d7:=by
   funext e
   show(if e.1=k then(e.1,jq T k+x) else e).1=e.1
   split<;>rfl
  rw[this];exact E
 .rw[(yw h).1,bR,oV];refine#[E,by simp,λa J b I=>?_]
  rw[b7,kU,cj] at I;rintro rfl;exact h (by rw[<-show a=k from I];exact J)
noncomputable def dE{E A:Type}(f:E->A)(T:List (E×Nat)):List (A×V):=T.map λe=>(f e.1,V.int (e.2:Nat))
theorem sX{E A:Type}(f:E->A)(T:List (E×Nat)):(dE f T).length=T.length:=aJ ..
theorem GU{I E:Type}[DecidableEq I][DecidableEq E]{f:I->E}(M:∀a b,f a=f b->a=b)(k:I):∀T:List (I×Nat),eh (dE f T) (f k)=if k∈T.map d7 then aa (V.int (jq T k:Nat)) else ae
 |[]=>by rw[aw (by simp)];rfl
 |e::T=>by
  unfold jq;by_cases A:e.1=k
  .rw[aC A,aC (by rw[<-A];exact bH)]
   exact lA (p:=(f e.1,V.int (e.2:Nat))) (by rw[<-A])
  .rw[aw A];have O:eh (dE f (e::T)) (f k)=eh (dE f T) (f k):=lB (p:=(f e.1,V.int (e.2:Nat))) λz=>A (M _ _ z);rw[O,GU M k T];have:k∈(e::T).map d7↔k∈T.map d7:=by
    rw[b7,bM];exact#[λh=>h.elim (λz=>absurd z.symm A) id,.inr]
   by_cases J:k∈T.map d7
   .rw[aC J,aC (this.mpr J)]
   .rw[aw J,aw λz=>J (this.mp z)]
theorem Ri{E A:Type}[DecidableEq E][DecidableEq A]{f:E->A}(I:∀a b,f a=f b->a=b)(k:E)(T:List (E×Nat)):(eh (dE f T) (f k)).getD (V.int 0)=V.int (jq T k:Nat):=by
 rw[GU I];by_cases h:k∈T.map d7
 .rw[aC h];rfl
 .rw[aw h,(yw (x:=0) h).2];rfl
theorem Rj{E A:Type}[DecidableEq E][DecidableEq A]{f:E->A}(J:∀a b,f a=f b->a=b){k:E}{x:Nat}{T:List (E×Nat)}(M:(T.map d7).Nodup):putK (dE f T) (f k) (V.int ((jq T k+x:Nat):Int))=dE f (ups T k x):=by
 delta putK;rw[xC,GU J];by_cases h:k∈T.map d7
 .rw[aC h,aC (by rfl),GS M h]
  delta dE;rw[eU,eU];refine i9 λe y=>?_;show(if f e.1=f k then(f e.1,V.int ((jq T k+x:Nat):Int)) else(f e.1,V.int (e.2:Nat)))=(λ(e:E×Nat)=>(f e.1,V.int (e.2:Nat))) (if e.1=k then(e.1,jq T k+x) else e)
  by_cases I:e.1=k
  .rw[aC I,aC (by rw[I])]
  .rw[aw I,aw λz=>I (J _ _ z)]
 .rw[aw h,aw (by simp),(yw h).1,(yw (x:=x) h).2,o7]
  delta dE;rw[bR];rfl
noncomputable def fu(l:List Int):List Key:=l.map fV
theorem Rk(a b:List Int)(h:fu a=fu b):a=b:=by
 have:∀{a b:List Int},fu a=fu b->a=b:=by
  intro a
  induction a with
  |nil=>intro b h;cases b with|nil=>rfl|cons y b=>simp[fu] at h
  |cons x a A=>intro b h;cases b with
   |nil=>simp[fu] at h
   |cons y b=>
    delta fu at h;rw[b7,b7] at h;injection h with I E
    rw[zY I,A E]
 exact this h
theorem BY l:(fu l).map kV=nV l:=by delta fu nV;rw[eU];rfl
noncomputable def iG(n:Nat):Key:=fV (n:Int)
theorem Rm a b (h:iG a=iG b):a=b:=by have:=zY h;lia
theorem aaN ls:((cv ls).map d7).Nodup:=by
 refine snoc_ind (p:=λls=>((cv ls).map _).Nodup) mi (λls l A=>?_) ls;rw[uk];exact Rh A
theorem aaO ps i x:((cQ ps i x).map d7).Nodup:=by
 refine snoc_ind (p:=λps=>((cQ ps i x).map _).Nodup) mi (λps p A=>?_) ps;rw[x_]
 split
 .exact A
 .exact Rh A
noncomputable def dZ(N:Nat)(f W:Nat->Nat)(x:Nat):Nat:=sumTo N λj=>if f j=x then W j else 0
theorem aaP{f}(h:f i<n):(aO n (dZ i f W)).set (f i) (dZ i f W (f i)+W i)=aO n (dZ (i+1) f W):=by
 refine l9 λx=>?_;rw[HA];have hx:∀x,dZ _ f W x=dZ i f W x+if f i=x then W i else 0:=λx=>by delta dZ;rw[si]
 by_cases e:f i=x
 .rw[aC e,b5,aC h,<-e,cT _ h,hx,aC Z]
 .rw[aw e];by_cases A:x<n
  .rw[cT _ A,cT _ A,hx,aw e,uK]
  .rw[fz (by rw[b5];simp_all),fz (by rw[b5];simp_all)]
theorem BZ n W:((aO n W).map λ(n:Nat)=>(n:Int)).sum=((sumTo n W:Nat)):=by
 induction n with
 |zero=>rfl
 |succ n A=>rw[iY,bR,tq,A,si];simp
section
variable {w:aS}{base:aU}
theorem Rn(T:TX K mg a d)(R:P.given.tree=ae):aV P w K mg base bo 43 a.qe d.qe ["fillings"] (λvs H Q y=>∃(x:af)(m:dz)(l:List _)(W:Nat->Nat)(B:Nat),vs=[.ref x]/\yu a H x m l W B/\0<B/\∀p,H p=ae->uC (upd H p (.tup [.int (aW (sumTo (aI (aq m) l) W) B).num,.int ((aW (sumTo (aI (aq m) l) W:Nat) B).den)])) p (aW (sumTo (aI (aq m) l) W) B)->Q (.ref p) (upd H p (.tup [.int (aW (sumTo (aI (aq m) l) W) B).num,.int ((aW (sumTo (aI (aq m) l) W:Nat) B).den)]))):=by
 refine T.qe.ok (λvs H Q E h=>?_) (λnD U A outer s H vs Q E hr h=>?_)
 .rcases h with⟨x,m,l,W,B,rfl,_⟩;rfl
 .rcases h with⟨x,m,l,W,B,rfl,⟨dx,rl,cl,M,ks,cs,J,h2,b,Y,V,S⟩,I,q⟩;refine#[_,(aF (aZ (a_ T.lN (yk T R) (ah (cz (xy Z) Z T.ye xQ (ah (aK (pv 0) Z) ak)) (ah (aK (pv 0) Z) ak))))),#[_,Z,x,_,dx,_,_,Z,J,T.gQ,T.oG,qC,M,_,Z,by rw[<-m_];exact ao.of S,_,Z,x,_,dx,_,_,Z,J,T.gQ,T.Gk,Ra,_,B,by rw[BZ];rfl,I,λp O=>?_]]
  have e:=sV (sumTo (aI (aq m) l) W) B I;have:=q p O aA;rw[e] at this;exact this
inductive Ro(K:aP)(vs:List V)(H:Hp)(Q:VK)(x_0:XK):Prop|m:∀(p u:af)(n N:Nat)(f W:Nat->Nat),vs=[.ref p,.ref u,.int (n:Nat)]->ao K H p (iV (aO N f))->ao K H u (iV (aO N W))->n<=5000->(∀j,j<N->f j<n)->(∀H' t,ag H H'->H t=ae->H' t=aa (.lst (iV (aO n (dZ N f W))))->Q (.ref t) H')->Ro K vs H Q x_0
theorem Rp(T:TX K mg a d):aV P w K mg base bo 41 a.qf d.qf ["places","weights","many"] (Ro K):=by
 refine T.qf.ok bE λnD cdv A outer s H vs Q E hr h=>?_;obtain⟨p,u,n,N,f,W,rfl,hp,hu,hn,hf,q⟩:=h;refine#[_,(ay (aM 3 (bg vA (bU (ah aX ak)) (pv 2)))
   (ay (du dM Z (vD Z T.sN (ah (pv 0) (ah (pv 1) ak))) (iP Z (dj (bJ 4) (dj (bJ 5) gJ))) (aF (Lu (pv 3) (pv 4) Q0 (pv 5) Lv set_list)))
   (aF (aZ (pv 3))))),?_]
 refine#[cb,λg0 hg0=>#[_,Z,g0,_,_,Z,Z,aA,by simp,by lia,?_,λt ht=>?_]]
 .rw[cI,kT,bQ];lia
 dsimp only[aR,aN,L2.start];have et:(cR ((n:Nat):Int).toNat [V.int 0]).flatten=iV (aO n (dZ 0 f W)):=by
  rw[cI,uE,show(dZ 0 f W)=λk=>0 from Z,vO];delta iV;rw[uJ];rfl
 rw[et];have S0:ag H (upd H g0 (.lst [.int 0])):=ag.new hg0;have S1:=S0.trans (ag.new (o:=.lst (iV (aO n (dZ 0 f W)))) ht);have U:=S0.free ht;have M:∀{H':Hp},ag H (Wo H' t)->ag H H':=λS=>S.trans cU;refine#[_,Z,_,Z,p,u,_,_,Z,S1.seq hp,S1.seq hu,BX (a:=p) (b:=u) (xs:=iV (aO N f)) (ys:=iV (aO N W)) 4 5 (λT' x y j H Q hT hQ=>#[T',_,Z,.inl (.inl hT),Z,_,_,Z,_,_,Z,Z,hQ]) (λi j H'=>ag H (Wo H' t)/\H' t=aa (.lst (iV (aO n (dZ i f W))))/\∃v4 v5,j=[aa (.ref p),aa (.ref u),aa (.int (n:Nat)),aa (.ref t),v4,v5]) (by rw[cY,cY,b5,b5]) #[λb u e=>aQ (bc e U) (S1 _ _ e),aA,ae,ae,Z] (λi j H' k ⟨S,_⟩=>#[(M S).seq hp,(M S).seq hu]) ?_ ?_]
 .rintro i x y j H' hx hy ⟨S,I,v4,v5,rfl⟩ H2 S2;obtain⟨x,J,rfl⟩:=gS hx;obtain⟨y,O,rfl⟩:=gS hy;have Y:=by have:=(bx.mp J).1;rw[b5] at this;exact this
  rw[cT _ Y] at J O;obtain rfl:=bf J;obtain rfl:=bf O;have R:=S2 _ _ I;dsimp only[aN];refine#[_,Z,_,Z,t,_,f i,_,Z,Z,ao.of R,wa (cT _ (hf i Y)),_,Z,_,_,Z,Z,t,_,_,f i,Z,Z,R,?_,?_]
  .rw[cY,b5];exact GQ (hf i Y)
  refine#[λb v e=>?_,?_,_,_,Z]
  .obtain⟨c,e2⟩:=bh (S _ _ e);exact aQ c (by rw[aB c];exact S2 _ _ e2)
  .rw[aA];have c:(iV (aO n (dZ i f W))).set (f i) (.int ((dZ i f W (f i):Int)+ (W i:Nat)))=iV (aO n (dZ (i+1) f W)):=by
    rw[<-aaP (hf i Y),<-Q1];rfl
   exact congrArg (λz=>aa (HO.lst z)) c
 .rintro j H' ⟨S,I,v4,v5,rfl⟩;rw[cY,b5] at I;exact#[_,Z,q H' t (M S) U I]
inductive Rq(K:aP)(vs:List V)(H:Hp)(Q:VK)(x_0:XK):Prop|m:∀(rl:af)(ras:List af)(ls:List (List Int)),vs=[.ref rl]->ao K H rl (ras.map V.ref)->qB K H ras ls->ls.length<=1000->(∀H' t,ag H H'->H t=ae->H' t=aa (.dT (dE fu (cv ls)))->Q (.ref t) H')->Rq K vs H Q x_0
theorem Rr(T:TX K mg a d):aV P w K mg base bo 41 a.p_ d.p_ ["rows"] (Rq K):=by
 refine T.p_.ok bE λnD cdv A outer s H vs Q E hr h=>?_;obtain⟨rl,ras,ls,rfl,Y,U,hlen,q⟩:=h;refine#[_,(ay (aM 1 Vc)
   (ay (du dM Z (d_ (pv 0)) (bJ 2) (aF (MF (xG hr) (pv 1) (vx (L7) Z T.PB Rg (ah (pv 2) ak)) (bg eK (MI (xG hr) (pv 1) (vx (L7) Z T.PB Rg (ah (pv 2) ak)) aX #[Z,Z,Z,Z]) aX) Z)))
   (aF (aZ (pv 1))))),?_]
 refine λt ht=>?_;dsimp only[aR,aN,L2.start];have S1:ag H (upd H t (.dT [])):=ag.new ht;have O:∀{H':Hp},ag H (Wo H' t)->ag H H':=λS=>S.trans cU;have hl:=bS U;refine#[_,Z,rl,Z,#[_,S1.seq Y],gf (a:=rl) (xs:=ras.map V.ref) (λi j H'=>ag H (Wo H' t)/\H' t=aa (.dT (dE fu (cv (ls.take i))))/\∃v,j=[aa (.ref rl),aa (.ref t),v]) #[λb u e=>aQ (bc e ht) (S1 _ _ e),aA,ae,Z] (λi j H' k ⟨S,_⟩=>(O S).seq Y) ?_ ?_]
 .rintro i y j H' hi ⟨S,I,v,rfl⟩;have hil:i<ls.length:=by have:=(bx.mp hi).1;rw[aJ] at this;simp_all
  have M:=aY hil;generalize ls[i]=l at M;obtain⟨ra,hra,R⟩:=Paired.at_ U M;obtain rfl:y=V.ref ra:=by rw[bL,hra] at hi;exact(bf hi).symm
  have SH:=O S;dsimp only[aN];refine#[_,Z,t,Z,.inr #[_,.inl I],_,Z,ra,_,Z,.inl #[SH.seq R,λk1 J=>#[_,.inr #[_,fu l,k1,.inl (ag.new J _ _ I),Z,by rw[aA,BY],Z],?_]]]
  rw[Ri Rk];refine#[_,_,Z,Z,_,Z,_,Z,ra,_,Z,.inl #[(SH.trans (ag.new J)).seq R,λk2 c=>#[t,_,Z,.inr #[_,fu l,k2,((ag.new J).trans (ag.new c)) _ _ I,Z,by rw[aA,BY],?_,Z],?_]]]
  .rw[sX,bQ];have:=F4 (ls.take i);rw[gw] at this;lia
  refine#[λb u e=>?_,?_,_,Z]
  .obtain⟨e1,e2⟩:=bh (S _ _ e);exact aQ e1 (by rw[aB e1];exact((ag.new J).trans (ag.new c)) _ _ e2)
  .rw[aA,take_snoc M,uk];exact congrArg (λz=>aa (HO.dT z)) (Rj (x:=1) Rk (aaN _))
 .rintro j H' ⟨S,I,v,rfl⟩;rw[aJ,hl,eV] at I;exact#[_,Z,q H' t (O S) ht I]
end
noncomputable def l0(N:Nat)(W:Nat->Nat)(j:Nat):Nat:=W j/gO (aO N W)
theorem Rt{N}(h:j<N):l0 N W j*gO (aO N W)=W j:=Nat.div_mul_cancel (YL _ _ (dg (cT W h)))
theorem Ru N W:sumTo N (l0 N W)*gO (aO N W)=sumTo N W:=by
 rw[<-FW];exact OY λj A=>Rt A
theorem Rv{N}(h:0<sumTo N W):0<gO (aO N W):=by
 obtain e|e:=CK (gO (aO N W))
 .rw[<-Ru,e,y_] at h;simp_all
 .exact e
noncomputable def fe(m:dz)(l:List Int)(W:Nat->Nat)(n:Nat):Part:=#[n,sumTo (aI (aq m) l) (l0 (aI (aq m) l) W),λi x=>dZ (aI (aq m) l) (λj=>cl m l j i) (l0 (aI (aq m) l) W) x]
theorem aaQ N f W x:dZ N f W x<=sumTo N W:=OX λj y=>by split<;>simp
theorem Rw(J:cO m.columns)(S:m.columns.length<=6)(h:cG (aq m) l)(R:aI (aq m) l<=1024)(hw:fN m ch l W B)(I:0<sumTo (aI (aq m) l) W) n :
  0<(fe m l W n).b/\(fe m l W n).b<=2^(6*CB+10)/\∀i c,m.columns[i]? =aa c->∀x,x<bw m.columns c.parents*aD c.kind->(fe m l W n).a i x<=(fe m l W n).b/\aW ((fe m l W n).a i x) (fe m l W n).b=Vaprbp.expectedIn m i (x/aD c.kind,x%aD c.kind) (Ek m ch (rowOf (aq m) l)):=by
 have M:=Rv I;have E:=Ru (aI (aq m) l) W;refine#[?_,?_,λi c O x hx=>#[aaQ _ _ _ _,?_]]
 .show 0<sumTo _ _;obtain e|e:=CK (sumTo (aI (aq m) l) (l0 (aI (aq m) l) W))
  .rw[e,uP] at E;simp_all
  .exact e
 .show sumTo _ _<=_;have T:sumTo (aI (aq m) l) (l0 (aI (aq m) l) W)<=aI (aq m) l*2^(6*CB):=FV λj A=>bF (oX _ _) (bF (hw.2.2.1 j A) (oZ (by simp) (by rw[d5];exact ja _ S)))
  refine bF T ?_;rw[qQ,d5 (2^(6*CB))];exact ja _ (bF R (by decide))
 .have hsz:0<aD c.kind:=by
   obtain e|e:=CK (aD c.kind)
   .rw[e,y_] at hx;simp_all
   .exact e
  rw[Yz J h hw I O (nu _ hsz)];have V:x/aD c.kind*aD c.kind+x%aD c.kind=x:=by rw[d5];exact y3 _ _
  rw[V,<-E];have U:sumTo (aI (aq m) l) (λj=>if cl m l j i=x then W j else 0)=dZ (aI (aq m) l) (λj=>cl m l j i) (l0 (aI (aq m) l) W) x*gO (aO (aI (aq m) l) W):=by
   delta dZ;rw[<-FW];refine OY λj A=>?_
   split
   .exact(Rt A).symm
   .rw[uP]
  rw[U,fH];exact(n4 _ _ _ M).symm
noncomputable def dF(m:dz)(i:Nat):Nat:=((m.columns[i]?).map λc=>bw m.columns c.parents*aD c.kind).getD 0
theorem wc(h:m.columns[i]? =aa c):dF m i=bw m.columns c.parents*aD c.kind:=by delta dF;rw[h];rfl
def fZ(H:Hp)(m:dz)(pl:af)(qa:Nat->af)(da:Nat->Nat->af)(F:Nat->Nat->List (Nat×Nat)):Prop:=
 H pl=aa (.lst (aO m.columns.length λi=>V.ref (qa i)))/\(∀i,i<m.columns.length->H (qa i)=aa (.lst (aO (dF m i) λx=>V.ref (da i x))))/\∀i x,i<m.columns.length->x<dF m i->H (da i x)=aa (.dK (dE iG (F i x)))
def B0(m:dz)(da:Nat->Nat->af):Prop:=∀i x A E,i<m.columns.length->x<dF m i->A<m.columns.length->E<dF m A->da i x=da A E->i=A/\x=E
def Fr(m:dz)(da:Nat->Nat->af)(H H':Hp):Prop:=∀b u,H b=aa u->(∀i x,i<m.columns.length->x<dF m i->b≠da i x)->H' b=aa u
theorem Fr.of(S:ag H H'):Fr m da H H':=λb u e x=>S _ _ e
theorem Fr.trans{A}(h:Fr m da H1 H2)(h':Fr m da H2 A):Fr m da H1 A:=λb u e q=>h' b u (h b u e q) q
theorem Fr.put{x}{o}(A:i<m.columns.length)(hx:x<dF m i):Fr m da H (upd H (da i x) o):=λb u e q=>by rw[aB (q i x A hx)];exact e
theorem fZ.lst(h:fZ H m pl qa da F)(e:H b=aa (.lst ys))(f:Fr m da H H'):H' b=aa (.lst ys):=f b _ e λi x A hx z=>by
 subst z;rw[h.2.2 i x A hx] at e;cases e
theorem fZ.same(h:fZ H m pl qa da F)(S:ag H H'):fZ H' m pl qa da F:=#[S _ _ h.1,λi A=>S _ _ (h.2.1 i A),λi x A hx=>S _ _ (h.2.2 i x A hx)]
theorem fZ.congr(h:fZ H m pl qa da F)(e:∀i x,i<m.columns.length->x<dF m i->F i x=G i x):fZ H m pl qa da G:=#[h.1,h.2.1,λi x A hx=>by rw[<-e i x A hx];exact h.2.2 i x A hx]
theorem fZ.put(hd:B0 m da)(h:fZ H m pl qa da F){x}(M:i<m.columns.length)(hx:x<dF m i){T}:fZ (upd H (da i x) (.dK (dE iG T))) m pl qa da λE I=>if E=i/\I=x then T else F E I:=by
 have f:Fr m da H (upd H (da i x) (.dK (dE iG T))):=Fr.put M hx;refine#[h.lst h.1 f,λE A=>h.lst (h.2.1 E A) f,λE I A J=>?_]
 try dsimp only
 by_cases e:E=i/\I=x
 .obtain⟨rfl,rfl⟩:=e;rw[aA,aC #[Z,Z]]
 .rw[aw e,aB λz=>e (hd _ _ _ _ A J M hx z)];exact h.2.2 E I A J
noncomputable def B1(p:Part)(F:Nat->Nat->List (Nat×Nat))(i x:Nat):List (Nat×Nat):=if p.a i x=0 then F i x else ups (F i x) p.b (p.a i x*p.n)
section
variable {w:aS}{base:aU}
inductive Rx(a:Ad)(vs:List V)(H:Hp)(Q:VK)(E:XK):Prop|m:∀(pl x:af)(n:Nat)(m:dz)(ch:List cx)(l:List Int)(W:Nat->Nat)(B:Nat)(qa:Nat->af)(da:Nat->Nat->af)(F:Nat->Nat->List (Nat×Nat)),vs=[.ref pl,.ref x,.int (n:Nat)]->yu a H x m l W B->cO m.columns->m.columns.length<=6->cG (aq m) l->aI (aq m) l<=1024->fN m ch l W B->n<=1000->fZ H m pl qa da F->B0 m da->(∀i x,((F i x).map d7).Nodup/\(F i x).length<=1000)->(sumTo (aI (aq m) l) W=0->E (.ref a.um) ae H)->(0<sumTo (aI (aq m) l) W->∀H',Fr m da H H'->fZ H' m pl qa da (B1 (fe m l W n) F)->Q .bB H')->Rx a vs H Q E
theorem aaR(T:TX K mg a d)(hP:P.given.tree=ae):aV P w K mg base (e9 P w a.um) 43 a.qg d.qg ["parts","fillings","often"] (Rx a):=by
 refine T.qg.gL bE λnD cdv A outer s H vs Q E hr W h=>?_;obtain⟨pl,x,n,m,ch,l,I,B,qa,da,F,rfl,hF,ax,h6,hrow,hN,hw,hn,hC,hda,hFn,qE,q⟩:=h;have hpy:=hr.pP (by decide)
 refine#[_,(ay (cy (b9 mG (cz (xy Z) Z T.ye xQ (ah (aK (pv 1) Z) ak)) aX (cu _)) (aF (Nj T.Gm Z W Z T.Gh)) cC)
   (ay (aM 3 (a_ T.sD (aay T) (ah (aK (pv 1) Z) ak)))
   (ay (pN (i:=4) Z nD Z Z Z (d_ (aK (pv 1) Z)) (own:=[("weight",5)]) T.qg.s.c9 (λt t t t t=>(bJ 5)) (λt t t t t=>gh) (λt t t t t=>(bg (GP hpy hP Z Z Z Z Z) (pv 5) (pv 3))))
   (ay (aM 6 (cz (xy Z) Z T.ye xQ (ah (pv 4) ak)))
   (aF (du kq Z (rV Z T.sM (ah (aK (pv 1) Z) ak)) (iP Z (dj (bJ 7) (dj (bJ 8) gJ))) (ay (aM 9 (bt b8 (pv 0) (pv 7)))
   (aF (du kq Z (rV Z T.sM (ah (a_ T.qf (Rp T) (ah (pv 8) (ah (pv 4) (ah (cz (c8) Z T.de c_ (ah (pv 9) ak)) ak)))) ak)) (iP Z (dj (bJ 10) (dj (bJ 11) gJ))) (aF (cy (b9 jR (pv 11) aX (cu _)) (aF (MF (xG hr) (bt b8 (pv 9) (pv 10)) (pv 6) (bg eK (MI (xG hr) (bt b8 (pv 9) (pv 10)) (pv 6) aX #[Z,Z,Z,Z]) (bg gi (pv 11) (pv 2))) Z)) cC))))))))))),?_]
 rcases id hF with⟨dx,rl,cl',wl,ks,cs,f1,f2,f3,f4,f5,f6⟩;have hS:ao K H wl ((aO (aI (aq m) l) I).map (λ(n:Nat)=>(n:Int)) |>.map V.int):=by rw[<-m_];exact ao.of f6
 refine cX (decide (sumTo (aI (aq m) l) I=0)) (λR q'=>#[_,Z,x,_,dx,_,_,Z,f1,T.gQ,T.oG,qC,wl,_,Z,hS,Z,_,Z,?_]) ?_
 .rw[BZ,show decide (V.int ((sumTo (aI (aq m) l) I:Nat):Int)=V.int 0)=decide (sumTo (aI (aq m) l) I=0) by rw[d9];exact#[λz=>by injection z with z;simp_all,λz=>by rw[z];rfl]]
  exact q'
 by_cases h0:sumTo (aI (aq m) l) I=0
 .rw[bX h0];exact bu (qE h0)
 rw[bO h0];have hp:0<sumTo (aI (aq m) l) I:=by lia
 have q:=q hp;have hg:=Rv hp;obtain⟨b0,b1,b2⟩:=Rw ax h6 hrow hN hw hp n;refine br #[_,Z,x,_,dx,_,_,Z,f1,T.gQ,T.oG,qC,wl,_,Z,ao.of f6,?_];dsimp only[aR,aN,L2.start,cN,jk];refine i7 #[_,Z,x,_,dx,_,_,Z,f1,T.gQ,T.oG,qC,wl,Z,#[_,ao.of f6],?_];refine qz (xs:=iV (aO (aI (aq m) l) I)) (λi ys t=>ys=iV (aO i (l0 (aI (aq m) l) I))) (ao.of f6) (by rw[cY,b5,bQ];lia) (λt t t t t h=>h) Z ?_ ?_ ?_
 .exact λt=>Z
 .rintro D i y H1 ys hy hD hys S1 hl rfl R hR;obtain⟨y,O,rfl⟩:=gS hy;have U:i<aI (aq m) l:=by have:=(bx.mp O).1;rw[b5] at this;exact this
  rw[cT _ U] at O;obtain rfl:=bf O;refine#[_,Z,_,Z,_,_,Z,Z,(by simp_all),hR _ _ (ag.refl _) ?_]
  rw[iY];delta iV l0;rw[bR]
  congr 1
 rintro D H1 ys hD S1 S1' hys hl hF1;rw[cY,b5] at hF1;subst hF1;have hSw:ao K H1 D ((aO (aI (aq m) l) (l0 (aI (aq m) l) I)).map (λ(n:Nat)=>(n:Int)) |>.map V.int):=by rw[<-m_];exact ao.of hys
 have hC1:=hC.same S1;refine#[_,Z,D,_,Z,hSw,?_];rw[BZ];have hp':(fe m l I n).b=sumTo (aI (aq m) l) (l0 (aI (aq m) l) I):=Z;rw[<-hp'];have hcl:∀i,i<m.columns.length->∃ca,(cs.map V.ref)[i]? =aa (.ref ca)/\H1 ca=aa (.lst (iV (lZ m l i))):=λi U=>by
  obtain⟨ca,h1,h2⟩:=Paired.at_ f5 (cT (lZ m l) U);exact#[ca,by rw[bL,h1];rfl,S1 _ _ h2]
 have hcsl:cs.length=m.columns.length:=by rw[bS f5,b5]
 let Fx:Nat->Nat->Nat->Nat->List (Nat×Nat):=λi x0 M Y=>if M<i\/(M=i/\Y<x0) then B1 (fe m l I n) F M Y else F M Y
 refine#[_,Z,x,_,dx,_,_,Z,S1 _ _ f1,T.gQ,T.PQ,aaJ,cl',_,Z,ao.of (S1 _ _ f4),sU (a:=cl') (xs:=cs.map V.ref) 7 8 (λT' x y v H Q hT hQ=>#[T',_,Z,.inl (.inl hT),Z,_,_,Z,_,_,Z,Z,hQ]) (λi v H'=>Fr m da H1 H'/\fZ H' m pl qa da (Fx i 0)/\∃(v5 v7 v8 v9 v10 v11:Option V),v=[aa (.ref pl),aa (.ref x),aa (.int (n:Nat)),aa (.int (gO (aO (aI (aq m) l) I):Nat)),aa (.ref D),v5,aa (.int ((fe m l I n).b:Nat)),v7,v8,v9,v10,v11]) #[Fr.of (ag.refl _),hC1.congr λi x t t=>by show F i x=if _ then _ else _;rw[aw (by simp)],ae,ae,ae,ae,ae,ae,Z] (λi v H' t ⟨f,_⟩=>ao.of (hC1.lst (S1 _ _ f4) f)) ?_ ?_]
 .rintro i y v H' hy ⟨f,hCi,v5,v7,v8,v9,v10,v11,rfl⟩ H2 S2;have U:i<m.columns.length:=by have:=(bx.mp hy).1;rw[aJ] at this;simp_all
  have hc:m.columns[i]? =aa m.columns[i]:=aY U;generalize m.columns[i]=c at hc;have hsz:=wc hc;have hsz5:dF m i<=512:=by have:=(ax i c hc).2.2.2.2;rw[d5] at this;rw[hsz];exact this
  obtain⟨ca,hca,hcal⟩:=hcl i U;obtain rfl:y=V.ref ca:=by rw[hca] at hy;exact(bf hy).symm
  have f2':=f.trans (Fr.of S2);have hC2:=hCi.same S2;dsimp only[aN];refine#[_,Z,_,Z,pl,_,_,_,Z,Z,ao.of hC2.1,bY (cT _ U),?_];dsimp only[aR,aN];refine#[_,Z,_,Z,_,Z,qa i,_,Z,.inl (ao.of (hC2.2.1 i U)),ca,D,dF m i,aI (aq m) l,λj=>cl m l j i,l0 (aI (aq m) l) I,by rw[b5];rfl,ao.of (hC1.lst hcal f2'),ao.of (hC1.lst hys f2'),by grind,λj hj=>by rw[hsz];exact(Br ax hrow hj hc).2,λH3 t3 S3 ht3 ht3'=>?_]
  have hC3:=hC2.same S3;have f3':=f2'.trans (Fr.of S3);refine#[t3,_,Z,ao.of ht3',sU (a:=t3) (xs:=iV (aO (dF m i) ((fe m l I n).a i))) 10 11 (λT' x y v H Q hT hQ=>#[T',_,Z,.inl (.inl hT),Z,_,_,Z,_,_,Z,Z,hQ]) (λx0 v H'=>Fr m da H3 H'/\fZ H' m pl qa da (Fx i x0)/\∃(v10 v11:Option V),v=[aa (.ref pl),aa (.ref x),aa (.int (n:Nat)),aa (.int (gO (aO (aI (aq m) l) I):Nat)),aa (.ref D),v5,aa (.int ((fe m l I n).b:Nat)),aa (.int (i:Nat)),aa (.ref ca),aa (.ref (qa i)),v10,v11]) #[Fr.of (ag.refl _),hC3,v10,v11,Z] (λx0 v H' t ⟨f,_⟩=>ao.of (hC3.lst ht3' f)) ?_ ?_]
  .rintro x0 y v H4 hy ⟨f4',hC4,v10,v11,rfl⟩ H5 S5;obtain⟨y,O,rfl⟩:=gS hy;have S:x0<dF m i:=by have:=(bx.mp O).1;rw[b5] at this;exact this
   rw[cT _ S] at O;obtain rfl:=bf O;have g:=hC4.same S5;dsimp only[aN];refine cX (!decide ((fe m l I n).a i x0=0)) (λR q'=>#[_,Z,Z,_,Z,?_]) ?_
   .rw[show decide (V.int (((fe m l I n).a i x0:Nat):Int)=V.int 0)=decide ((fe m l I n).a i x0=0) by rw[d9];exact#[λz=>by injection z with z;simp_all,λz=>by rw[z];rfl]]
    exact q'
   have hFx:Fx i x0 i x0=F i x0:=by show(if _ then _ else _)=_;rw[aw (by simp)]
   by_cases ha:(fe m l I n).a i x0=0
   .rw[bX ha];refine br #[f4'.trans (Fr.of S5),g.congr λM Y hi' hx'=>?_,_,_,Z];show(if _ then _ else _)=(if _ then _ else _)
    by_cases e:M=i/\Y=x0
    .obtain⟨rfl,rfl⟩:=e;rw[aw (by simp),aC (by simp)]
     delta B1;rw[aC ha]
    .by_cases e2:M<i\/(M=i/\Y<x0)
     .rw[aC e2,aC (by grind)]
     .rw[aw e2,aw (by lia)]
   .rw[bO ha];have J:=g.2.2 i x0 U S;rw[hFx] at J;obtain⟨k1,k2⟩:=hFn i x0;refine bu #[_,Z,_,Z,qa i,_,_,_,Z,Z,ao.of (g.2.1 i U),bY (cT _ S),da i x0,Z,.inl #[_,.inl J],_,Z,_,.inl #[_,iG (fe m l I n).b,.inl J,Z,Z],?_];rw[Ri Rm];refine#[_,Z,_,Z,_,_,Z,Z,lY (e:=6*CB+10) (f:=10) (bF (b2 i c hc x0 (by rw[<-hsz];exact S)).1 b1) (bF hn (by decide)) (by delta CB;simp),_,_,Z,Z,_,Z,_,Z,qa i,_,_,_,Z,Z,ao.of (g.2.1 i U),bY (cT _ S),_,Z,da i x0,_,Z,.inl #[_,iG (fe m l I n).b,J,Z,by rw[sX,bQ];lia,Z],?_]
    have eput:putK (dE iG (F i x0)) (iG (fe m l I n).b) (V.int ((jq (F i x0) (fe m l I n).b:Int)+ ((fe m l I n).a i x0:Int)* (n:Int)))=dE iG (ups (F i x0) (fe m l I n).b ((fe m l I n).a i x0*n)):=by
     rw[<-Rj Rm k1,yL,fH]
    refine#[(f4'.trans (Fr.of S5)).trans (Fr.put U S),?_,_,_,Z]
    try dsimp only
    rw[eput];refine(g.put hda U S).congr λM Y hi' hx'=>?_;show(if _ then _ else if _ then _ else _)=(if _ then _ else _)
    by_cases e:M=i/\Y=x0
    .obtain⟨rfl,rfl⟩:=e;rw[aC #[Z,Z],aC (by simp)]
     delta B1;rw[aw ha];rfl
    .rw[aw e];by_cases e2:M<i\/(M=i/\Y<x0)
     .rw[aC e2,aC (by grind)]
     .rw[aw e2,aw (by lia)]
  .rintro v H4 ⟨f4',hC4,v10,v11,rfl⟩;rw[cY,b5] at hC4;refine#[f3'.trans f4',hC4.congr λM Y hi' hx'=>?_,_,_,_,_,_,_,Z];show(if _ then _ else _)=(if _ then _ else _)
   by_cases e2:M<i\/(M=i/\Y<dF m i)
   .rw[aC e2,aC (by lia)]
   .rw[aw e2,aw λz=>e2 (by
     obtain z|z:=z
     .by_cases e3:M=i
      .subst e3;exact .inr #[Z,hx']
      .exact .inl (by lia)
     .simp_all)]
 .rintro v H' ⟨f,hCi,v5,v7,v8,v9,v10,v11,rfl⟩;rw[aJ,hcsl] at hCi;refine q H' (λb u e hb=>f b u (S1 _ _ e) hb) (hCi.congr λM Y hi' hx'=>?_);show(if _ then _ else _)=_
  rw[aC (.inl hi')]
end
end CC
namespace L2
theorem aaS{d}{od}{kvs}{σ} j k (Y:∀T x y σ H Q,H T=aa (.tup [x,y])->Q ((σ.set j (aa x)).set k (aa y)) H->g (.ref T) σ H Q) (Pv:Nat->St->Hp->Prop) (h0:Pv 0 σ H) (S:∀i σ H,i<=kvs.length->Pv i σ H->H d=aa (.cE od (.dK kvs))) (R:∀i x y σ H,kvs[i]? =aa (x,y)->Pv i σ H->∀H',ag H H'->tb {D with nx:=Pv (i+1),ct:=Pv (i+1),bk:=D.nx} ((σ.set j (aa (kV x))).set k (aa y)) H') (hd:∀σ H,Pv kvs.length σ H->D.nx σ H):
  ∃W:Nat->Nat->St->Hp->Prop,(∃m,W 0 m σ H)/\∀i m σ H,W i m σ H->
   ((Iti d od kvs).stop i H/\D.nx σ H)\/((Iti d od kvs).go i H/\∃N:St->Hp->Prop,(∀A H',N A H'->∃M,M<m/\W (i+1) M A H')/\∀x H',(Iti d od kvs).kA i H x H'->g x σ H' λE H2=>tb {D with nx:=N,ct:=N,bk:=D.nx} E H2):=by
 refine#[λi m σ H=>m=kvs.length-i/\i<=kvs.length/\Pv i σ H,#[kvs.length,by simp,c7 _,h0],?_]
 rintro i m σ H ⟨rfl,U,p⟩;have J:=S i σ H U p;by_cases I:i<kvs.length
 .refine .inr #[#[J,I],Pv (i+1),λA H' O=>#[kvs.length-(i+1),by grind,Z,by assumption,O],?_]
  rintro v H' z;rcases z with⟨T,x,y,hx,rfl,a,rfl⟩;exact Y T _ _ _ _ _ aA (R i x y σ H hx p _ (ag.new a))
 .obtain rfl:i=kvs.length:=by lia
  exact .inl #[#[J,bb _],hd σ H p]
theorem Ry{d}{od}{kvs}{σ} j k (V:∀T x y σ H Q,H T=aa (.tup [x,y])->Q ((σ.set j (aa x)).set k (aa y)) H->g (.ref T) σ H Q) (Pv:Nat->St->Hp->Prop) (h0:Pv 0 σ H) (U:∀i σ H,i<=kvs.length->Pv i σ H->H d=aa (.cE od (.dT kvs))) (R:∀i x y q σ H,kvs[i]? =aa (x,y)->H q=aa (.tup (x.map kV))->Pv i σ H->∀H',ag H H'->tb {D with nx:=Pv (i+1),ct:=Pv (i+1),bk:=D.nx} ((σ.set j (aa (.ref q))).set k (aa y)) H') (hd:∀σ H,Pv kvs.length σ H->D.nx σ H):
  ∃W:Nat->Nat->St->Hp->Prop,(∃m,W 0 m σ H)/\∀i m σ H,W i m σ H->
   ((xO d od kvs).stop i H/\D.nx σ H)\/((xO d od kvs).go i H/\∃N:St->Hp->Prop,(∀A H',N A H'->∃M,M<m/\W (i+1) M A H')/\∀x H',(xO d od kvs).kA i H x H'->g x σ H' λE H2=>tb {D with nx:=N,ct:=N,bk:=D.nx} E H2):=by
 refine#[λi m σ H=>m=kvs.length-i/\i<=kvs.length/\Pv i σ H,#[kvs.length,by simp,c7 _,h0],?_]
 rintro i m σ H ⟨rfl,Y,p⟩;have J:=U i σ H Y p;by_cases I:i<kvs.length
 .refine .inr #[#[J,I],Pv (i+1),λA H' O=>#[kvs.length-(i+1),by grind,Z,by assumption,O],?_]
  rintro v H' z;rcases z with⟨T,x,y,q,hx,S,rfl,hT,rfl⟩;exact V T _ _ _ _ _ aA (R i x y q σ H hx S p _ (ag.new hT))
 .obtain rfl:i=kvs.length:=by lia
  exact .inl #[#[J,bb _],hd σ H p]
end L2
namespace CC
theorem GV{x y:Nat}(A:0<y):bj (x/bj x y) (y/bj x y)=1:=by
 have:=(vJ (a:=x) A).2;rw[sV x y A] at this;exact this
theorem GW{M}(A:0<M)(E:M<=2^e){T}(J:∀x∈T,x.1∣M)(I:cD (λb=>M/b) T<=2^e):∃x y:Nat,cS T=#[x,y]/\bj x y=1/\0<y/\x<=2^e/\y<=2^e:=by
 rw[F7 A T J,sV _ _ A];have O:0<bj (cD (λb=>M/b) T) M:=kY _ A;refine#[_,_,Z,GV A,uL (mq A (kX _ _)) O,i8 I,i8 E]
section
variable {w:aS}{base:aU}
inductive Rz(vs:List V)(H:Hp)(Q:VK)(x_0:XK):Prop|m:∀(c:af)(T:List (Nat×Nat))(M e:Nat),vs=[.ref c]->H c=aa (.dK (dE iG T))->0<M->M<=2^e->(∀x∈T,x.1∣M)->cD (λb=>M/b) T<=2^e->e+e+2<=134217728->(∀H' x,ag H H'->uC H' x (cS T)->H x=ae->Q (.ref x) H')->Rz vs H Q x_0
theorem RA(T:TX K mg a d)(hP:P.given.tree=ae):aV P w K mg base bo 43 a.qh d.qh ["cell"] Rz:=by
 refine T.qh.ok bE λnD cdv A outer s H vs Q E hr h=>?_;obtain⟨c,I,M,e,rfl,hc,hM,hMe,hk,hs,he,q⟩:=h;refine#[_,(ay (aM 1 (vu (ah aX (ah aX ak))))
   (ay (Vh (du dM Z (Vp (pv 0)) (iP Z (dj (bJ 2) (dj (bJ 3) gJ))) (aF (aM 1 (a_ T.plus (aax T hP) (ah (pv 1) (ah (a_ T.lN (yk T hP) (ah (pv 3) (ah (pv 2) ak))) ak)))))))
   (aF (aZ (pv 1))))),?_]
 refine#[cb,λt0 f=>?_]
 dsimp only[aR,aN,L2.start];have S0:ag H (upd H t0 (.tup [.int 0,.int 1])):=ag.new f;refine#[c,_,S0 _ _ hc,trivial,λod=>?_];refine#[_,Z,c,od,_,Z,aA,aaS (d:=c) (od:=od) (kvs:=dE iG I) 2 3 (λI x y j H Q hT hQ=>#[I,_,Z,.inl (.inl hT),Z,_,_,Z,_,_,Z,Z,hQ]) (λi j H'=>ag (Wo H c) H'/\H' c=aa (.cE od (.dK (dE iG I)))/\∃(t:af)(v2 v3:Option V),j=[aa (.ref c),aa (.ref t),v2,v3]/\H t=ae/\uC H' t (cS (I.take i))) #[λb u e=>?_,aA,t0,ae,ae,Z,f,?_] (λi j H' z ⟨_,h,_⟩=>h) ?_ ?_]
 .obtain⟨e1,e2⟩:=bh e;rw[aB e1];exact S0 _ _ e2
 .show upd _ c _ t0=_;rw[aB (bG (bc hc f)),aA];rfl
 .rintro i x y j H' hi ⟨S,O,t,v2,v3,rfl,ht,R⟩ H2 S2;have hil:=by have:=(bx.mp hi).1;rw[sX] at this;exact this
  have U:=aY hil;have Y:=ff hil;generalize I[i]=ee at U Y;obtain⟨b,n⟩:=ee;have hxy:(dE iG I)[i]? =aa (iG b,V.int (n:Nat)):=by delta dE;rw[bL,U];rfl
  rw[hxy] at hi;obtain⟨rfl,rfl⟩:=qT (bf hi);have hbM:=hk _ Y;have hb:0<b:=Ii hbM hM;have hb2:=bF (mq hM hbM) hMe;have htk:cD (λb=>M/b) (I.take i)<=2^e:=bF (F6 _ _ _) hs;have hn2:n<=2^e:=by
   have h1:=F6 (λb=>M/b) I (i+1);rw[take_snoc U,uj] at h1;have h2:1<=M/b:=uL (mq hM hbM) hb;have h3:=ja n h2;dsimp only at h1;lia
  rcases GW hM hMe (T:=I.take i) (λx hx=>hk x (qH hx)) htk with⟨x0,y0,e1,e2,e3,e4,e5⟩;have htup:=by have:=S2 _ _ R;rw[e1] at this;exact this
  have hg:0<bj n b:=kY _ hb;dsimp only[aN];refine#[_,Z,_,Z,_,Z,n,b,Z,hb,λp hp=>#[t,p,x0,y0,n/bj n b,b/bj n b,e,e,Z,.inl (.inl (ag.new hp _ _ htup)),.inl (.inl aA),e3,uL (mq hb (kX _ _)) hg,e4,e5,i8 hn2,i8 hb2,he,λr J s v t' g a1 a2 a3 a4=>?_]];have Sn:ag H' (upd (upd H2 p (.tup [.int ((n/bj n b:Nat):Int),.int ((b/bj n b:Nat):Int)])) r (.tup [.int ((t'/g:Nat):Int),.int ((v* ((b/bj n b)/g):Nat):Int)])):=(S2.trans (ag.new hp)).trans (ag.new J);refine#[S.trans Sn,Sn _ _ O,r,_,_,Z,?_,?_]
  .cases hH:H r with
   |none=>rfl
   |some u=>
    by_cases hrc:r=c
    .subst hrc;rw[ag.new hp _ _ (S2 _ _ O)] at J;cases J
    .rw[ag.new hp _ _ (S2 _ _ (S _ _ (aQ hrc hH)))] at J;cases J
  .rw[take_snoc U,O9,e1]
   try dsimp only
   rw[sV n b hb,Yt e2 (GV hb) e3 (uL (mq hb (kX _ _)) hg) s v t' g a1 a2 a3 a4];exact aA
 .rintro j H' k;rcases k with⟨S,O,t,v2,v3,rfl,ht,R⟩;rw[sX,eV] at R;have htc:=bG (bc hc ht);refine#[O,_,Z,q _ t (λb u e=>?_) ?_ ht]
  .by_cases hbc:b=c
   .subst hbc;rw[aA,<-e,hc]
   .rw[aB hbc];exact S _ _ (aQ hbc e)
  .show upd _ c _ t=_;rw[aB htc];exact R
end
theorem GX(ax:cO cs)(I:cs[i]? =aa c):0<bw cs c.parents:=by
 have A:∀p∈c.parents,0<dA cs p:=λp M=>by
  have O:=(bx.mp I).1;have bC:=gy ((ax i c I).2.2.1 p M) O;have E:=aY bC;rw[vY E];exact(size_pos (ax p _ E).1).1
 generalize c.parents=ps at A;refine snoc_ind (p:=λps=>(∀p∈ps,0<dA cs p)->0<bw cs ps) (λy=>by show 0<1;simp) (λps p J h=>?_) ps A
 rw[N8];exact gA (J λx hx=>h x (kg _ hx)) (h p (gZ _ (cj.mpr Z)))
theorem aaT(ds:List af):ds.map V.ref=aO ds.length λx=>V.ref ((ds[x]?).getD 0):=by
 refine l9 λi=>?_;by_cases h:i<ds.length
 .rw[cT _ h,bL,aY h];rfl
 .rw[fz (by rw[aJ];simp_all),fz (by rw[b5];simp_all)]
theorem aaU{ds:List af}(h:ds.Nodup)(E:i<ds.length)(A:j<ds.length)(e:(ds[i]?).getD 0=(ds[j]?).getD 0):i=j:=by
 rw[aY E,aY A] at e;have e:=e;obtain z|z|z:=Nat.lt_trichotomy i j
 .exact absurd e (CH.mp h i j E A z)
 .exact z
 .exact absurd e.symm (CH.mp h j i A E z)
structure wd(H H':Hp)(m:dz)(pl:af)(qa:Nat->af)(da:Nat->Nat->af)(i:Nat):Prop where
 bC:H' pl=aa (.lst (aO i λi=>V.ref (qa i)))
 hqa:∀j,j<i->qa j≠pl/\H' (qa j)=aa (.lst (aO (dF m j) λx=>V.ref (da j x)))
 hda:∀j x,j<i->x<dF m j->H (da j x)=ae/\H' (da j x)=aa (.dK [])
 inj:∀j x j' x',j<i->x<dF m j->j'<i->x'<dF m j'->da j x=da j' x'->j=j'/\x=x'
theorem wd.step{D}{ds:List af}(h:wd H H' m pl qa da i)(S:ag H' H2)(hSH:ag H H')(hD:H' D=ae)(hD2:H2 D=aa (.lst (ds.map V.ref)))(hn:ds.Nodup)(hl:ds.length=dF m i)(Z:∀x∈ds,H' x=ae/\H2 x=aa (.dK [])):
  wd H (upd H2 pl (.lst ((aO i λi=>V.ref (qa i))++[.ref D]))) m pl (λj=>if j=i then D else qa j) (λj x=>if j=i then(ds[x]?).getD 0 else da j x) (i+1):=by
 have O:=bG (bc h.bC hD);have E:∀x,x<dF m i->(ds[x]?).getD 0∈ds:=λx hx=>by
  have A:x<ds.length:=by simp_all
  rw[aY A];exact ff A
 have M:∀b,H2 b=aa (.dK [])->b≠pl:=λb e z=>by subst z;rw[S _ _ h.bC] at e;cases e
 refine#[?_,λj Y=>?_,λj x Y hx=>?_,λj x T U Y hx hj' A e=>?_]
 .rw[aA,iY,aC rfl]
  congr 3
  exact jY λj Y=>by rw[aw (by lia)]
 .by_cases e:j=i
  .subst e;rw[aC rfl,aB O,hD2,aaT,hl];refine#[O,?_]
   congr 2
   exact jY λx hx=>by rw[aC rfl]
  .obtain⟨I,k2⟩:=h.hqa j (by lia)
   rw[aw e,aB I];refine#[I,?_];rw[S _ _ k2]
   congr 2
   exact jY λx hx=>by rw[aw e]
 .by_cases e:j=i
  .subst e;rw[aC rfl];obtain⟨I,k2⟩:=Z _ (E x hx);exact#[hSH.free I,by rw[aB (M _ k2)];exact k2]
  .rw[aw e];obtain⟨I,k2⟩:=h.hda j x (by lia) hx
   have:=S _ _ k2;exact#[I,by rw[aB (M _ this)];exact this]
 .by_cases R:j=i
  .by_cases J:T=i
   .subst R;subst J;rw[aC rfl,aC rfl] at e;exact#[rfl,aaU hn (by simp_all) (by simp_all) e]
   .rw[aC R,aw J] at e;subst R;have k:=(h.hda T U (by lia) A).2
    rw[<-e,(Z _ (E x hx)).1] at k;cases k
  .by_cases J:T=i
   .rw[aw R,aC J] at e;subst J;have k:=(h.hda j x (by lia) hx).2
    rw[e,(Z _ (E U A)).1] at k;cases k
   .rw[aw R,aw J] at e;exact h.inj j x T U (by lia) hx (by lia) A e
theorem wd.done(h:wd H H' m pl qa da m.columns.length):fZ H' m pl qa da (cQ [])/\B0 m da:=#[#[h.bC,λi A=>(h.hqa i A).2,λi x A hx=>(h.hda i x A hx).2],h.inj]
theorem aaV{e}(A:e∈cv ls):e.2<=ls.length:=by
 rw[<-F5 ls];generalize cv ls=T at A
 induction T with
 |nil=>exact(dB A).elim
 |cons y T E=>
  show e.2<=cD (λx=>1) (y::T);have I:cD (λx=>1) (y::T)=y.2+cD (λx=>1) T:=by delta cD;rw[b7,kW,jG]
  obtain rfl|A:=bM.mp A
  .simp_all
  .have:=E A;lia
section
variable {w:aS}{base:aU}
inductive RB(a:Ad)(K:aP)(vs:List V)(H:Hp)(Q:VK)(E:XK):Prop|m:∀(cl bl rl:af)(os ts ras:List af)(m:dz)(ch:List cx)(ls:List (List Int))(Hi:Hp),vs=[.ref cl,.ref bl,.ref rl]->ao K H cl (os.map V.ref)->ft a H os m.columns->cO m.columns->m.columns.length<=6->ao K H bl (ts.map V.ref)->ag Hi H->eA H Hi ts ch->gN m.columns ch->ao K H rl (ras.map V.ref)->qB K H ras ls->ls.length<=1000->(∀l∈ls,cG (aq m) l/\aI (aq m) l<=1024)->(∀l∈ls,∀W B,fN m ch l W B->sumTo (aI (aq m) l) W=0->∀H',ag H H'->E (.ref a.um) ae H')->(∀H' pl qa da ps,ag H H'->H pl=ae->fZ H' m pl qa da (cQ ps)->B0 m da->iZ m ch (cv ls) ps->(∀l∈ls,∃W B,fN m ch l W B/\0<sumTo (aI (aq m) l) W)->Q (.ref pl) H')->RB a K vs H Q E
theorem RC(T:TX K mg a d)(hP:P.given.tree=ae):aV P w K mg base (e9 P w a.um) 45 a.oa d.oa ["columns","chances","rows"] (RB a K):=by
 refine T.oa.gL bE λnD cdv A outer s H vs Q E hr W h=>?_;rcases h with⟨cla,bl,rl,os,ts,ras,m,ch,ls,Hi,rfl,hcl,hcs,ax,h6,hbl,Si,htb,hch,hrl,hrs,hlen,hro,qE,q⟩;refine#[_,(ay (aM 3 (bU ak))
   (ay (du kq Z (d_ (pv 1)) (bJ 4) (aF (dU (eP eO je jf jl (pv 3) (ah (pM Z nD (vr Z T.vR (ah (bg gi (cz (c8) Z T.de c_ (ah (pv 4) ak)) (cz (c8) Z T.de c_ (ah (bt b8 (pv 4) aX) ak))) ak)) (own:=[("cell",5)]) T.oa.s.c9 (λz z z z z=>(bJ 5)) (λz z z z z=>gh) (λz z z z z=>Vb)) ak)))))
   (ay (du kq Z (NH (a_ T.p_ (Rr T) (ah (pv 2) ak))) (iP Z (dj (bJ 6) (dj (bJ 7) gJ))) (aF (dU (ek T.qg (aaR T hP) (ej W) (ah (pv 3) (ah (a_ T.lO (Rf T hP) (ah (pv 0) (ah (pv 1) (ah (pv 6) ak)))) (ah (pv 7) ak)))))))
   (aF (aZ (pv 3)))))),?_]
 have n1:=bS htb;have n2:=hch.1;refine#[c7 _,λpl bC=>?_];dsimp only[aR,aN,L2.start];have S0:ag H (upd H pl (.lst [])):=ag.new bC;have Swo:∀{H':Hp},ag H (Wo H' pl)->ag H H':=λS=>S.trans cU;refine#[_,Z,bl,Z,#[_,S0.seq hbl],gf (a:=bl) (xs:=ts.map V.ref) (λi k H'=>ag H (Wo H' pl)/\∃(qa:Nat->af)(da:Nat->Nat->af)(v4 v5 v6 v7:Option V),k=[aa (.ref cla),aa (.ref bl),aa (.ref rl),aa (.ref pl),v4,v5,v6,v7]/\wd H H' m pl qa da i) #[λb u e=>aQ (bc e bC) (S0 _ _ e),λz=>0,λz z=>0,ae,ae,ae,ae,Z,#[aA,λj hj=>absurd hj (ny _),λj x hj=>absurd hj (ny _),λj x j' x' hj=>absurd hj (ny _)]] (λi k H' z ⟨S,_⟩=>(Swo S).seq hbl) ?_ ?_]
 .rintro i y k H1 hy v;rcases v with⟨S1,qa,da,v4,v5,v6,v7,rfl,M⟩;have J:i<m.columns.length:=by have:=(bx.mp hy).1;rw[aJ] at this;simp_all
  have hic:i<ch.length:=by simp_all
  have hc:=aY J;have ht:=aY hic;generalize m.columns[i]=c at hc;generalize ch[i]=tb at ht;rcases htb.get ht with⟨t,gs,htt,htl,hgs⟩;obtain rfl:y=V.ref t:=by rw[bL,htt] at hy;exact(bf hy).symm
  obtain⟨d1,d2⟩:=hch.2 i c tb hc ht;have hgp:=GX ax hc;have hg0:0<tb.length:=by simp_all
  have hb0:=aY hg0;have hbl0:=(d2 _ (ff hg0)).1;generalize tb[0]=f0 at hb0 hbl0;rcases Paired.at_ hgs hb0 with⟨ga,hga,xs,hgl,hfr⟩;have hxl:xs.length=aD c.kind:=by rw[bS hfr,hbl0]
  have hgsl:gs.length=bw m.columns c.parents:=by rw[bS hgs,d1]
  have hsz:=wc hc;have hsz5:dF m i<=512:=by have:=(ax i c hc).2.2.2.2;rw[d5] at this;rw[hsz];exact this
  have I:=Swo S1;dsimp only[aN];refine#[_,Z,.inl #[Z,_,ao.of M.bC],?_];refine i7 #[_,Z,t,_,Z,.inl (ao.of (I _ _ htl)),_,Z,t,_,_,_,Z,Z,ao.of (I _ _ htl),bY (j:=0) (by rw[bL,hga];rfl),ga,_,Z,.inl (ao.of ((Si.trans I) _ _ hgl)),_,_,Z,Z,?_,((dF m i:Nat):Int),?_,by simp,by grind,?_]
  .rw[aJ,aJ];refine lY (e:=20) (f:=20) ?_ ?_ (by simp)
   .rw[hgsl];have:=bF (y6 _ (size_pos (ax i c hc).1).1) (ax i c hc).2.2.2.2;lia
   .rw[hxl];have:=bF (wz (aD c.kind) hgp) (ax i c hc).2.2.2.2;lia
  .rw[aJ,aJ,hgsl,hxl,hsz,fH]
  rw[cI];refine yq (λj ys H'=>∃ds:List af,ys=ds.map V.ref/\ds.Nodup/\∀x∈ds,H1 x=ae/\H' x=aa (.dK [])) (by rw[bQ];grind) (λz z z z S ⟨ds,e1,e2,e3⟩=>#[ds,e1,e2,λx hx=>#[(e3 x hx).1,S _ _ (e3 x hx).2]]) #[[],Z,mi,λz h=>(dB h).elim] ?_ ?_ ?_
  .exact λz=>Z
  .rintro D2 j H2 ys hj hD2 hys S2 hl2 ⟨ds,rfl,hnd,hds⟩ R hR p hp;have hpD:=bG (bc hys hp);refine hR _ _ (ag.new hp) #[ds++[p],by rw[bR];rfl,?_,λx hx=>?_]
   .rw[oV];refine#[hnd,by simp,λx hx y hy=>?_]
    rw[cj] at hy;subst hy;rintro rfl;rw[(bh (hds x hx).2).2] at hp;cases hp
   .obtain hx|hx:=df.mp hx
    .obtain⟨e1,e2⟩:=hds x hx;obtain⟨e3,e4⟩:=bh e2;exact#[e1,aQ e3 (ag.new hp _ _ e4)]
    .rw[cj] at hx;subst hx;exact#[(S2.trans cU).free hp,aQ hpD aA]
  .rintro D2 H2 ys hD2 S2 S2' hys hl2 v;rcases v with⟨ds,rfl,hnd,hds⟩;rw[aJ] at hl2;refine#[pl,_,_,Z,Z,S2 _ _ M.bC,by rw[b5,bQ];lia,λb u e=>?_,_,_,_,_,_,_,Z,M.step S2 I hD2 hys hnd hl2 λx hx=>#[(hds x hx).1,(bh (hds x hx).2).2]]
   obtain⟨e1,e2⟩:=bh (S1 _ _ e);exact aQ e1 (by rw[aB e1];exact S2 _ _ e2)
 rintro k H1 v;rcases v with⟨S1,qa,da,v4,v5,v6,v7,rfl,M⟩;rw[aJ,n1,n2] at M;obtain⟨hC1,hinj⟩:=M.done;have I:=Swo S1;have hfree:=λi x J hx=>(M.hda i x J hx).1;have hsf:∀{H2 H3:Hp},ag H H2->Fr m da H2 H3->ag H H3:=λS f b u e=>f b u (S _ _ e) λi x J hx=>bc e (hfree i x J hx);refine#[_,Z,rl,ras,ls,Z,I.seq hrl,hrs.same I,hlen,λH2 t2 S2 ht2 ht2'=>#[t2,_,Z,ht2',λod=>?_]];have hC2:=hC1.same S2;have S02:=I.trans S2;have ht0:=I.free ht2;have hnd2:=λi x J hx=>bc (hC1.2.2 i x J hx) ht2;have hC3:fZ (upd H2 t2 (.cE od (.dT (dE fu (cv ls))))) m pl qa da (cQ []):=#[by rw[aB (bc hC1.1 ht2)];exact hC2.1,λi J=>by rw[aB (bc (hC1.2.1 i J) ht2)];exact hC2.2.1 i J,λi x J hx=>by rw[aB (hnd2 i x J hx)];exact hC2.2.2 i x J hx]
 refine Ry (d:=t2) (od:=od) (kvs:=dE fu (cv ls)) 6 7 (λT' x y k H Q hT hQ=>#[T',_,Z,.inl (.inl hT),Z,_,_,Z,_,_,Z,Z,hQ]) (λi k H'=>ag H H'/\H' t2=aa (.cE od (.dT (dE fu (cv ls))))/\(∃(v4 v5 v6 v7:Option V),k=[aa (.ref cla),aa (.ref bl),aa (.ref rl),aa (.ref pl),v4,v5,v6,v7])/\∃ps,fZ H' m pl qa da (cQ ps)/\iZ m ch ((cv ls).take i) ps/\∀e∈(cv ls).take i,∃W B,fN m ch e.1 W B/\0<sumTo (aI (aq m) e.1) W) #[λb u e=>by rw[aB (bc e ht0)];exact S02 _ _ e,aA,#[_,_,_,_,Z],[],hC3,.nil,λe he=>(dB he).elim] (λi k H' z ⟨_,h,_⟩=>h) ?_ ?_
 .rintro i x y q' k H3 J hq' ⟨S3,hfz,⟨v4,v5,v6,v7,rfl⟩,ps,hCi,Y,O⟩ H4 S4;have hil:=by have:=(bx.mp J).1;rw[sX] at this;exact this
  have hei:=aY hil;have g:=ff hil;generalize(cv ls)[i]=ee at hei g;obtain⟨l,n⟩:=ee;have hxy:(dE fu (cv ls))[i]? =aa (fu l,V.int (n:Nat)):=by delta dE;rw[bL,hei];rfl
  rw[hxy] at J;obtain⟨rfl,rfl⟩:=qT (bf J);rw[BY] at hq';have hlm:=O8 _ g;have hnle:=bF (aaV g) hlen;obtain⟨r1,r2⟩:=hro l hlm;have U:=S3.trans S4;dsimp only[aN];refine#[_,Z,_,Z,_,Z,_,Z,cla,bl,q',os,ts,m,ch,l,Hi,Z,U.seq hcl,hcs.same U,ax,h6,U.seq hbl,Si.trans U,htb.same U (ag.refl _),hch,.inr (.inl (.inl (S4 _ _ hq'))),r1,r2,λH5 x W B S5 hx hF hW=>#[_,Z,pl,x,n,m,ch,l,W,B,qa,da,cQ ps,Z,hF,ax,h6,r1,r2,hW,hnle,(hCi.same S4).same S5,hinj,λi' x'=>#[aaO _ _ _,?_],λhz=>qE l hlm W B hW hz H5 (U.trans S5),λhp H6 f6 hC6=>?_]]
  .have k1:=YD ps i' x';have k2:=(By Y).2.1;have k3:=F4 ls;rw[gw] at k2;lia
  have f36:=((Fr.of S4).trans (Fr.of S5)).trans f6;refine#[hsf S3 f36,f36 t2 _ hfz λi' x' hi' hx'=>bG (hnd2 i' x' hi' hx'),#[_,_,_,_,Z],ps++[fe m l W n],hC6.congr λi' x' z z=>?_,?_,λe he=>?_]
  .rw[x_];rfl
  .rw[take_snoc hei];obtain⟨b0,b1,b2⟩:=Rw ax h6 r1 r2 hW hp n;exact .snoc Y Z b0 b1 b2
  .rw[take_snoc hei] at he;obtain he|he:=df.mp he
   .exact O e he
   .rw[cj] at he;subst he;exact#[W,B,hW,hp]
 .rintro k H3 v;rcases v with⟨S3,hfz,⟨v4,v5,v6,v7,rfl⟩,ps,hCi,Y,O⟩;rw[sX,eV] at Y O;refine#[_,Z,q H3 pl qa da ps S3 bC hCi hinj Y λl hl=>?_];obtain⟨e,he,e1⟩:=bK.mp (F3 l hl);rw[<-e1];exact O e he
end
def gT(f:cK):Prop:=f.num<=10^40/\(f.den:Int)<=10^40
instance (f:cK):Decidable (gT f):=inferInstanceAs (Decidable (_/\_))
theorem aaW:(10000000000000000000000000000000000000000:Int)=10^40:=by decide
theorem aaX f:decide ((10000000000000000000000000000000000000000)<if (f.den:Int)>f.num then(f.den:Int) else f.num)=!decide (gT f):=by
 rw[aaW,gu,fD,Ca,xi];delta gT;split<;>omega
theorem GY{A E} n f (g:A->E):(aO n f).map g=aO n λi=>g (f i):=by delta aO;rw[eU];rfl
noncomputable def gW(s:Nat)(fs:Nat->cK):List Int:=aO s λv=>((fM (fs v) (eR (aO s λv=>(fs v).den)):Nat):Int)
section
variable {w:aS}{base:aU}
inductive RD(a:Ad)(K:aP)(vs:List V)(H:Hp)(Q:VK)(E:XK):Prop|m:∀(cl g:af)(s:Nat)(dd:Nat->af)(Tf:Nat->List (Nat×Nat))(M e:Nat)(old:List cK)(H0:Hp),vs=[.ref cl,.ref g]->(ao K H cl (aO s λv=>V.ref (dd v)))->(∀v,v<s->H (dd v)=aa (.dK (dE iG (Tf v))))->s<=512->0<M->M<=2^e->(∀v,v<s->(∀x∈Tf v,x.1∣M)/\cD (λb=>M/b) (Tf v)<=2^e)->e+e+2<=134217728->ag H0 H->uD H0 g old->old.length<=1000->((∃f∈e_ (gW s λv=>cS (Tf v)) old,¬gT f)->∀H',ag H H'->E (.ref a.qu) ae H')->((∀f∈e_ (gW s λv=>cS (Tf v)) old,gT f)->∀H' g' xs,ag H H'->H g'=ae->H' g'=aa (.lst (xs.map V.ref))->jA (Wo (Ext H0 H H') g') xs (e_ (gW s λv=>cS (Tf v)) old)->Q (.ref g') H')->RD a K vs H Q E
theorem aaY(T:TX K mg a d)(hP:P.given.tree=ae):aV P w K mg base (e9 P w a.qu) 44 a.qj d.qj ["cells","before"] (RD a K):=by
 refine T.qj.gL bE λnD cdv A outer s H vs Q E hr W h=>?_;obtain⟨cla,g,n,dd,U,M,e,old,H0,rfl,hcl,hdd,hn,hM,hMe,hT,he,S0,hg,hol,qE,q⟩:=h;refine#[_,(ay (pN (i:=2) Z nD Z Z Z (d_ (pv 0)) (own:=[("cell",3)]) T.qj.s.c9 (λz z z z z=>(bJ 3)) (λz z z z z=>gh) (λz z z z z=>(a_ T.qh (RA T hP) (ah (pv 3) ak))))
   (ay (aM 4 (a_ T.mV (GN T hP) (ah (a_ T.n9 (QY T hP) (ah (pv 2) (ah (a_ T.p8 (QW T hP) (ah (pv 2) ak)) ak))) (ah (pv 1) ak))))
   (ay (du kq Z (d_ (pv 4)) (bJ 5) (aF (cy (b9 nP (cz (W_ Z) Z T.Gg Fe (ah (pv 5) ak)) (bZ Z T.Y0) (cu _)) (aF (Nj T.PR Z W Z T.PD)) cC)))
   (aF (aZ (pv 4)))))),?_]
 have nums:=λv (J:v<n)=>GW hM hMe (hT v J).1 (hT v J).2;have hdM:∀v,v<n->(cS (U v)).den∣M:=λv J=>by rw[F7 hM _ (hT v J).1];exact FJ hM
 dsimp only[cN,jk];refine i7 #[_,Z,cla,Z,#[_,hcl],?_];refine qz (xs:=aO n λv=>V.ref (dd v)) (λi ys H'=>∃xs:List af,ys=xs.map V.ref/\jA H' xs (aO i λv=>cS (U v))) hcl (by rw[b5,bQ];lia) (λz z z z S ⟨xs,c,Y⟩=>#[xs,c,Paired.eJ Y λz z q=>S _ _ q]) #[[],Z,.nil] ?_ ?_ ?_
 .exact λz=>Z
 .rintro D i y H1 ys hy hD hys S1 hl ⟨xs,rfl,I⟩ R hR;have hi:=by have:=(bx.mp hy).1;rw[b5] at this;exact this
  rw[cT _ hi] at hy;obtain rfl:=bf hy;have SH:=S1.trans cU;refine#[_,Z,dd i,U i,M,e,Z,SH _ _ (hdd i hi),hM,hMe,(hT i hi).1,(hT i hi).2,he,λH2 x S2 hx hxn=>hR _ _ S2 #[xs++[x],by rw[bR];rfl,?_]]
  rw[iY];have hxD:=bG (bc hys hxn);refine eX (Paired.eJ I λb f q=>?_) (aQ hxD hx);obtain⟨c,Y⟩:=bh q;exact aQ c (S2 _ _ Y)
 rintro D H1 ys hD S1 S1' hys hl ⟨xs,rfl,I⟩;rw[b5] at I;have I:=Paired.eJ I λz z q=>(bh q).2;dsimp only[aR,aN,L2.start];have hdp:∀x∈aO n (λv=>(cS (U v)).den),0<x:=λx hx=>by
  obtain⟨v,J,rfl⟩:=bK.mp hx;obtain⟨x0,y0,c,Y,e3,_⟩:=nums v (gx.mp J);rw[c];exact e3
 have hLM:=bF (mq hM (OV hdp λx hx=>by
  obtain⟨v,J,rfl⟩:=bK.mp hx;exact hdM v (gx.mp J))) hMe
 refine#[_,Z,_,Z,D,xs,_,M,e,Z,ao.of hys,I,λf hf=>?_,hM,hMe,he,D,xs,_,eR (aO n λv=>(cS (U v)).den),e,e,?_,ao.of hys,I,λf hf=>?_,hLM,he,by rw[b5];lia,λH2 D2 S2 hD2 hD2'=>?_]
 .obtain⟨v,J,rfl⟩:=bK.mp hf;have J:=gx.mp J;obtain⟨x0,y0,c,Y,e3,_⟩:=nums v J;exact#[by rw[c];exact e3,hdM v J]
 .rw[GY];rfl
 .obtain⟨v,J,rfl⟩:=bK.mp hf;obtain⟨x0,y0,c,Y,e3,e4,e5⟩:=nums v (gx.mp J);rw[c];exact#[e3,by show(0:Int)<=(x0:Nat);simp,by rw[cI];exact e4]
 have ew:iV ((aO n λv=>cS (U v)).map λg=>fM g (eR (aO n λv=>(cS (U v)).den)))=nV (gW n λv=>cS (U v)):=by
  rw[GY,aaF];delta gW nV;rw[GY]
 rw[ew] at hD2';have S02:=S1.trans S2;refine#[_,Z,D2,g,_,old,H0,Z,ao.of hD2',S0.trans S02,hg,λx hx=>?_,by delta gW;rw[b5];lia,hol,λH3 g' xs' S3 hg' hg3 hfr=>?_]
 .obtain⟨v,_,rfl⟩:=bK.mp hx;simp
 have hfr:jA (Wo (Ext H0 H2 H3) g') xs' (e_ (gW n λv=>cS (U v)) old):=hfr;have S03:=S02.trans S3;have hin3:jA H3 xs' (e_ (gW n λv=>cS (U v)) old):=Paired.eJ hfr λb f q=>by
  obtain⟨_,Y⟩|⟨_,Y⟩:=iF (bh q).2
  .exact Y
  .exact(S0.trans S03) _ _ Y
 dsimp only[aR,aN,L2.start];generalize hB:e_ (gW n λv=>cS (U v)) old=B at *;have hBl:=bS hin3;refine#[_,Z,g',Z,#[_,ao.of hg3],gf (a:=g') (xs:=xs'.map V.ref) (λi t H'=>H'=H3/\(∀f∈B.take i,gT f)/\∃v3 v5,t=[aa (.ref cla),aa (.ref g),aa (.ref D),v3,aa (.ref g'),v5]) #[Z,λf hf=>(dB hf).elim,_,_,Z] (λi t H' z ⟨e,_⟩=>by rw[e];exact ao.of hg3) ?_ ?_]
 .rintro i y t H' hy ⟨rfl,hsm,v3,v5,rfl⟩;have hi:i<B.length:=by have:=(bx.mp hy).1;rw[aJ] at this;simp_all
  have hf:=aY hi;have hfm:=ff hi;generalize B[i]=f at hf hfm;obtain⟨x,hx,hfx⟩:=Paired.at_ hin3 hf;obtain rfl:y=V.ref x:=by rw[bL,hx] at hy;exact(bf hy).symm
  dsimp only[aN];refine cX (!decide (gT f)) (λR q'=>#[_,Z,x,f.num,(f.den:Nat),Z,.inl (.inl hfx),_,_,Z,Z,?_]) ?_
  .try dsimp only
   rw[aaX];exact#[_,Z,q']
  by_cases hsf:gT f
  .rw[bX hsf];refine br #[Z,λf' O=>?_,_,_,Z];rw[take_snoc hf] at O;obtain O|O:=df.mp O
   .exact hsm f' O
   .rw[cj] at O;subst O;exact hsf
  .rw[bO hsf];exact bu (qE #[f,hfm,hsf] _ S03)
 .rintro t H' ⟨rfl,hsm,v3,v5,rfl⟩;rw[aJ,hBl,eV] at hsm;refine#[_,Z,q hsm H' g' xs' S03 (S02.free hg') hg3 (Paired.eJ hfr λb f q=>?_)];obtain⟨c,Y⟩:=bh q;refine aQ c ?_;obtain⟨e3,e4⟩|⟨e3,e4⟩:=iF Y
  .exact j_ (S02.free e3) e4
  .exact kQ S0 e4
end
theorem aaZ f (h:i+k<=n):jT (aO n f) (aa i) (aa ((i+k:Nat)))=aO k λv=>f (i+v):=by
 have e:jT (aO n f) (aa i) (aa ((i+k:Nat)))=((aO n f).drop i).take k:=by
  delta jT;rw[HT.rQ,HT.rQ,b5,qP (show i<=n by lia),qP h,show i+k-i=k by simp]
 rw[e];refine l9 λx=>?_;rw[List.getElem?_take];by_cases hx:x<k
 .rw[aC hx,Cs,cT _ (by lia),cT _ hx]
 .rw[aw hx,fz (by rw[b5];simp_all)]
noncomputable def ka(s:Nat)(fs:Nat->cK)(old:cx):cx:=old.mapIdx λg o=>e_ (gW s λv=>fs (g*s+v)) o
theorem yx{fs}{old}{g}{o}(h:old[g]? =aa o):(ka s fs old)[g]? =aa (e_ (gW s λv=>fs (g*s+v)) o):=by
 delta ka;rw[wu,h];rfl
theorem B2 s fs old:(ka s fs old).length=old.length:=by delta ka;rw[yX]
section
variable {w:aS}{base:aU}
inductive GZ(a:Ad)(K:aP)(vs:List V)(H:Hp)(Q:VK)(E:XK):Prop|m:∀(cl bl:af)(s:Nat)(dd:Nat->af)(Tf:Nat->List (Nat×Nat))(M e:Nat)(gs:List af)(old:cx)(H0:Hp),vs=[.ref cl,.ref bl]->(ao K H cl (aO (old.length*s) λx=>V.ref (dd x)))->(∀x,x<old.length*s->H (dd x)=aa (.dK (dE iG (Tf x))))->old.length*s<=512->0<s->0<M->M<=2^e->(∀x,x<old.length*s->(∀y∈Tf x,y.1∣M)/\cD (λb=>M/b) (Tf x)<=2^e)->e+e+2<=134217728->H bl=aa (.lst (gs.map V.ref))->ag H0 H->jB H0 gs old->(∀o∈old,o.length=s)->((∃g∈ka s (λx=>cS (Tf x)) old,∃f∈g,¬gT f)->∀H',ag H H'->E (.ref a.qu) ae H')->((∀g∈ka s (λx=>cS (Tf x)) old,∀f∈g,gT f)->∀H' t gs',ag H H'->H t=ae->H' t=aa (.lst (gs'.map V.ref))->jB (Ext H0 H (Wo H' t)) gs' (ka s (λx=>cS (Tf x)) old)->Q (.ref t) H')->GZ a K vs H Q E
theorem aa0(T:TX K mg a d)(hP:P.given.tree=ae):aV P w K mg base (e9 P w a.qu) 45 a.sG d.sG ["cells","before"] (GZ a K):=by
 refine T.sG.gL bE λnD cdv A outer s H vs Q E hr W h=>?_;rcases h with⟨cla,bl,n,dd,Tf,M,e,gs,old,H0,rfl,hcl,hdd,h5,hn,hM,hMe,hT,he,hbl,S0,hold,hos,qE,q⟩;refine#[_,(ay (aM 2 (bU ak))
   (ay (du kq Z (rV Z T.sM (ah (pv 1) ak)) (iP Z (dj (bJ 3) (dj (bJ 4) gJ))) (ay (aM 5 (bg gi (pv 3) (cz (c8) Z T.de c_ (ah (pv 4) ak))))
   (aF (dU (eP eO je jf jl (pv 2) (ah (ek T.qj (aaY T hP) (ej W) (ah (vy vz (pv 0) (lx (pv 5)) (lx (bg eK (pv 5) (cz (c8) Z T.de c_ (ah (pv 4) ak))))) (ah (pv 4) ak))) ak))))))
   (aF (aZ (pv 2))))),?_]
 have n2:=bS hold;refine#[c7 _,λR hfl=>?_];dsimp only[aR,aN,L2.start];have Sf:ag H (upd H R (.lst [])):=ag.new hfl;have Swo:∀{H':Hp},ag H (Wo H' R)->ag H H':=λS=>S.trans cU;refine#[_,Z,bl,_,Z,ao.of (Sf _ _ hbl),sU (a:=bl) (xs:=gs.map V.ref) 3 4 (λT' x y j H Q hT hQ=>#[T',_,Z,.inl (.inl hT),Z,_,_,Z,_,_,Z,Z,hQ]) (λi j H'=>ag H (Wo H' R)/\∃(I:List af)(v3 v4 v5:Option V),j=[aa (.ref cla),aa (.ref bl),aa (.ref R),v3,v4,v5]/\H' R=aa (.lst (I.map V.ref))/\I.length=i/\(∀g∈(ka n (λx=>cS (Tf x)) old).take i,∀f∈g,gT f)/\jB (Ext H0 H (Wo H' R)) I ((ka n (λx=>cS (Tf x)) old).take i)) #[λb u e=>aQ (bc e hfl) (Sf _ _ e),[],ae,ae,ae,Z,aA,Z,λg hg=>(dB hg).elim,.nil] (λi j H' t ⟨S,_⟩=>ao.of (Swo S _ _ hbl)) ?_ ?_]
 .rintro i x j H' hx ⟨S,I,v3,v4,v5,rfl,hf,hgl,hsm,O⟩ H2 S2;have hi:i<old.length:=by have:=(bx.mp hx).1;rw[aJ] at this;simp_all
  have ho:=aY hi;have o1:=hos _ (ff hi);generalize old[i]=o at ho o1;obtain⟨g,hg,hgo⟩:=Paired.at_ hold ho;obtain rfl:x=V.ref g:=by rw[bL,hg] at hx;exact(bf hx).symm
  obtain⟨Y,hgl0,hfr0⟩:=id hgo;have hxl:Y.length=n:=by rw[bS hfr0,o1]
  have SH2:=(Swo S).trans S2;have hin:=by
   have:=ja n hi;rw[uO] at this;exact this
  have hf2:=S2 _ _ hf;have hgS:ao K H2 g (Y.map V.ref):=ao.of ((S0.trans SH2) _ _ hgl0);dsimp only[aN];refine#[_,Z,_,Z,g,_,Z,.inl hgS,_,_,Z,Z,?_,?_]
  .rw[aJ,hxl];exact lY (e:=20) (f:=20) (by have:=wz old.length hn;lia) (by lia) (by simp)
  dsimp only[aR,aN];have efirst:(i:Int)* ((Y.map V.ref).length:Nat)=((i*n:Nat):Int):=by rw[aJ,hxl,fH]
  rw[efirst];refine#[_,Z,.inl #[Z,_,ao.of hf2],_,Z,_,Z,_,Z,_,Z,_,Z,g,_,Z,.inl hgS,_,_,Z,Z,_,Z,cla,_,Z,SH2.seq hcl,λsl hsl=>?_];have ehi:((i*n:Nat):Int)+ ((Y.map V.ref).length:Nat)=((i*n+n:Nat):Int):=by rw[aJ,hxl,yL]
  try dsimp only
  rw[ehi,aaZ _ hin];have Ssl:ag H2 (upd H2 sl (.lst (aO n λv=>V.ref (dd (i*n+v))))):=ag.new hsl;have U:=SH2.trans Ssl;refine#[_,Z,sl,g,n,λv=>dd (i*n+v),λv=>Tf (i*n+v),M,e,o,H0,Z,ao.of aA,λv hv=>U _ _ (hdd _ (by lia)),by lia,hM,hMe,λv hv=>hT _ (by lia),he,S0.trans U,hgo,by lia,λ⟨f,hf',hb⟩ H' S'=>qE #[_,dg (yx ho),f,hf',hb] H' (U.trans S'),λc H4 g' xs S4 hg0 hg' hfr=>?_]
  have hf3:=Ssl _ _ hf2;have hf4:=S4 _ _ hf3;have hgfl:g'≠R:=λz=>by subst z;rw[hf3] at hg0;cases hg0
  refine#[R,_,_,Z,Z,hf4,by rw[aJ,hgl,bQ];have:=wz old.length hn;lia,?_]
  have Sw:ag (Wo H' R) (Wo (upd H4 R (.lst (I.map V.ref++[.ref g']))) R):=λb u e=>by
   obtain⟨e1,e2⟩:=bh e;exact aQ e1 (by rw[aB e1];exact S4 _ _ (Ssl _ _ (S2 _ _ e2)))
  refine#[S.trans Sw,I++[g'],_,_,_,Z,by rw[aA,bR];rfl,by rw[b6,hgl];rfl,λg2 J=>?_,?_]
  .rw[take_snoc (yx ho)] at J;obtain J|J:=df.mp J
   .exact hsm g2 J
   .rw[cj] at J;subst J;exact c
  rw[take_snoc (yx ho)];refine eX (O.same (v_ Sw)) #[xs,j_ (U.free hg0) (aQ hgfl (by rw[aB hgfl];exact hg')),hfr.same λb u e=>?_]
  obtain⟨e1,e2⟩:=bh e;obtain⟨e3,e4⟩|⟨e3,e4⟩:=iF e2
  .have hb:b≠R:=λz=>by subst z;rw[hf3] at e3;cases e3
   exact j_ (U.free e3) (aQ hb (by rw[aB hb];exact e4))
  .exact kQ S0 e4
 .rintro j H' k;rcases k with⟨S,I,v3,v4,v5,rfl,hf,hgl,hsm,O⟩;rw[aJ,n2,mj (by rw[B2];simp)] at O hsm
  exact#[_,Z,q hsm H' R I (Swo S) hfl hf O]
end
noncomputable def jC(m:dz)(F:Nat->Nat->List (Nat×Nat))(ch:List cx):List cx:=ch.mapIdx λi t=>ka (dA m.columns i) (λx=>cS (F i x)) t
theorem yy{t}(A:m.columns[i]? =aa c)(h:ch[i]? =aa t):(jC m F ch)[i]? =aa (ka (aD c.kind) (λx=>cS (F i x)) t):=by
 delta jC;rw[wu,h,vY A];rfl
theorem B3 m F ch:(jC m F ch).length=ch.length:=by delta jC;rw[yX]
section
variable {w:aS}{base:aU}
inductive G0(a:Ad)(K:aP)(vs:List V)(H:Hp)(Q:VK)(E:XK):Prop|m:∀(pl bl:af)(m:dz)(qa:Nat->af)(da:Nat->Nat->af)(F:Nat->Nat->List (Nat×Nat))(M e:Nat)(ts:List af)(ch:List cx)(Hi:Hp),vs=[.ref pl,.ref bl]->fZ H m pl qa da F->cO m.columns->m.columns.length<=6->ao K H bl (ts.map V.ref)->ag Hi H->eA H Hi ts ch->gN m.columns ch->0<M->M<=2^e->(∀i x,i<m.columns.length->x<dF m i->(∀y∈F i x,y.1∣M)/\cD (λb=>M/b) (F i x)<=2^e)->e+e+2<=134217728->((∃t∈jC m F ch,∃g∈t,∃f∈g,¬gT f)->∀H',ag H H'->E (.ref a.qu) ae H')->((∀t∈jC m F ch,∀g∈t,∀f∈g,gT f)->∀H' fl ts',ag H H'->H fl=ae->H' fl=aa (.lst (ts'.map V.ref))->ts'.Nodup->(∀t∈ts',H t=ae/\t≠fl)->eA H' (dY (Ext Hi H H') (fl::ts')) ts' (jC m F ch)->Q (.ref fl) H')->G0 a K vs H Q E
theorem aa1(hN:N.length=4){vs}{E}(h:G0 a K vs H Q E):mF (t8 (MR K (iQ (fF 0) (iQ (fF 1) jS))) (Aj K 2 (Ai (aR 2) (Ai (aR 3) Lr))) xB (vv (GZ a K) [] E (iQ (fF 2) (iQ (fF 3) jS))) [2,3]) {nx:=λv H'=>Q .bB H',rt:=Q} (L2.start N vs) H:=by
 match N,hN with
 |[_,_,_,_],_=>
  obtain⟨pl,bl,m,qa,da,F,M,e,ts,ch,Hi,rfl,hC,ax,h6,hbl,Si,htb,hch,hM,hMe,hT,he,qE,q⟩:=h;have n1:=bS htb;have n2:=hch.1;dsimp only[mF];refine i7 #[_,Z,_,Z,pl,bl,_,_,Z,ao.of hC.1,hbl,GO (λT' x y w H Q hT hQ=>#[T',_,Z,.inl (.inl hT),Z,_,_,Z,_,_,Z,Z,hQ]) (λx w H P P' hp ⟨a1,a2,a3,a4,a5,a6,a7,a8,a9,a10,a11,a12,q⟩=>#[a1,a2,a3,a4,a5,a6,a7,a8,a9,_,a11,a12,hp _ _ q]) (λi zs H'=>∃A:List _,zs=A.map V.ref/\A.Nodup/\(∀t∈A,H t=ae)/\(∀t∈(jC m F ch).take i,∀g∈t,∀f∈g,gT f)/\eA H' (dY (Ext Hi H H') A) A ((jC m F ch).take i)) (ao.of hC.1) hbl (by rw[b5,aJ];simp_all) (by rw[b5,bQ];lia) (λi zs H1 H2 S ⟨A,e1,e2,e3,e4,O⟩=>#[A,e1,e2,e3,e4,O.same S λb u e=>?_]) #[[],Z,mi,λv h=>(dB h).elim,λv h=>(dB h).elim,.nil] ?_ ?_ ?_]
  .obtain⟨k1,k2⟩:=j9 e;exact iE k1 (v_ S _ _ k2)
  .exact λv v=>Z
  .rintro D i x y H1 zs hx hy hD Y S1 hl ⟨A,rfl,hnd,hfr,hsm,I⟩ R hR;have hi:=by have:=(bx.mp hx).1;rw[b5] at this;exact this
   rw[cT _ hi] at hx;obtain rfl:=bf hx;have hic:i<ch.length:=by simp_all
   have hc:=aY hi;have T:=aY hic;generalize m.columns[i]=c at hc;generalize ch[i]=old at T;obtain⟨t,gs,htt,htl,hgs⟩:=htb.get T;obtain rfl:y=V.ref t:=by rw[bL,htt] at hy;exact(bf hy).symm
   obtain⟨d1,d2⟩:=hch.2 i c _ hc T;have SH:=S1.trans cU;have hsz:dF m i=old.length*aD c.kind:=by rw[wc hc,d1]
   have hC1:=hC.same SH;have hq1:=hC1.2.1 i hi;rw[hsz] at hq1;have h5:old.length*aD c.kind<=512:=by have:=(ax i c hc).2.2.2.2;rw[d5] at this;rw[d1];exact this
   refine#[_,Z,_,Z,_,t,_,_,_,M,e,gs,_,Hi,Z,ao.of hq1,λx hx=>hC1.2.2 i x hi (by simp_all),h5,(size_pos (ax i c hc).1).1,hM,hMe,λx hx=>hT i x hi (by simp_all),he,SH _ _ htl,Si.trans SH,hgs,λo ho=>(d2 o ho).1,λ⟨g,hg,f,hf,hb⟩ H' S'=>qE #[_,dg (yy hc T),g,hg,f,hf,hb] H' (SH.trans S'),λd H2 t2 gs2 S2 J ht2' hg2=>hR _ _ S2 #[A++[t2],by rw[bR];rfl,?_,λx hx=>?_,λtt htt'=>?_,?_]]
   .rw[oV];refine#[hnd,by simp,λx hx y hy=>?_]
    rw[cj] at hy;subst hy;rintro rfl;obtain⟨zs,hz⟩:=I.mem x hx;rw[(bh hz).2] at J;cases J
   .obtain hx|hx:=df.mp hx
    .exact hfr x hx
    .rw[cj] at hx;subst hx;exact SH.free J
   .rw[take_snoc (yy hc T)] at htt';obtain h|h:=df.mp htt'
    .exact hsm tt h
    .rw[cj] at h;subst h;exact d
   .have htD:=bG (bc Y J);have Sw:ag _ (Wo H2 D):=λb u e=>by
     obtain⟨e1,e2⟩:=bh e;exact aQ e1 (S2 _ _ e2)
    rw[take_snoc (yy hc T)];refine eX (eA.same Sw (λb u e=>?_) I) #[_,aQ htD ht2',hg2.same λb u e=>?_]
    .obtain⟨e3,e4⟩:=j9 e;refine iE (λz=>?_) (v_ Sw _ _ e4);obtain z|z:=df.mp z
     .exact e3 z
     .rw[cj] at z;subst z;obtain⟨_,O⟩|⟨O,U⟩:=iF e4
      .rw[(bh O).2] at J;cases J
      .exact O (SH.free J)
    .obtain⟨O,U⟩|⟨O,U⟩:=iF e
     .obtain⟨e7,e8⟩:=bh U;have hbD:b≠D:=λz=>by subst z;rw[Y] at O;cases O
      refine iE (λz=>?_) (j_ (SH.free O) (aQ hbD e8));obtain z|z:=df.mp z
      .obtain⟨zs,hz⟩:=I.mem b z;rw[(bh hz).2] at O;cases O
      .rw[cj] at z;exact e7 z
     .have hH:=Si _ _ U;refine iE (λz=>?_) (kQ Si U);obtain z|z:=df.mp z
      .rw[hfr b z] at hH;cases hH
      .rw[cj] at z;subst z;rw[SH.free J] at hH;cases hH
  .rintro D H1 zs hD S1 S1' Y hl ⟨A,rfl,hnd,hfr,hsm,I⟩;rw[b5,mj (by rw[B3];simp_all)] at I hsm
   have hne:∀t∈A,t≠D:=λt T z=>by
    obtain⟨zs,hz⟩:=I.mem t T;exact(bh hz).1 z
   refine q hsm H1 D A S1 hD Y hnd (λt T=>#[hfr t T,hne t T]) (I.same cU λb u e=>?_);obtain⟨e3,e4⟩:=j9 e;obtain⟨O,U⟩|⟨O,U⟩:=iF e4
   .obtain⟨e7,e8⟩:=bh U;exact iE (λz=>(bM.mp z).elim e7 e3) (j_ O e8)
   .refine iE (λz=>(bM.mp z).elim (λz=>?_) e3) (kQ Si U);subst z;rw[Si _ _ U] at hD;cases hD
theorem aa2(T:TX K mg a d)(I:P.given.tree=ae):aV P w K mg base (e9 P w a.qu) 46 a.qi d.qi ["parts","before"] (G0 a K):=by
 refine T.qi.gL bE λnD J A outer s H vs Q E hr W h=>?_;refine#[_,(aF (aZ (V9 W Z Z Z nD (vD Z T.sN (ah (pv 0) (ah (pv 1) ak))) (own:=[("cells",2),("table",3)]) T.qi.s.c9 (λx x x x x x=>(GR (K:=K) (n:=2) Z (dj (bJ 2) (dj (bJ 3) gJ)))) (λx x x x x x=>gh) (λx x x x x x W=>(ek T.sG (aa0 T I) (ej W) (ah (pv 2) (ah (pv 3) ak))))))),?_];exact aa1 Z h
end
noncomputable def dQ:List V->List (au×V)
 |[x0,x1,x2]=>[("model",x0),("rows",x1),("chances",x2)]
 |_=>[]
theorem jD:(dQ [x0,x1,x2]).lookup ("model":au)=aa x0:=by kernel_rfl
theorem nc:(dQ [x0,x1,x2]).lookup ("rows":au)=aa x1:=by kernel_rfl
theorem ng:(dQ [x0,x1,x2]).lookup ("chances":au)=aa x2:=by kernel_rfl
section
variable {w:aS}{base:aU}
inductive RE(a:Ad)(vs:List V)(H:Hp)(Q:VK)(x_0:XK):Prop|m:∀(x dx:af),vs=[.ref x]->H x=aa (.ins a.Held dx [])->(∀H' rl cl,(∀b u,H b=aa u->b≠x->H' b=aa u)->H' x=aa (.ins a.Held dx (dQ [.bB,.ref rl,.ref cl]))->H' rl=aa (.lst [])->H' cl=aa (.lst [])->rl≠cl->H rl=ae->H cl=ae->Q .bB H')->RE a vs H Q x_0
theorem aa3(T:TX K mg a d):aV P w K mg base bo 41 a.qt d.qt ["self"] (RE a):=by
 refine T.qt.ok bE λnD cdv A outer s H vs Q E hr h=>?_;obtain⟨x,dx,rfl,hx,q⟩:=h;refine#[_,(ay (dv (pv 0) Ll Z)
   (ay (dv (pv 0) (bU ak) Z)
   (aF (dv (pv 0) (bU ak) Z)))),?_]
 refine#[_,Z,x,_,dx,_,Z,hx,T.cH,T.iA,dq,?_]
 have e0:b_ "model" .bB []=([("model",.bB)]:List (au×V)):=by kernel_rfl
 rw[e0];refine#[c7 _,λrl O=>?_];have S:=bc aA O;refine#[_,Z,x,_,dx,_,Z,by rw[aB S,aA],T.cH,T.kM,dq,?_]
 have e1:b_ "rows" (.ref rl) ([("model",.bB)]:List (au×V))=([("model",.bB),("rows",.ref rl)]:List (au×V)):=by kernel_rfl
 rw[e1];refine#[c7 _,λcl M=>?_];have J:=bc aA M;have I:=bG S;have R:=bc (by rw[aB I,aA]) M
 refine#[_,Z,x,_,dx,_,Z,by rw[aB J,aA],T.cH,T.i6,dq,?_]
 have e2:b_ "chances" (.ref cl) ([("model",.bB),("rows",.ref rl)]:List (au×V))=dQ [.bB,.ref rl,.ref cl]:=by kernel_rfl
 rw[e2];have U:=by rw[aB I] at O;exact O
 have Y:=by rw[aB (bG J),aB (bG R),aB (bG J)] at M;exact M
 refine q _ rl cl (λb u e c=>?_) aA ?_ ?_ R U Y
 .rw[aB c,aB (bc e Y),aB c,aB (bc e U),aB c];exact e
 .rw[aB I,aB R,aB I,aA]
 .rw[aB (bG J),aA]
end
def gU(a:Ad)(K:aP)(H Hi:Hp)(h dx mo rl bl:af)(ras ts:List af)(m:dz)(ls:List (List Int))(ch:List cx):Prop:=
 H h=aa (.ins a.Held dx (dQ [.ref mo,.ref rl,.ref bl]))/\oS a Hi mo m/\H rl=aa (.lst (ras.map V.ref))/\qB K Hi ras ls/\H bl=aa (.lst (ts.map V.ref))/\eA H Hi ts ch/\ag Hi H
section
variable {w:aS}{base:aU}
inductive RF(a:Ad)(K:aP)(vs:List V)(H:Hp)(Q:VK)(x_0:XK):Prop|m:∀(h dx mo rl bl row:af)(ras ts:List af)(m:dz)(ls:List (List Int))(ch:List cx)(l:List Int)(Hi:Hp),vs=[.ref h,.ref row]->gU a K H Hi h dx mo rl bl ras ts m ls ch->cO m.columns->m.columns.length<=6->gN m.columns ch->oU K H row (nV l)->cG (aq m) l->aI (aq m) l<=1024->(∀H' x W B,ag H H'->H x=ae->yu a H' x m l W B->fN m ch l W B->Q (.ref x) H')->RF a K vs H Q x_0
theorem B4(T:TX K mg a d)(hP:P.given.tree=ae):aV P w K mg base bo 45 a.weighed d.weighed ["held","row"] (RF a K):=by
 refine T.weighed.ok bE λnD cdv A outer s H vs Q E hr h=>?_;rcases h with⟨h,dx,mo,rl,bl,row,ras,ts,m,ls,ch,l,Hi,rfl,⟨S,⟨dm,tb,cl,os,Y,m2,V,U⟩,h3,h4,h5,R,J⟩,ax,h6,O,I,M,hN,q⟩;refine#[_,(aF (aZ (a_ T.lO (Rf T hP) (ah (aK (aK (pv 0) rfl) rfl) (ah (aK (pv 0) rfl) (ah (pv 1) ak)))))),?_];exact#[_,rfl,h,_,dx,_,_,rfl,S,T.cH,T.iA,jD,mo,_,dm,_,_,rfl,J _ _ Y,T.iz,T.jt,j7,_,rfl,h,_,dx,_,_,rfl,S,T.cH,T.i6,ng,_,rfl,cl,bl,row,os,ts,m,ch,l,Hi,rfl,ao.of (J _ _ V),U.same J,ax,h6,ao.of h5,J,R,O,I,M,hN,q]
noncomputable def refOf(m:dz)(l:List Int):Int:=match px (cV m.columns) l with
 |none=>-3
 |some r=>if 1024<ie (cV m.columns) r then -8 else 0
inductive RG(a:Ad)(K:aP)(vs:List V)(H:Hp)(Q:VK)(x_0:XK):Prop|m:∀(h dx mo rl bl row:af)(ras ts:List af)(m:dz)(ls:List (List Int))(ch:List cx)(l:List Int)(Hi:Hp),vs=[.ref h,.ref row]->gU a K H Hi h dx mo rl bl ras ts m ls ch->cO m.columns->ao K H row (nV l)->(∀H',ag H H'->Q (.int (refOf m l)) H')->RG a K vs H Q x_0
theorem B5(T:TX K mg a d):aV P w K mg base bo 43 a.mY d.mY ["held","row"] (RG a K):=by
 refine T.mY.ok bE λnD cdv A outer s H vs Q E hr h=>?_;rcases h with⟨h,dx,mo,rl,bl,row,ras,ts,m,ls,ch,l,Hi,rfl,⟨h1,⟨dm,tb,cl,os,m1,m2,m3,m4⟩,h3,h4,h5,h6',U⟩,ax,I,q⟩;refine#[_,(ay (cy (lr (eZ (a_ T.sx (aan T) (ah (aK (aK (pv 0) Z) Z) (ah (pv 1) ak))) (λx=>Z))) (aF (aZ (bZ Z T.Ge))) cC)
   (ay (cy (b9 nP (a_ T.n8 (GJ T) (ah (aK (aK (pv 0) Z) Z) (ah (pv 1) ak))) (bZ Z T.Y_) (cu _)) (aF (aZ (bZ Z T.Y7))) cC)
   (aF (aZ aX)))),?_]
 refine pR (!(px (cV m.columns) l).isSome) (λR V=>#[_,Z,h,_,dx,_,_,Z,h1,T.cH,T.iA,jD,mo,_,dm,_,_,Z,U _ _ m1,T.iz,T.jt,j7,_,Z,cl,row,os,m.columns,l,Z,ao.of (U _ _ m3),m4.same U,I,λH1 M=>#[_,Z,V H1 M]]) (λH1 M=>?_);delta refOf at q;cases Y:px (cV m.columns) l with
 |none=>
  rw[Y] at q;exact bu (q H1 M)
 |some r=>
  rw[Y] at q;have J:=U.trans M;refine br ?_;dsimp only[di,cN];refine(pR (decide (1024<ie (cV m.columns) r)) (λR V=>#[_,Z,h,_,dx,_,_,Z,M _ _ h1,T.cH,T.iA,jD,mo,_,dm,_,_,Z,J _ _ m1,T.iz,T.jt,j7,_,Z,cl,row,os,m.columns,l,r,Z,ao.of (J _ _ m3),m4.same J,ax.cV,.inl (M.seq I),Y,λH2 b=>#[_,_,Z,Z,_,Z,?_]]) (λH2 b=>?_))
  .rw[show decide ((1024:Int)<(ie (cV m.columns) r:Nat))=decide (1024<ie (cV m.columns) r) by rw[d9];omega]
   exact V H2 b
  have O:=q H2 (M.trans b);by_cases S:1024<ie (cV m.columns) r
  .rw[bX S];dsimp only at O;rw[aC S] at O;exact bu O
  .rw[bO S];dsimp only at O;rw[aw S] at O;exact br O
end
inductive kb(a:Ad)(K:aP)(H:Hp)(c:af)(n:Int)(nums:List Int)(l:List Int)(e:Int):Prop|m:∀dc nl ll,H c=aa (.ins a.Call dc (oN [.int n,.ref nl,.ref ll,.int e]))->ao K H nl (nV nums)->ao K H ll (nV l)->kb a K H c n nums l e
theorem kb.same{c:af}{n e:Int}(S:ag H H')(h:kb a K H c n nums l e):kb a K H' c n nums l e:=by
 obtain⟨O,A,E,M,J,I⟩:=h;exact#[O,A,E,S _ _ M,S.seq J,S.seq I]
theorem gU.same(S:ag H H')(x:gU a K H Hi h dx mo rl bl ras ts m ls ch):gU a K H' Hi h dx mo rl bl ras ts m ls ch:=by
 rcases x with⟨R,O,M,J,I,E,A⟩;exact#[S _ _ R,O,S _ _ M,J,S _ _ I,E.same S (ag.refl _),A.trans S]
theorem we(h:refOf m l=0):cG (aq m) l/\aI (aq m) l<=1024:=by
 have I:cV m.columns=aq m:=Z;unfold refOf at h;rw[I] at h;cases E:px (aq m) l with
 |none=>rw[E] at h;cases h
 |some r=>
  have A:cG (aq m) l:=by unfold cG;rw[E];rfl
  rw[E] at h;dsimp only at h;have M:r=rowOf (aq m) l:=by have:=A.eq;rw[E] at this;exact bf this
  refine#[A,?_];by_cases J:1024<ie (aq m) r
  .rw[aC J] at h;cases h
  .have:ie (aq m) r<=1024:=by lia
   rw[M] at this;exact this
section
variable {w:aS}{base:aU}
noncomputable def yz(m:dz)(ch:List cx)(l:List Int):List Int:=if refOf m l=0 then 1::[(xh m ch (rowOf (aq m) l)).num,((xh m ch (rowOf (aq m) l)).den:Int)] else[refOf m l]
inductive RH(a:Ad)(K:aP)(vs:List V)(H:Hp)(Q:VK)(x_0:XK):Prop|m:∀(h dx mo rl bl c:af)(ras ts:List af)(m:dz)(ls:List (List Int))(ch:List cx)(n e:Int)(nums l:List Int)(Hi:Hp),vs=[.ref h,.ref c]->gU a K H Hi h dx mo rl bl ras ts m ls ch->kb a K H c n nums l e->cO m.columns->m.columns.length<=6->gN m.columns ch->(∀H' t,ag H H'->H t=ae->H' t=aa (.lst (nV (yz m ch l)))->Q (.ref t) H')->RH a K vs H Q x_0
theorem aa4(T:TX K mg a d)(hP:P.given.tree=ae):aV P w K mg base bo 46 a.lR d.lR ["held","call"] (RH a K):=by
 refine T.lR.ok bE λnD cdv A outer s H vs Q E hr h=>?_;obtain⟨h,dx,mo,rl,bl,c,ras,ts,m,ls,ch,n,e,nums,l,Hi,rfl,hH,⟨dc,nl,ll,c1,c2,c3⟩,ax,h6,U,q⟩:=h;refine#[_,(ay (aM 2 (a_ T.mY (B5 T) (ah (pv 0) (ah (aK (pv 1) Z) ak))))
   (ay (cy (b9 jR (pv 2) aX (cu _)) (aF (aZ (bU (ah (pv 2) ak)))) cC)
   (ay (aM 3 (a_ T.qe (Rn T hP) (ah (a_ T.weighed (B4 T hP) (ah (pv 0) (ah (aK (pv 1) Z) ak))) ak)))
   (aF (aZ (bU (ah aX (ah (bt ec (pv 3) aX) (ah (bt ec (pv 3) aX) ak))))))))),?_]
 refine#[_,Z,_,Z,c,_,dc,_,_,Z,c1,T.eG,T.m7,oO,h,dx,mo,rl,bl,ll,ras,ts,m,ls,ch,l,Hi,Z,hH,ax,c3,λH1 I=>?_];dsimp only[aR,aN,L2.start];refine cX (!decide (refOf m l=0)) (λR q'=>#[_,Z,Z,_,Z,?_]) ?_
 .rw[show decide (V.int (refOf m l)=V.int 0)=decide (refOf m l=0) by rw[d9];exact#[λz=>by injection z,λz=>by rw[z]]]
  exact q'
 by_cases O:refOf m l=0
 .rw[bX O];obtain⟨b,r2⟩:=we O;refine br ?_;dsimp only[di,cN];refine#[_,Z,_,Z,c,_,dc,_,_,Z,I _ _ c1,T.eG,T.m7,oO,h,dx,mo,rl,bl,ll,ras,ts,m,ls,ch,l,Hi,Z,hH.same I,ax,h6,U,.inl (I.seq c3),b,r2,λH2 x W B S2 hx hF hW=>#[x,m,l,W,B,Z,hF,hW.1,λp hp M=>?_]];rw[<-x9 b hW] at M⊢;have Y:=I.trans S2;generalize hf:xh m ch (rowOf (aq m) l)=f at M;have S:=Y.trans (ag.new (o:=.tup [.int f.num,.int (f.den:Nat)]) hp);dsimp only[aR,aN];refine#[_,Z,p,_,_,_,Z,Z,.inl (.inl aA),Z,_,Z,p,_,_,_,Z,Z,.inl (.inl aA),Z,cb,λt J=>q _ t (S.trans (ag.new J)) (S.free J) ?_]
  rw[aA];delta yz;rw[aC O,hf];rfl
 .rw[bO O];refine bu #[_,Z,cb,λt J=>q _ t (I.trans (ag.new J)) (I.free J) ?_]
  rw[aA];delta yz;rw[aw O];rfl
end
section
variable {w:aS}{base:aU}
inductive RI(a:Ad)(K:aP)(vs:List V)(H:Hp)(Q:VK)(x_0:XK):Prop|m:∀(h dx mo rl bl c:af)(ras ts:List af)(m:dz)(ls:List (List Int))(ch:List cx)(Hi:Hp),vs=[.ref h,.ref c]->gU a K H Hi h dx mo rl bl ras ts m ls ch->r9 m->m.shown.length<=100000->(∀H' t,ag H H'->H t=ae->H' t=aa (.lst (nV ((m.shown.length:Int)::m.shown.map λc=>(c.toNat:Int))))->Q (.ref t) H')->RI a K vs H Q x_0
theorem aa5(T:TX K mg a d):aV P w K mg base bo 44 a.lP d.lP ["held","call"] (RI a K):=by
 refine T.lP.ok bE λnD b A outer s H vs Q E hr h=>?_;rcases h with⟨h,dx,mo,rl,bl,c,ras,ts,m,ls,ch,Hi,rfl,⟨V,U,h3,h4,h5,S,Si⟩,ax,R,q⟩;refine#[_,(ay (aM 2 (a_ T.sy (aal T) (ah (aK (pv 0) Z) ak)))
   (aF (aZ (bg lz (bU (ah (cz (c8) Z T.de c_ (ah (pv 2) ak)) ak)) (pv 2))))),?_]
 refine#[_,Z,h,_,dx,_,_,Z,V,T.cH,T.iA,jD,mo,m,Z,U.same Si,ax,λH1 p S1 M=>?_];dsimp only[aR,aN,L2.start];refine#[_,Z,p,_,Z,.inl (ao.of M),cb,λY I=>#[_,Z,Y,p,_,_,Z,Z,aA,ag.new I _ _ M,?_,λt J=>?_]]
 .rw[bQ];show 1+ (bV m.shown).length<=_;rw[fG];lia
 .have O:=S1.trans (ag.new (o:=.lst [.int ((bV m.shown).length:Nat)]) I);refine q _ t (O.trans (ag.new J)) (O.free J) ?_;rw[aA,fG];delta nV bV;rw[b7,eU];rfl
end
theorem RJ(W:Nat->Nat) x:∀n,(∃j,j<n/\W j=x)->∃j,j<n/\W j=x/\∀i,i<j->W i≠x
 |0,⟨j,E,_⟩=>absurd E (ny _)
 |n+1,⟨j,E,e⟩=>by
  by_cases h:∃j,j<n/\W j=x
  .obtain⟨I,R,O,M⟩:=RJ W x n h;exact#[I,by lia,O,M]
  .have A:j=n:=by
    by_cases z:j<n
    .exact absurd #[j,z,e] h
    .lia
   subst A;exact#[j,E,e,λi J z=>h #[i,J,z]]
theorem count_cast(l:List Nat)(x:Nat):(l.map λ(n:Nat)=>(n:Int)).count (x:Int)=l.count x:=by
 induction l with
 |nil=>rfl
 |cons y l A=>
  rw[b7,Cg,Cg,A]
  congr 1
  by_cases h:y=x
  .subst h;simp
  .have:¬y=(x:Int):=by lia
   simp[h,this]
noncomputable def G1(m:dz)(l:List Int)(W:Nat->Nat)(B A E:Nat):List Int:=((aO (aI (aq m) l) W).count A:Int)::(aW (A:Nat) B).num::((aW (A:Nat) B).den:Int)::aO m.columns.length λi=>lL m.columns i+ (rk m l E i:Int)
section
variable {w:aS}{base:aU}
inductive RK(a:Ad)(K:aP)(vs:List V)(H:Hp)(Q:VK)(x_0:XK):Prop|m:∀(h dx mo rl bl c:af)(ras ts:List af)(m:dz)(ls:List (List Int))(ch:List cx)(n e:Int)(nums l:List Int)(Hi:Hp),vs=[.ref h,.ref c]->gU a K H Hi h dx mo rl bl ras ts m ls ch->kb a K H c n nums l e->cO m.columns->m.columns.length<=6->gN m.columns ch->(refOf m l≠0->∀H' t,ag H H'->H t=ae->H' t=aa (.lst (nV [refOf m l]))->Q (.ref t) H')->(refOf m l=0->∀H' t W B mx j0,ag H H'->H t=ae->fN m ch l W B->(∀j,j<aI (aq m) l->W j<=mx)->j0<aI (aq m) l->W j0=mx->(∀j,j<j0->W j≠mx)->H' t=aa (.lst (nV (G1 m l W B mx j0)))->Q (.ref t) H')->RK a K vs H Q x_0
theorem aa6(T:TX K mg a d)(hP:P.given.tree=ae):aV P w K mg base bo 46 a.lT d.lT ["held","call"] (RK a K):=by
 refine T.lT.ok bE λnD cdv A outer s H vs Q E hr h=>?_;obtain⟨h,dx,mo,rl,bl,c,ras,ts,m,ls,ch,n,e,nums,l,Hi,rfl,hH,⟨dc,nl,ll,c1,c2,c3⟩,ax,h6,hch,qR,q⟩:=h;refine#[_,(ay (aM 2 (a_ T.mY (B5 T) (ah (pv 0) (ah (aK (pv 1) Z) ak))))
   (ay (cy (b9 jR (pv 2) aX (cu _)) (aF (aZ (bU (ah (pv 2) ak)))) cC)
   (ay (aM 3 (a_ T.weighed (B4 T hP) (ah (pv 0) (ah (aK (pv 1) Z) ak))))
   (ay (aM 4 (cz (Mh Z) Z T.Gg Fe (ah (aK (pv 3) Z) ak)))
   (ay (aM 5 (a_ T.lN (yk T hP) (ah (pv 4) (ah (aK (pv 3) Z) ak))))
   (ay (aM 6 (eP eO zH Kc UW (aK (pv 3) Z) (ah (pv 4) ak)))
   (ay (aM 7 (bU (ah (eP eO J_ PySem.F.type_list_count Xa (aK (pv 3) Z) (ah (pv 4) ak)) (ah (bt ec (pv 5) aX) (ah (bt ec (pv 5) aX) ak)))))
   (ay (du dM Z (vD Z T.sN (ah (aK (pv 3) Z) (ah (aK (aK (pv 0) Z) Z) ak))) (iP Z (dj (bJ 8) (dj (bJ 9) gJ))) (aF (dU (eP eO je jf jl (pv 7) (ah (bg eK (aK (aK (pv 9) Z) Z) (bt b8 (pv 8) (pv 6))) ak)))))
   (aF (aZ (pv 7))))))))))),?_]
 refine#[_,Z,_,Z,c,_,dc,_,_,Z,c1,T.eG,T.m7,oO,h,dx,mo,rl,bl,ll,ras,ts,m,ls,ch,l,Hi,Z,hH,ax,c3,λH1 S1=>?_];dsimp only[aR,aN,L2.start];refine cX (!decide (refOf m l=0)) (λR q'=>#[_,Z,Z,_,Z,?_]) ?_
 .rw[show decide (V.int (refOf m l)=V.int 0)=decide (refOf m l=0) by rw[d9];exact#[λz=>by injection z,λz=>by rw[z]]]
  exact q'
 by_cases h0:refOf m l=0
 case neg=>
  rw[bO h0];refine bu #[_,Z,cb,λt f=>qR h0 _ t (S1.trans (ag.new f)) (S1.free f) ?_]
  rw[aA];rfl
 rw[bX h0];obtain⟨r1,r2⟩:=we h0;refine br ?_;dsimp only[di,cN];refine#[_,Z,_,Z,c,_,dc,_,_,Z,S1 _ _ c1,T.eG,T.m7,oO,h,dx,mo,rl,bl,ll,ras,ts,m,ls,ch,l,Hi,Z,hH.same S1,ax,h6,hch,.inl (S1.seq c3),r1,r2,λH2 x W B S2 hx hF hW=>?_];have S02:=S1.trans S2;rcases hH.same S02 with⟨h1,⟨dm,tb,cl,os,m1,m2,m3,m4⟩,h3,h4,h5,h6',Si⟩;rcases id hF with⟨fx,fr,fc,fw,ks,cs,f1,f2,f3,f4,f5,f6⟩;have hN0:=by have:=BB ax l 0;rw[Pk] at this;exact this
 have hS:ao K H2 fw ((aO (aI (aq m) l) W).map (λ(n:Nat)=>(n:Int)) |>.map V.int):=by rw[<-m_];exact ao.of f6
 dsimp only[aR,aN];refine#[_,Z,x,_,fx,_,_,Z,f1,T.gQ,T.oG,qC,fw,_,Z,hS,by rw[aJ,b5];exact hN0,λmz hmz hmax=>?_]
 obtain⟨I,hmx,rfl⟩:=bK.mp hmz;obtain⟨j1,U,hj1e⟩:=bK.mp (show I∈(fg _).map W from hmx);have U:=gx.mp U;have hle:∀j,j<aI (aq m) l->W j<=I:=λj hj=>by
  have:=hmax (W j:Int) (bK.mpr #[W j,dg (cT W hj),Z]);simp_all
 obtain⟨j0,k1,k2,k3⟩:=RJ W I _ #[j1,U,hj1e];dsimp only[aR,aN];refine#[_,Z,_,Z,x,_,fx,_,_,Z,f1,T.gQ,T.Gk,Ra,I,B,Z,hW.1,λp hp=>?_];have Sp:ag H2 (upd H2 p (.tup [.int ((I/bj I B:Nat):Int),.int ((B/bj I B:Nat):Int)])):=ag.new hp;have hpt:(upd H2 p (.tup [.int ((I/bj I B:Nat):Int),.int ((B/bj I B:Nat):Int)])) p=aa (.tup [.int ((I/bj I B:Nat):Int),.int ((B/bj I B:Nat):Int)]):=aA;generalize upd H2 p (.tup [.int ((I/bj I B:Nat):Int),.int ((B/bj I B:Nat):Int)])=Y at Sp hpt⊢;have hT3:cM K Y p [.int ((I/bj I B:Nat):Int),.int ((B/bj I B:Nat):Int)]:=.inl (.inl hpt);dsimp only[aR,aN];refine#[_,Z,x,_,fx,_,_,Z,Sp _ _ f1,T.gQ,T.oG,qC,.inl #[Z,_,ao.of (Sp _ _ f6)],_,Z,fw,_,_,j0,_,Z,Z,ao.of (Sp _ _ f6),Z,?_,wa (cT W k1),?_,λi z hi hz=>?_,?_]
 .rw[m_];exact Fb _
 .rw[k2];simp[iS]
 .obtain⟨z,hz',rfl⟩:=gS hz;rw[cT W (by lia)] at hz'
  obtain rfl:=bf hz';have:=k3 i hi;simp[iS];exact λz=>this (by lia)
 have hS3:ao K Y fw ((aO (aI (aq m) l) W).map (λ(n:Nat)=>(n:Int)) |>.map V.int):=by rw[<-m_];exact ao.of (Sp _ _ f6)
 dsimp only[aR,aN];refine#[_,Z,x,_,fx,_,_,Z,Sp _ _ f1,T.gQ,T.oG,qC,.inl #[Z,_,hS3],_,Z,fw,_,_,Z,Z,hS3,_,Z,p,_,_,_,Z,Z,hT3,Z,_,Z,p,_,_,_,Z,Z,hT3,Z,cb,λt f=>?_]
 rw[count_cast];have efr:=sV I B hW.1;have St:ag Y (upd Y t (.lst [.int ((aO (aI (aq m) l) W).count I:Nat),.int ((I/bj I B:Nat):Int),.int ((B/bj I B:Nat):Int)])):=ag.new f;have S03:=S02.trans Sp;have ht0:=S03.free f;have J:=Sp.trans St;have O:∀{H':Hp},ag Y (Wo H' t)->ag Y H':=λS=>S.trans cU;dsimp only[aR,aN];have hol:=bS m4;have hkl:ks.length=m.columns.length:=by rw[bS f3,b5]
 refine#[_,Z,x,_,fx,_,_,Z,J _ _ f1,T.gQ,T.Gj,Q_,_,Z,h,_,dx,_,_,Z,J _ _ h1,T.cH,T.iA,jD,mo,_,dm,_,_,Z,J _ _ (Si _ _ m1),T.iz,T.jt,j7,fr,cl,_,_,Z,ao.of (J _ _ f2),ao.of (J _ _ (Si _ _ m3)),BX (a:=fr) (b:=cl) (xs:=ks.map V.ref) (ys:=os.map V.ref) 8 9 (λT' x y k H Q hT hQ=>#[T',_,Z,.inl (.inl hT),Z,_,_,Z,_,_,Z,Z,hQ]) (λi k H'=>ag Y (Wo H' t)/\H' t=aa (.lst (nV (((aO (aI (aq m) l) W).count I:Int)::(aW (I:Nat) B).num::((aW (I:Nat) B).den:Int)::aO i λi=>lL m.columns i+ (rk m l j0 i:Int))))/\∃v8 v9,k=[aa (.ref h),aa (.ref c),aa (.int (refOf m l)),aa (.ref x),aa (.int (I:Nat)),aa (.ref p),aa (.int (j0:Nat)),aa (.ref t),v8,v9]) (by rw[aJ,aJ];simp_all) #[λb u e=>aQ (bc e f) (St _ _ e),?_,_,_,Z] (λi k H' v ⟨S,_⟩=>#[ao.of (O S _ _ (Sp _ _ f2)),ao.of (O S _ _ (Sp _ _ (Si _ _ m3)))]) ?_ ?_]
 .rw[aA,efr];rfl
 .rintro i y z k H4 hy hz ⟨S4,M,v8,v9,rfl⟩ H5 S5;have hi:i<m.columns.length:=by have:=(bx.mp hy).1;rw[aJ] at this;simp_all
  have hc:=aY hi;generalize m.columns[i]=co at hc;have S35:=(O S4).trans S5;have S25:=Sp.trans S35;obtain⟨o,ho,dx',nb',k',pp',e1,e2,e3,e4⟩:=((m4.same Si).same S25).get hc;obtain rfl:z=V.ref o:=by rw[ho] at hz;exact(bf hz).symm
  obtain⟨ra,hra,hral⟩:=Paired.at_ f3 (cT (gk m l) hi);obtain rfl:y=V.ref ra:=by rw[bL,hra] at hy;exact(bf hy).symm
  obtain⟨dk,fl,hk⟩:=e3.yr;have ht5:=S5 _ _ M;dsimp only[aN];refine#[_,Z,.inl #[Z,_,ao.of ht5],_,Z,o,_,dx',_,_,Z,e1,T.ez,T.i5,jy,k',_,dk,_,_,Z,hk,T.js,T.sO,uv,_,Z,_,Z,ra,_,_,_,Z,Z,ao.of (S25 _ _ hral),bY (wa (cT _ k1)),_,_,Z,Z,t,_,_,Z,Z,ht5,?_,λb u e=>?_,?_,_,_,Z]
  .delta nV;rw[aJ,bQ,bP,bP,bP,b5];lia
  .obtain⟨e5,e6⟩:=bh (S4 _ _ e);exact aQ e5 (by rw[aB e5];exact S5 _ _ e6)
  .rw[aA,iY];have el:lL m.columns i=fL co.kind:=by delta lL;rw[hc];rfl
   rw[el];delta nV;rw[<-uH,<-uH,<-uH,bR];rfl
 .rintro k H4 ⟨S4,M,v8,v9,rfl⟩;rw[aJ,hkl] at M;exact#[_,Z,q h0 H4 t W B I j0 (S03.trans (O S4)) ht0 hW hle k1 k2 k3 M]
end
noncomputable def sY(s:Nat)(f:Nat->Nat)(S:Nat):List Int:=(aO s λv=>[(aW (f v:Nat) S).num,((aW (f v:Nat) S).den:Int)]).flatten
section
variable {w:aS}{base:aU}
inductive RL(a:Ad)(K:aP)(vs:List V)(H:Hp)(Q:VK)(x_0:XK):Prop|m:∀(h dx mo rl bl c:af)(ras ts:List af)(m:dz)(ls:List (List Int))(ch:List cx)(n e i:Int)(nums l:List Int)(Hi:Hp),vs=[.ref h,.ref c]->gU a K H Hi h dx mo rl bl ras ts m ls ch->kb a K H c n (i::nums) l e->cO m.columns->m.columns.length<=6->gN m.columns ch->(¬(0<=i/\i<m.columns.length)->∀H' t,ag H H'->H t=ae->H' t=aa (.lst (nV [-2]))->Q (.ref t) H')->(0<=i/\i<m.columns.length->refOf m l≠0->∀H' t,ag H H'->H t=ae->H' t=aa (.lst (nV [refOf m l]))->Q (.ref t) H')->(0<=i/\i<m.columns.length->refOf m l=0->∀H' t W B,ag H H'->H t=ae->fN m ch l W B->H' t=aa (.lst (nV (if sumTo (aI (aq m) l) W=0 then[-6] else(dA m.columns i.toNat:Int)::sY (dA m.columns i.toNat) (dZ (aI (aq m) l) (λj=>rk m l j i.toNat) W) (sumTo (aI (aq m) l) W))))->Q (.ref t) H')->RL a K vs H Q x_0
theorem aa7(T:TX K mg a d)(hP:P.given.tree=ae):aV P w K mg base bo 46 a.lS d.lS ["held","call"] (RL a K):=by
 refine T.lS.ok bE λnD cdv A outer s H vs Q E hr h=>?_;obtain⟨h,dx,mo,rl,bl,c,ras,ts,m,ls,ch,n,e,i,nums,l,Hi,rfl,hH,⟨dc,nl,ll,c1,c2,c3⟩,ax,h6,hch,qN,qR,q⟩:=h;refine#[_,(ay (aM 2 (aK (aK (pv 0) Z) Z))
   (ay (aM 3 (bt b8 (aK (pv 1) Z) aX))
   (ay (cy (lr (eZ (a_ T.kJ (vS T) (ah (pv 3) (ah (cz (c8) Z T.de c_ (ah (pv 2) ak)) ak))) (λr=>Z))) (aF (aZ (bU (ah (bZ Z T.yd) ak)))) cC)
   (ay (aM 4 (a_ T.mY (B5 T) (ah (pv 0) (ah (aK (pv 1) Z) ak))))
   (ay (cy (b9 jR (pv 4) aX (cu _)) (aF (aZ (bU (ah (pv 4) ak)))) cC)
   (ay (aM 5 (a_ T.weighed (B4 T hP) (ah (pv 0) (ah (aK (pv 1) Z) ak))))
   (ay (aM 6 (cz (xy Z) Z T.ye xQ (ah (aK (pv 5) Z) ak)))
   (ay (cy (b9 mG (pv 6) aX (cu _)) (aF (aZ (bU (ah (bZ Z T.Gf) ak)))) cC)
   (ay (aM 7 (a_ T.size_of (oR T) (ah (aK (bt b8 (pv 2) (pv 3)) Z) ak)))
   (ay (aM 8 (bU (ah (pv 7) ak)))
   (ay (du dM Z (d_ (a_ T.qf (Rp T) (ah (bt b8 (aK (pv 5) Z) (pv 3)) (ah (aK (pv 5) Z) (ah (pv 7) ak))))) (bJ 9) (aF (dU (eP eO rj vc Fc (pv 8) (ah (a_ T.lN (yk T hP) (ah (pv 9) (ah (pv 6) ak))) ak)))))
   (aF (aZ (pv 8)))))))))))))),?_]
 rcases id hH with⟨h1,⟨dm,tb,cl,os,m1,m2,m3,m4⟩,h3,h4,h5,h6',Si⟩;have hol:=bS m4;refine#[_,Z,h,_,dx,_,_,Z,h1,T.cH,T.iA,jD,mo,_,dm,_,_,Z,Si _ _ m1,T.iz,T.jt,j7,?_];dsimp only[aR,aN,L2.start];refine#[_,Z,c,_,dc,_,_,Z,c1,T.eG,T.qv,sR,nl,_,_,_,Z,Z,c2,bY (j:=0) Z,?_];dsimp only[aR,aN,L2.start];refine cX (!decide (0<=i/\i<m.columns.length)) (λR q'=>#[_,Z,_,Z,cl,_,Z,.inl (ao.of (Si _ _ m3)),i,_,Z,_,Z,?_]) ?_
 .rw[aJ,hol,<-sZ];exact q'
 by_cases hi:0<=i/\i<m.columns.length
 case neg=>
  rw[bO hi];refine bu #[cb,λt M=>qN hi _ t (ag.new M) M ?_]
  rw[aA];rfl
 rw[bX hi];refine br ?_;dsimp only[di,cN];obtain⟨k,rfl⟩:∃k:Nat,i=(k:Int):=#[i.toNat,by lia]
 have hk:k<m.columns.length:=by simp_all
 rw[cI] at q;refine#[_,Z,_,Z,c,_,dc,_,_,Z,c1,T.eG,T.m7,oO,h,dx,mo,rl,bl,ll,ras,ts,m,ls,ch,l,Hi,Z,hH,ax,c3,λH1 f=>?_];dsimp only[aR,aN];refine cX (!decide (refOf m l=0)) (λR q'=>#[_,Z,Z,_,Z,?_]) ?_
 .rw[show decide (V.int (refOf m l)=V.int 0)=decide (refOf m l=0) by rw[d9];exact#[λz=>by injection z,λz=>by rw[z]]]
  exact q'
 by_cases h0:refOf m l=0
 case neg=>
  rw[bO h0];refine bu #[_,Z,cb,λt M=>qR hi h0 _ t (f.trans (ag.new M)) (f.free M) ?_]
  rw[aA];rfl
 rw[bX h0];have q:=q hi h0;obtain⟨r1,r2⟩:=we h0;refine br ?_;dsimp only[di,cN];refine#[_,Z,_,Z,c,_,dc,_,_,Z,f _ _ c1,T.eG,T.m7,oO,h,dx,mo,rl,bl,ll,ras,ts,m,ls,ch,l,Hi,Z,hH.same f,ax,h6,hch,.inl (f.seq c3),r1,r2,λH2 x W B S2 hx hF hW=>?_];have I:=f.trans S2;rcases id hF with⟨fx,fr,fc,fw,ks,cs,f1,f2,f3,f4,f5,f6⟩;have hS:ao K H2 fw ((aO (aI (aq m) l) W).map (λ(n:Nat)=>(n:Int)) |>.map V.int):=by rw[<-m_];exact ao.of f6
 dsimp only[aR,aN];refine#[_,Z,x,_,fx,_,_,Z,f1,T.gQ,T.oG,qC,fw,_,Z,hS,?_];rw[BZ];dsimp only[aR,aN];refine cX (decide (sumTo (aI (aq m) l) W=0)) (λR q'=>#[_,Z,Z,_,Z,?_]) ?_
 .rw[show decide (V.int ((sumTo (aI (aq m) l) W:Nat):Int)=V.int 0)=decide (sumTo (aI (aq m) l) W=0) by rw[d9];exact#[λz=>by injection z with z;simp_all,λz=>by rw[z];rfl]]
  exact q'
 have q:=λH' t=>q H' t W B;by_cases hz:sumTo (aI (aq m) l) W=0
 .rw[bX hz];refine bu #[cb,λt M=>q _ t (I.trans (ag.new M)) (I.free M) hW ?_]
  rw[aA,aC hz];rfl
 rw[bO hz];refine br ?_;dsimp only[di,cN];have Y:=aY hk;generalize m.columns[k]=co at Y;have hsz:=vY Y;rcases((m4.same Si).same I).get Y with⟨o,ho,dx',nb',k',pp',e1,e2,e3,e4⟩;have hkd:=(ax k co Y).1;have hsp:=size_pos hkd;have hs5:=bF (wz _ (GX ax Y)) (ax k co Y).2.2.2.2;refine#[_,Z,_,Z,cl,_,_,_,Z,Z,ao.of ((Si.trans I) _ _ m3),bY ho,o,_,dx',_,_,Z,e1,T.ez,T.i5,jy,k',co.kind,Z,e3,hkd,?_];dsimp only[aR,aN];refine#[_,Z,cb,λt M=>?_]
 have St:ag H2 (upd H2 t (.lst [.int (aD co.kind:Nat)])):=ag.new M;obtain⟨ra,hra,hral⟩:=Paired.at_ f3 (cT (gk m l) hk);dsimp only[aR,aN];refine#[_,Z,x,_,fx,_,_,Z,St _ _ f1,T.gQ,T.Gj,Q_,_,Z,fr,_,_,_,Z,Z,ao.of (St _ _ f2),bY (by rw[bL,hra];rfl),_,Z,x,_,fx,_,_,Z,St _ _ f1,T.gQ,T.oG,qC,_,Z,ra,fw,aD co.kind,aI (aq m) l,λj=>rk m l j k,W,Z,ao.of (St _ _ hral),ao.of (St _ _ f6),by lia,?_,λH3 u3 S3 hu3 S=>?_]
 .exact λj hj=>by have:=OQ r1 hj hk;rw[iX Y] at this;exact this
 have S0t:=I.trans St;have ht0:=I.free M;have hut:=bG (bc aA hu3);have ht3:=S3 _ _ (aA (H:=H2) (a:=t) (o:=.lst [.int (aD co.kind:Nat)]));have hSp:0<sumTo (aI (aq m) l) W:=by lia
 have O:∀v,sY (v+1) (dZ (aI (aq m) l) (λj=>rk m l j k) W) (sumTo (aI (aq m) l) W)=sY v (dZ (aI (aq m) l) (λj=>rk m l j k) W) (sumTo (aI (aq m) l) W)++[(aW (dZ (aI (aq m) l) (λj=>rk m l j k) W v:Nat) (sumTo (aI (aq m) l) W)).num,((aW (dZ (aI (aq m) l) (λj=>rk m l j k) W v:Nat) (sumTo (aI (aq m) l) W)).den:Int)]:=λv=>by
  delta sY;rw[iY,Cp];simp
 have plen:∀v,(sY v (dZ (aI (aq m) l) (λj=>rk m l j k) W) (sumTo (aI (aq m) l) W)).length=2*v:=λv=>by
  induction v with
  |zero=>rfl
  |succ v ih=>rw[O,b6,ih];simp;rfl
 refine#[u3,Z,#[_,ao.of S],gf (a:=u3) (xs:=iV (aO (aD co.kind) (dZ (aI (aq m) l) (λj=>rk m l j k) W))) (λv g H'=>ag H (Wo H' t)/\H' u3=aa (.lst (iV (aO (aD co.kind) (dZ (aI (aq m) l) (λj=>rk m l j k) W))))/\H' t=aa (.lst (nV ((aD co.kind:Int)::sY v (dZ (aI (aq m) l) (λj=>rk m l j k) W) (sumTo (aI (aq m) l) W))))/\∃v9,g=[aa (.ref h),aa (.ref c),aa (.ref cl),aa (.int (k:Nat)),aa (.int (refOf m l)),aa (.ref x),aa (.int (sumTo (aI (aq m) l) W:Nat)),aa (.int (aD co.kind:Nat)),aa (.ref t),v9]) #[λb u e=>aQ (bc e ht0) (S3 _ _ (S0t _ _ e)),S,ht3,_,Z] (λv g H' r ⟨_,hu,_⟩=>ao.of hu) ?_ ?_]
 .rintro v y g H4 hy ⟨S4,hu4,J,v9,rfl⟩;obtain⟨y,U,rfl⟩:=gS hy;have hv:v<aD co.kind:=by have:=(bx.mp U).1;rw[b5] at this;exact this
  rw[cT _ hv] at U;obtain rfl:=bf U;dsimp only[aN];refine#[_,Z,.inl #[Z,_,ao.of J],_,Z,_,Z,_,_,Z,hSp,λp hp=>#[t,p,_,_,Z,Z,ag.new hp _ _ J,aA,?_,?_]]
  .delta nV;rw[aJ,bP,plen,bQ];show 2*v+1+2<=_;lia
  .refine#[λb u e=>?_,?_,?_,_,Z]
   .obtain⟨e5,e6⟩:=bh (S4 _ _ e);exact aQ e5 (by rw[aB e5];exact ag.new hp _ _ e6)
   .rw[aB hut];exact ag.new hp _ _ hu4
   .rw[aA,O,sV _ _ hSp];delta nV;rw[<-uH,bR];rfl
 .rintro g H4 ⟨S4,hu4,J,v9,rfl⟩;rw[cY,b5] at J;refine#[_,Z,q H4 t (S4.trans cU) ht0 hW ?_];rw[aw hz,hsz];exact J
end
theorem RM{b}:∀{L:List (List Nat)},(∀x∈L,x.length<=b)->L.flatten.length<=L.length*b
 |[],_=>by simp
 |x::L,h=>by
  have I:=h x bH;have E:=RM λy A=>h y (bI _ A);rw[wt,b6,bP,uO];lia
section
variable {w:aS}{base:aU}
inductive RN(a:Ad)(K:aP)(vs:List V)(H:Hp)(Q:VK)(x_0:XK):Prop|m:∀(h dx mo rl bl c:af)(ras ts:List af)(m:dz)(ls:List (List Int))(ch:List cx)(n e i:Int)(nums l:List Int)(Hi:Hp),vs=[.ref h,.ref c]->gU a K H Hi h dx mo rl bl ras ts m ls ch->kb a K H c n (i::nums) l e->cO m.columns->(∀l∈ls,cG (aq m) l)->ls.length<=1000->(¬(0<=i/\i<m.columns.length)->∀H' t,ag H H'->H t=ae->H' t=aa (.lst (nV [-2]))->Q (.ref t) H')->(∀(k:Nat)(co:Column),i=(k:Int)->m.columns[k]? =aa co->∀H' t,ag H H'->H t=ae->H' t=aa (.lst (iV (bw m.columns co.parents::aD co.kind::(eQ m.columns k co ls).flatten)))->Q (.ref t) H')->RN a K vs H Q x_0
theorem aa8(T:TX K mg a d):aV P w K mg base bo 44 a.lQ d.lQ ["held","call"] (RN a K):=by
 refine T.lQ.ok bE λnD cdv A outer s H vs Q E hr h=>?_;obtain⟨h,dx,mo,rl,bl,c,ras,ts,m,ls,ch,n,e,i,nums,l,Hi,rfl,hH,⟨dc,nl,ll,c1,c2,c3⟩,ax,hro,f,qN,q⟩:=h;refine#[_,(ay (aM 2 (aK (aK (pv 0) Z) Z))
   (ay (aM 3 (bt b8 (aK (pv 1) Z) aX))
   (ay (cy (lr (eZ (a_ T.kJ (vS T) (ah (pv 3) (ah (cz (c8) Z T.de c_ (ah (pv 2) ak)) ak))) (λp=>Z))) (aF (aZ (bU (ah (bZ Z T.yd) ak)))) cC)
   (ay (aM 4 (a_ T.oB (GL T) (ah (pv 2) (ah (pv 3) ak))))
   (ay (du dM Z (d_ (a_ T.mU (Q3 T) (ah (pv 2) (ah (pv 3) (ah (aK (pv 0) Z) ak))))) (bJ 5) (aF (dU (eP eO rj vc EJ (pv 4) (ah (pv 5) ak)))))
   (aF (aZ (pv 4)))))))),?_]
 rcases id hH with⟨h1,⟨dm,tb,cl,os,m1,m2,m3,m4⟩,h3,h4,h5,h6',O⟩;have hol:=bS m4;refine#[_,Z,h,_,dx,_,_,Z,h1,T.cH,T.iA,jD,mo,_,dm,_,_,Z,O _ _ m1,T.iz,T.jt,j7,?_];dsimp only[aR,aN,L2.start];refine#[_,Z,c,_,dc,_,_,Z,c1,T.eG,T.qv,sR,nl,_,_,_,Z,Z,c2,bY (j:=0) Z,?_];dsimp only[aR,aN,L2.start];refine cX (!decide (0<=i/\i<m.columns.length)) (λR q'=>#[_,Z,_,Z,cl,_,Z,.inl (ao.of (O _ _ m3)),i,_,Z,_,Z,?_]) ?_
 .rw[aJ,hol,<-sZ];exact q'
 by_cases hi:0<=i/\i<m.columns.length
 case neg=>
  rw[bO hi];refine bu #[cb,λt U=>qN hi _ t (ag.new U) U ?_]
  rw[aA];rfl
 rw[bX hi];refine br ?_;dsimp only[di,cN];obtain⟨k,rfl⟩:∃k:Nat,i=(k:Int):=#[i.toNat,by lia]
 have hk:k<m.columns.length:=by simp_all
 have J:=aY hk;generalize m.columns[k]=co at J;have q:=q k co Z J;have k5:=(ax k co J).2.2.2.2;have hgp:=GX ax J;have hsp:=(size_pos (ax k co J).1).1;refine#[_,Z,_,Z,cl,k,os,m.columns,co,Z,ao.of (O _ _ m3),m4.same O,ax.cV,J,λj hj=>gy ((ax k co J).2.2.1 j hj) hk,λt U=>?_];have St:ag H (upd H t (.lst [.int (bw m.columns co.parents:Nat),.int (aD co.kind:Nat)])):=ag.new U;dsimp only[aR,aN,L2.start];refine#[_,Z,_,Z,_,Z,h,_,dx,_,_,Z,St _ _ h1,T.cH,T.kM,nc,cl,rl,k,os,ras,m.columns,co,ls,Z,ao.of (St _ _ (O _ _ m3)),(m4.same O).same St,ax,J,ao.of (St _ _ h3),(h4.same O).same St,hro,f,λH2 u gs S2 hu Y hgs hgf=>?_];have hut:=bG (bc aA hu);have ht2:=S2 _ _ (aA (H:=H) (a:=t) (o:=.lst [.int (bw m.columns co.parents:Nat),.int (aD co.kind:Nat)]));have hgl:=bS hgs;have hgt:=λg hg=>bG (bc aA (hgf g hg));have hcl:(eQ m.columns k co ls).length=bw m.columns co.parents:=x5;refine#[u,Z,#[_,ao.of Y],gf (a:=u) (xs:=gs.map V.ref) (λv r H'=>ag (Wo H2 t) H'/\H' t=aa (.lst (iV (bw m.columns co.parents::aD co.kind::((eQ m.columns k co ls).take v).flatten)))/\∃v5,r=[aa (.ref h),aa (.ref c),aa (.ref cl),aa (.int (k:Nat)),aa (.ref t),v5]) #[cU,ht2,_,Z] (λv r H' p ⟨S,_⟩=>ao.of (S _ _ (aQ hut Y))) ?_ ?_]
 .rintro v y r H4 hy ⟨S4,I,v5,rfl⟩;have hv:v<(eQ m.columns k co ls).length:=by have:=(bx.mp hy).1;rw[aJ] at this;simp_all
  have M:=aY hv;have hcm:=(Bm _ (ff hv)).1;generalize(eQ m.columns k co ls)[v]=cnt at M hcm;obtain⟨g,hg,hgl'⟩:=Paired.at_ hgs M;obtain rfl:y=V.ref g:=by rw[bL,hg] at hy;exact(bf hy).symm
  have hgne:=hgt g (dg hg);dsimp only[aN];refine#[_,Z,.inl #[Z,_,ao.of I],_,Z,t,g,_,_,Z,Z,I,S4 _ _ (aQ hgne hgl'),?_,λb z e=>?_,?_,_,Z]
  .have hfl:=RM (b:=aD co.kind) (L:=(eQ m.columns k co ls).take v) λx hx=>by rw[(Bm x (qH hx)).1];exact bb _
   have hvl:((eQ m.columns k co ls).take v).length<=bw m.columns co.parents:=by rw[gw];lia
   have h9:=ja (aD co.kind) hvl;have h8:=bF (wz _ hgp) k5;rw[d5 (bw m.columns co.parents)] at h9;rw[cY,cY,bP,bP,hcm,bQ];lia
  .obtain⟨e1,e2⟩:=bh e;rw[aB e1];exact S4 _ _ e
  .rw[aA,take_snoc M,Cp];delta iV;simp
 .rintro r H4 ⟨S4,I,v5,rfl⟩;rw[aJ,hgl,eV] at I;refine#[_,Z,q H4 t (λb z e=>S4 _ _ (aQ (bc e U) (S2 _ _ (St _ _ e)))) U I]
end
inductive RO(sp:Sp)(vs:List V)(H:Hp)(Q:VK)(E:XK):Prop|m:∀tl xs,H tl=aa (.lst xs)->(sp vs (Wo H tl) (λv H'=>H' tl=ae->Q v (upd H' tl (.lst xs))) E)->RO sp vs H Q E
theorem aa9{w:aS}{base:aU}{fd:kl}{ps:List au}{sp:Sp}(F:aV P w K mg base bo k f fd ps sp):aV P w K mg base bo k f fd ps (RO sp):=by
 refine#[λvs H Q E ⟨M,xs,_,q⟩=>F.len _ _ _ _ q,λA outer s H args us vs Q E hr R S hv ⟨M,xs,J,q⟩=>?_];have hw:∀b,H b=ae->Wo H M b=ae:=λb e=>by
  delta Wo
  split
  .rfl
  .exact e
 obtain⟨z,Y,n,r,eo⟩:=R.ax M _ J;have U:Wo H M M=ae:=by delta Wo;rw[aC Z]
 have a:M∉jO outer:=λh=>by rw[R.jP M h] at J;cases J
 have he':rP P w K mg base A outer s (Wo H M):=#[R.frames,R.mod,λb o e=>#[(R.bs b o e).1,hw b (R.bs b o e).2],R.jj,R.gd,λb S=>hw b (R.jP b S),
  λb o e=>(R.ax b o (bh e).2).ij (λx x x q=>q) (λc g=>aQ (λz=>by rw[z,J] at g;cases g) g) (λc x g=>aQ (λz=>by rw[z,J] at g;cases g) g),R.bare]
 refine o9 (F.run A outer s (Wo H M) args us vs _ E hr he' S hv q) λres s' O=>?_;cases res with
 |error e=>exact O
 |ok f=>
  cases f with
  |next=>exact O
  |brk=>exact O
  |cont=>exact O
  |ret u=>
   obtain⟨v,H',e1,e2,T,e4,e5,q⟩:=O;have hn:H' M=ae:=T.free M _ eo U (by simp)
   refine#[v,upd H' M (.lst xs),e1,e2,#[λb o S n=>T.keep b o S (hw b n),λb o S n=>T.slot b o S (hw b n),λb o S n hx=>?_,T.there,λb ys h=>?_,λb o u h=>?_,λb ps h=>?_],λb o e=>?_,e5,q hn]
   .have I:b≠M:=λz=>by subst z;rw[J] at n;cases n
    rw[aB I];exact T.free b o S (hw b n) hx
   .have I:b≠M:=λz=>by subst z;rw[J] at h;cases h
    rw[aB I];exact T.jM b ys (aQ I h)
   .have I:b≠M:=λz=>by subst z;rw[J] at h;cases h
    rw[aB I];exact T.iN b o u (aQ I h)
   .have I:b≠M:=λz=>by subst z;rw[J] at h;cases h
    rw[aB I];exact T.jN b ps (aQ I h)
   .by_cases I:b=M
    .subst I;rw[aA] at e;obtain rfl:=bf e;exact#[z,Y,n,r,T.keep b _ eo U a (by simp)]
    .rw[aB I] at e;have V:∀c u,H' c=aa u->c≠M:=λc u h z=>by subst z;rw[hn] at h;cases h
     exact(e4 b o e).ij (λx x x q=>q) (λc q=>by rw[aB (V c _ q)];exact q) (λc x q=>by rw[aB (V c _ q)];exact q)
def Sep(Hi:Hp)(rl bl:af)(ts:List af):Prop:=Hi rl=ae/\Hi bl=ae/\rl≠bl/\ts.Nodup/\∀t∈ts,Hi t=ae/\t≠rl/\t≠bl
def HOK(x:jh)(ls:List (List Int)):Prop:=r9 x.model/\gN x.model.columns x.chances/\x.data=ls.map (rowOf (aq x.model))/\ls.length<=100/\∀l∈ls,cG (aq x.model) l/\aI (aq x.model) l<=1024
def HS(a:Ad)(K:aP)(H Hi:Hp)(h:af)(s:nH):Prop:=ag Hi H/\Hi h=ae/\match s with
 |none=>∃dx rl bl,H h=aa (.ins a.Held dx (dQ [.bB,.ref rl,.ref bl]))
 |some x=>∃dx mo rl bl ras ts ls,gU a K H Hi h dx mo rl bl ras ts x.model ls x.chances/\Sep Hi rl bl ts/\HOK x ls
theorem HS.same{s:nH}(S:ag H H')(x:HS a K H Hi h s):HS a K H' Hi h s:=by
 obtain⟨J,I,A⟩:=x;refine#[J.trans S,I,?_];cases s with
 |none=>rcases A with⟨dx,rl,bl,e⟩;exact#[dx,rl,bl,S _ _ e]
 |some x=>rcases A with⟨dx,mo,rl,bl,ras,ts,ls,E,r⟩;exact#[dx,mo,rl,bl,ras,ts,ls,E.same S,r]
def qD(a:Ad)(K:aP)(h:af)(H Hi:Hp)(r:nH×vn)(Q:VK):Prop:=∀H' A t,ag Hi A->HS a K H' A h r.1->H t=ae->H' t=aa (.lst (nV (iM r.2)))->Q (.ref t) H'
theorem qD.keep{s:nH}{r:nH×vn}(q:qD a K h H Hi r Q)(I:HS a K H Hi h s)(hr:r.1=s){t:af}(S:ag H H')(E:H t=ae)(A:H' t=aa (.lst (nV (iM r.2)))):Q (.ref t) H':=
 q H' Hi t (ag.refl _) (by rw[hr];exact I.same S) E A
inductive gX(a:Ad)(K:aP)(R:List Int->List Int->z7->Prop)(vs:List V)(H:Hp)(Q:VK)(x_0:XK):Prop|m:∀(h c:af)(Hi:Hp)(n e:Int)(nums l:List Int)(x:jh)(k:z7),vs=[.ref h,.ref c]->HS a K H Hi h (aa x)->kb a K Hi c n nums l e->R nums l k->qD a K h H Hi (eI (aa x) k) Q->gX a K R vs H Q x_0
theorem RP(m:dz)(l:List Int):(px (aq m) l=ae/\refOf m l=-3)\/(px (aq m) l=aa (rowOf (aq m) l)/\((1024<ie (aq m) (rowOf (aq m) l)/\refOf m l=-8)\/(¬1024<ie (aq m) (rowOf (aq m) l)/\refOf m l=0))):=by
 delta refOf;rw[show cV m.columns=aq m from Z];cases E:px (aq m) l with
 |none=>exact .inl #[Z,Z]
 |some r=>
  have I:rowOf (aq m) l=r:=by delta rowOf;rw[E];rfl
  rw[I];refine .inr #[Z,?_]
  try dsimp only
  by_cases A:1024<ie (aq m) r
  .exact .inl #[A,aC A]
  .exact .inr #[A,aw A]
theorem yA(x:jh)(l:List Int)(f:K7->vn):xc x l f=if refOf x.model l=0 then f (rowOf (aq x.model) l) else xg (refOf x.model l):=by
 delta xc;rcases RP x.model l with⟨E,A⟩|⟨E,⟨I,A⟩|⟨I,A⟩⟩
 .rw[E,A,aw (by decide)]
 .rw[E,A,aw (by decide)]
  exact aC I
 .rw[E,A,aC Z];exact aw I
theorem G2{x:jh}{i:Int}(f:Nat->vn)(h:¬(0<=i/\i<x.model.columns.length)):rD x i f=xg (-2):=by
 delta rD Aa;rw[aw h]
theorem B6{x:jh}(f:Nat->vn)(h:k<x.model.columns.length):rD x (k:Int) f=f k:=by
 delta rD Aa;rw[aC #[by simp,by simp_all]]
 rfl
theorem aa_(x:jh)(l:List Int):yz x.model x.chances l=iM (xc x l λr=>Lc (xh x.model x.chances r)):=by
 rw[yA];delta yz
 split<;>rfl
theorem aba{x:jh}(hx:HOK x ls){co:Column}(E:x.model.columns[k]? =aa co):iV (bw x.model.columns co.parents::aD co.kind::(eQ x.model.columns k co ls).flatten)=nV (iM (z9 x k)):=by
 rcases hx with⟨J,I,hd,M,A⟩;delta z9 iM
 try dsimp only
 rw[hd,OE J.2.2.1 E λl h=>(A l h).1,x5,iX E,m_];show nV _=nV _
 congr 1
 rw[b7,b7,List.map_flatten];rfl
theorem abb{E A:Type}(l:List E)(f:E->List A)(g:Nat->List A)(h:∀i x,l[i]? =aa x->f x=g i):l.flatMap f=(aO l.length g).flatten:=by
 rw[Cn,x4 l f g h]
theorem abc{x:jh}(R:refOf x.model l=0)(A:fN x.model x.chances l W B)(I:k<x.model.columns.length):
  (if sumTo (aI (aq x.model) l) W=0 then[-6] else(dA x.model.columns k:Int)::sY (dA x.model.columns k) (dZ (aI (aq x.model) l) (λj=>rk x.model l j k) W) (sumTo (aI (aq x.model) l) W))=iM (Eg x k (rowOf (aq x.model) l)):=by
 obtain⟨E,S⟩:=we R;delta Eg
 try dsimp only
 have J:=A.1;by_cases hz:sumTo (aI (aq x.model) l) W=0
 .rw[aC hz,aC (by rw[Bw E A,vP J];simp_all)]
  rfl
 .rw[aw hz,aw (by rw[Bw E A,vP J];simp_all)]
  have O:0<sumTo (aI (aq x.model) l) W:=by lia
  have e:(VaprbBase.valuesOf (Vaprbp.kindOf x.model k)).flatMap (λv=>kv ((ib (((Ek x.model x.chances (rowOf (aq x.model) l)).filter λx=>Vaprbp.valAt x.1 k==v).map λx=>x.2)).div (ib ((Ek x.model x.chances (rowOf (aq x.model) l)).map λx=>x.2))))=sY (dA x.model.columns k) (dZ (aI (aq x.model) l) (λj=>rk x.model l j k) W) (sumTo (aI (aq x.model) l) W):=by
   rw[vM I];refine abb _ _ _ λb v M=>?_;rw[YA E A O I M];rfl
  delta iM
  try dsimp only
  rw[e,vM I]
theorem abd{x:jh}(h0:refOf x.model l=0){J E:Nat}(U:fN x.model x.chances l W B)(Z:∀j,j<aI (aq x.model) l->W j<=J)(M:E<aI (aq x.model) l)(Y:W E=J)(V:∀j,j<E->W j≠J):
  G1 x.model l W B J E=iM (Ed x (rowOf (aq x.model) l)):=by
 obtain⟨I,r2⟩:=we h0;obtain⟨b1,rest,b2⟩:=YB I U Z M Y V;delta Ed iM G1
 try dsimp only
 rw[b1,b2]
 try dsimp only
 have e:(er (aq x.model) l E).map my=aO x.model.columns.length λi=>lL x.model.columns i+ (rk x.model l E i:Int):=by
  by_cases S:x.model.columns.length=0
  .have A:(er (aq x.model) l E).length=(aq x.model).length:=by
    obtain⟨vs,g1,R,_⟩:=Bq (aq x.model) (rowOf (aq x.model) l) E I.Bl M;delta er;rw[g1];exact R
   have:(aq x.model).length=0:=by delta Vaprbp.kinds;rw[aJ];exact S
   rw[this] at A;rw[Cu.mp A,S];rfl
  .have A:=(sg I M (i:=0) (by lia)).1
   have:=x4 (er (aq x.model) l E) my (λi=>lL x.model.columns i+ (rk x.model l E i:Int)) λi v O=>?_
   .rw[this,A]
   .have T:i<x.model.columns.length:=by have:=(bx.mp O).1;simp_all
    obtain⟨_,R,g3,_⟩:=sg I M T;rw[R] at O;obtain rfl:=bf O;rw[(n6 g3).2.2,OA T];rfl
 rw[e];rfl
section
variable {w:aS}{base:aU}
theorem abe(T:TX K mg a d)(V:P.given.tree=ae):aV P w K mg base bo 46 a.lR d.lR ["held","call"] (gX a K λy l k=>k=.chance l):=
 (aa4 T V).imp λvs H Q E ⟨h,c,Hi,n,e,nums,l,x,k,ev,M,b,U,q⟩=>by
  subst U;rcases id M with⟨S,hh,dx,mo,rl,bl,ras,ts,ls,Y,sep,J,A,hd,hl,R⟩;exact#[h,dx,mo,rl,bl,c,ras,ts,x.model,ls,x.chances,n,e,nums,l,Hi,ev,Y,b.same S,J.2.2.1,J.2.1,A,λH' t S' O I=>q.keep M Z S' O (by rw[I,aa_];rfl)]
theorem abf(T:TX K mg a d):aV P w K mg base bo 44 a.lP d.lP ["held","call"] (gX a K λy y k=>k=.shown):=
 (aa5 T).imp λvs H Q E ⟨h,c,Hi,n,e,nums,l,x,k,Y,J,hC,U,q⟩=>by
  subst U;rcases id J with⟨S,hh,dx,mo,rl,bl,ras,ts,ls,V,sep,I,M,hd,hl,R⟩;exact#[h,dx,mo,rl,bl,c,ras,ts,x.model,ls,x.chances,Hi,Y,V,I,by have:=I.Oj;lia,λH' t b O A=>q.keep J Z b O A]
theorem abg(T:TX K mg a d):aV P w K mg base bo 44 a.lQ d.lQ ["held","call"] (gX a K λnums y k=>∃i,nums=[i]/\k=.counts i):=
 (aa8 T).imp λvs H Q E ⟨h,c,Hi,n,e,nums,l,x,k,ev,O,hC,b,q⟩=>by
  obtain⟨i,rfl,rfl⟩:=b;rcases id O with⟨S,hh,dx,mo,rl,bl,ras,ts,ls,hH,sep,hx⟩;obtain⟨Y,V,hd,hl,J⟩:=id hx;refine#[h,dx,mo,rl,bl,c,ras,ts,x.model,ls,x.chances,n,e,i,[],l,Hi,ev,hH,hC.same S,Y.2.2.1,λl h=>(J l h).1,by lia,λhi H' t R I A=>q.keep O Z R I ?_,λk co M U H' t R I A=>q.keep O Z R I ?_]
  .rw[A,show(eI (aa x) (.counts i)).2=rD x i (z9 x) from Z,G2 _ hi];rfl
  .subst M;rw[A,aba hx U,show(eI (aa x) (.counts k)).2=rD x k (z9 x) from Z,B6 _ (bx.mp U).1]
theorem abh(T:TX K mg a d)(hP:P.given.tree=ae):aV P w K mg base bo 46 a.lS d.lS ["held","call"] (gX a K λnums l k=>∃i,nums=[i]/\k=.post i l):=
 (aa7 T hP).imp λvs H Q E ⟨h,c,Hi,n,e,nums,l,x,k,ev,O,hC,hk,q⟩=>by
  obtain⟨i,rfl,rfl⟩:=hk;rcases id O with⟨S,hh,dx,mo,rl,bl,ras,ts,ls,hH,sep,hx⟩;obtain⟨Y,J,hd,hl,b⟩:=id hx;have V:(eI (aa x) (.post i l)).2=rD x i λi=>xc x l λr=>Eg x i r:=Z;refine#[h,dx,mo,rl,bl,c,ras,ts,x.model,ls,x.chances,n,e,i,[],l,Hi,ev,hH,hC.same S,Y.2.2.1,Y.2.1,J,λU H' t M I A=>q.keep O Z M I ?_,λU R H' t M I A=>q.keep O Z M I ?_,λU R H' t W B M I hW A=>q.keep O Z M I ?_]
  .rw[A,V,G2 _ U];rfl
  .obtain⟨k,rfl⟩:∃k:Nat,i=(k:Int):=#[i.toNat,by lia]
   rw[A,V,B6 _ (by simp_all),yA,aw R];rfl
  .obtain⟨k,rfl⟩:∃k:Nat,i=(k:Int):=#[i.toNat,by lia]
   rw[cI] at A;rw[A,V,B6 _ (by simp_all),yA,aC R,abc R hW (by simp_all)]
theorem abi(T:TX K mg a d)(hP:P.given.tree=ae):aV P w K mg base bo 46 a.lT d.lT ["held","call"] (gX a K λy l k=>k=.fill l):=
 (aa6 T hP).imp λvs H Q E ⟨h,c,Hi,n,e,nums,l,x,k,ev,O,hC,b,q⟩=>by
  subst b;rcases id O with⟨S,hh,dx,mo,rl,bl,ras,ts,ls,hH,sep,hx⟩;obtain⟨U,I,hd,hl,Y⟩:=id hx;have V:(eI (aa x) (.fill l)).2=xc x l λr=>Ed x r:=Z;refine#[h,dx,mo,rl,bl,c,ras,ts,x.model,ls,x.chances,n,e,nums,l,Hi,ev,hH,hC.same S,U.2.2.1,U.2.1,I,λJ H' t R M A=>q.keep O Z R M ?_,λJ H' t W B mx j0 R M hW g1 g2 g3 g4 A=>q.keep O Z R M ?_]
  .rw[A,V,yA,aw J];rfl
  .rw[A,V,yA,aC J,abd J hW g1 g2 g3 g4]
end
theorem eA.at_{cs}(h:eA H Hi ts cs)(k:∀t∈ts,∀xs,H t=aa (.lst xs)->H' t=aa (.lst xs)):eA H' Hi ts cs:=Paired.mapM h λt c A ⟨gs,I,E⟩=>#[gs,k t A _ I,E]
theorem gU.rows(x:gU a K H Hi h dx mo rl bl ras ts m ls ch)(sp:Sep Hi rl bl ts){ras'}{ls'}(hr:qB K Hi ras' ls'):
  gU a K (upd H rl (.lst (ras'.map V.ref))) Hi h dx mo rl bl ras' ts m ls' ch:=by
 obtain⟨I,c,E,h4,Y,U,T⟩:=x;obtain⟨O,s2,M,s4,J⟩:=sp;have A:h≠rl:=λz=>by subst z;rw[I] at E;cases E
 refine#[by rw[aB A];exact I,c,aA,hr,by rw[aB (bG M)];exact Y,U.at_ λt R xs e=>by rw[aB (J t R).2.1];exact e,λb u e=>?_]
 have S:b≠rl:=λz=>by subst z;rw[O] at e;cases e
 rw[aB S];exact T _ _ e
theorem abj x l:Eh x l=if refOf x.model l=0 then(if 100<=x.data.length then(aa x,xg (-4)) else(aa {x with data:=x.data++[rowOf (aq x.model) l]},{value:=x.data.length})) else(aa x,xg (refOf x.model l)):=by
 delta Eh;rcases RP _ l with⟨E,A⟩|⟨E,⟨I,A⟩|⟨I,A⟩⟩
 .rw[E,A,aw (by decide)]
 .rw[E,A,aw (by decide)]
  exact aC I
 .rw[E,A,aC Z];exact aw I
theorem G3{A E:Type}(f:A->E):∀(l:List A) k,(l.map f).eraseIdx k=(l.eraseIdx k).map f
 |[],_=>Z
 |_::_,0=>Z
 |x::l,k+1=>by rw[b7,Hr,Hr,b7,G3 f l k]
theorem Paired.erase{E A}{F}:∀{l:List E}{m:List A}{k},Paired F l m->Paired F (l.eraseIdx k) (m.eraseIdx k)
 |_,_,_,.nil=>.nil
 |_,_,0,.cons _ r=>r
 |_,_,k+1,.cons h r=>.cons h (Paired.erase r)
theorem abk(h:k<n):wO k n=aa k:=by
 have A:¬((k:Int)<0):=by simp
 delta wO;simp only[aw A];rw[aC (by rw[fQ,fD,fD];simp_all),cI]
section
variable {w:aS}{base:aU}
theorem abl(T:TX K mg a d):aV P w K mg base bo 44 a.oh d.oh ["held","call"] (gX a K λy l k=>k=.row l):=by
 refine T.oh.ok bE λnD cdv A outer s H vs Q E hr h=>?_;rcases h with⟨h,c,Hi,n,e,nums,l,x,k,rfl,hS,hC,rfl,q⟩;rcases id hS with⟨S,hh,dx,mo,rl,bl,ras,ts,ls,hH,sep,hx⟩;rcases id hx with⟨md,chok,hd,hl,hro⟩;rcases hC with⟨dc,nl,ll,c1,c2,c3⟩;have C1:=S _ _ c1;have C3:=S.seq c3;have hdl:x.data.length=ls.length:=by rw[hd,aJ]
 rw[show eI (aa x) (.row l)=Eh x l from Z,abj,hdl] at q;refine#[_,(ay (aM 2 (a_ T.mY (B5 T) (ah (pv 0) (ah (aK (pv 1) Z) ak))))
   (ay (cy (b9 jR (pv 2) aX (cu _)) (aF (aZ (bU (ah (pv 2) ak)))) cC)
   (ay (cy (b9 mG (cz (c8) Z T.de c_ (ah (aK (pv 0) Z) ak)) (bZ Z T.Y9) (cu _)) (aF (aZ (bU (ah (bZ Z T.Y6) ak)))) cC)
   (ay (dU (eP eO je jf jl (aK (pv 0) Z) (ah (aK (pv 1) Z) ak)))
   (aF (aZ (bU (ah (bg rO (cz (c8) Z T.de c_ (ah (aK (pv 0) Z) ak)) aX) ak)))))))),?_]
 refine#[_,Z,_,Z,c,_,dc,_,_,Z,C1,T.eG,T.m7,oO,h,dx,mo,rl,bl,ll,ras,ts,x.model,ls,x.chances,l,Hi,Z,hH,md.2.2.1,C3,λH1 U=>?_];dsimp only[aR,aN,L2.start];refine cX (!decide (refOf x.model l=0)) (λR q'=>#[_,Z,Z,_,Z,?_]) ?_
 .rw[show decide (V.int (refOf x.model l)=V.int 0)=decide (refOf x.model l=0) by rw[d9];exact#[λz=>by injection z,λz=>by rw[z]]]
  exact q'
 by_cases b:refOf x.model l=0
 case neg=>
  rw[bO b];rw[aw b] at q;refine bu #[_,Z,cb,λt J=>q.keep hS Z (U.trans (ag.new J)) (U.free J) ?_]
  rw[aA];rfl
 rw[bX b];rw[aC b] at q;obtain⟨r1,r2⟩:=we b;refine br ?_;dsimp only[di,cN];have Y:=hH.same U;rcases id Y with⟨h1,h2,h3,h4,h5,h6,h7⟩;have O:=bS h4;refine cX (decide (100<=ls.length)) (λR q'=>#[_,Z,h,_,dx,_,_,Z,h1,T.cH,T.kM,nc,rl,_,Z,.inl (ao.of h3),Z,_,Z,?_]) ?_
 .rw[show decide (V.int ((ras.map V.ref).length:Nat)=V.int 100)=decide (100<=ls.length) by rw[d9,aJ,O];exact#[λz=>by injection z with z;lia,λz=>by rw[show ls.length=100 by lia];rfl]]
  exact q'
 by_cases hF:100<=ls.length
 case pos=>
  rw[bX hF];rw[aC hF] at q;refine bu #[cb,λt J=>q.keep hS Z (U.trans (ag.new J)) (U.free J) ?_]
  rw[aA];rfl
 rw[bO hF];rw[aw hF] at q;refine br ?_;dsimp only[di,cN];refine#[_,Z,h,_,dx,_,_,Z,h1,T.cH,T.kM,nc,.inl #[Z,_,ao.of h3],_,Z,c,_,dc,_,_,Z,U _ _ C1,T.eG,T.m7,oO,rl,_,_,Z,Z,h3,by rw[aJ,O,bQ];lia,?_]
 have M:=Y.rows sep (ras':=ras++[ll]) (ls':=ls++[l]) (eX h4 c3);rw[bR] at M;have e1:=M.1;refine#[_,Z,h,_,dx,_,_,Z,e1,T.cH,T.kM,nc,rl,_,Z,.inl (ao.of aA),_,_,Z,Z,cb,λt J=>?_]
 have htr:t≠rl:=λz=>by subst z;rw[aA] at J;cases J
 have ht1:=by rw[aB htr] at J;exact J
 refine q _ Hi t (ag.refl _) ?_ (U.free ht1) ?_
 .refine HS.same (ag.new J) #[M.2.2.2.2.2.2,hh,dx,mo,rl,bl,ras++[ll],ts,ls++[l],M,sep,md,chok,?_,?_,λl' I=>?_]
  .show x.data++[rowOf (aq x.model) l]=(ls++[l]).map (rowOf (aq x.model));rw[hd,bR];rfl
  .rw[b6,kT];lia
  .obtain I|I:=df.mp I
   .exact hro l' I
   .rw[cj] at I;subst I;exact#[r1,r2]
 .rw[aA];show aa (HO.lst [V.int (((ras.map V.ref++[V.ref ll]).length:Nat)-1)])=aa (HO.lst [V.int (ls.length:Nat)]);rw[b6,aJ,O,kT];rw[show(((ls.length+1:Nat):Int)-1)=(ls.length:Nat) by simp]
theorem abm(T:TX K mg a d):aV P w K mg base bo 44 a.oj d.oj ["held","call"] (gX a K λnums y k=>∃i,nums=[i]/\k=.drop i):=by
 refine T.oj.ok bE λnD cdv A outer s H vs Q E hr h=>?_;rcases h with⟨h,c,Hi,n,e,nums,l,x,k,rfl,hS,hC,⟨i,rfl,rfl⟩,q⟩;rcases id hS with⟨S,hh,dx,mo,rl,bl,ras,ts,ls,hH,sep,hx⟩;rcases id hx with⟨md,U,hd,hl,hro⟩;rcases hC with⟨dc,nl,ll,c1,c2,c3⟩;have hdl:x.data.length=ls.length:=by rw[hd,aJ]
 rcases id hH with⟨h1,h2,h3,h4,h5,h6,h7⟩;have M:=bS h4;rw[show eI (aa x) (.drop i)=K_ x i from Z] at q;delta K_ Aa at q;rw[hdl] at q;refine#[_,(ay (aM 2 (bt b8 (aK (pv 1) Z) aX))
   (ay (cy (lr (eZ (a_ T.kJ (vS T) (ah (pv 2) (ah (cz (c8) Z T.de c_ (ah (aK (pv 0) Z) ak)) ak))) (λy=>Z))) (aF (aZ (bU (ah (bZ Z T.yd) ak)))) cC)
   (ay (dU (eP eO PySem.F.slot_list_pop PySem.F.type_list_pop UQ (aK (pv 0) Z) (ah (pv 2) ak)))
   (aF (aZ (bU (ah (cz (c8) Z T.de c_ (ah (aK (pv 0) Z) ak)) ak))))))),?_]
 refine#[_,Z,c,_,dc,_,_,Z,S _ _ c1,T.eG,T.qv,sR,nl,_,_,_,Z,Z,S.seq c2,bY (j:=0) Z,?_];dsimp only[aR,aN,L2.start];refine cX (!decide (0<=i/\i<(ls.length:Int))) (λR q'=>#[_,Z,_,Z,h,_,dx,_,_,Z,h1,T.cH,T.kM,nc,rl,_,Z,.inl (ao.of h3),i,_,Z,_,Z,?_]) ?_
 .rw[aJ,M,<-sZ];exact q'
 by_cases Y:0<=i/\i<(ls.length:Int)
 case neg=>
  rw[bO Y];rw[aw Y] at q;refine bu #[cb,λt I=>q.keep hS Z (ag.new I) I ?_]
  rw[aA];rfl
 rw[bX Y];rw[aC Y] at q;refine br ?_;dsimp only[di,cN] at q⊢;obtain⟨k,rfl⟩:∃k:Nat,i=(k:Int):=#[i.toNat,by lia]
 have hk:=by omega
 rw[cI] at q;have O:k<(ras.map V.ref).length:=by rw[aJ];simp_all
 refine#[_,Z,h,_,dx,_,_,Z,h1,T.cH,T.kM,nc,.inl #[Z,_,ao.of h3],_,Z,rl,_,_,k,_,Z,Z,h3,by simp,by lia,abk O,aY O,?_]
 have J:=hH.rows sep (ras':=ras.eraseIdx k) (ls':=ls.eraseIdx k) (Paired.erase h4);rw[G3];refine#[_,Z,h,_,dx,_,_,Z,J.1,T.cH,T.kM,nc,rl,_,Z,.inl (ao.of aA),cb,λt I=>?_]
 have b:t≠rl:=λz=>by subst z;rw[aA] at I;cases I
 have ht1:=by rw[aB b] at I;exact I
 refine q _ Hi t (ag.refl _) ?_ ht1 ?_
 .refine HS.same (ag.new I) #[J.2.2.2.2.2.2,hh,dx,mo,rl,bl,ras.eraseIdx k,ts,ls.eraseIdx k,J,sep,md,U,?_,?_,λl' hl'=>hro l' (List.mem_of_mem_eraseIdx hl')]
  .show x.data.eraseIdx k=(ls.eraseIdx k).map (rowOf (aq x.model));rw[hd,G3]
  .exact bF (List.length_eraseIdx_le _ _) hl
 .rw[aA];show aa (HO.lst [V.int (((ras.eraseIdx k).map V.ref).length:Nat)])=aa (HO.lst [V.int ((ls.length:Nat)-1)]);rw[aJ,Cv (by simp_all),M]
  rw[show(((ls.length-1:Nat):Nat):Int)=(ls.length:Nat)-1 by lia]
end
theorem yB:∀(g:List _),(g.flatMap kv).length=2*g.length
 |[]=>Z
 |f::g=>by rw[l_,b6,yB g,bP];show 2+_=_;lia
theorem RQ{s}:∀{t:cx},(∀g∈t,g.length=s)->(t.flatMap λg=>g.flatMap kv).length=2* (t.length*s)
 |[],_=>by simp
 |g::t,h=>by
  rw[l_,b6,yB,h g bH,RQ λx hx=>h x (bI _ hx),bP,Nat.add_one_mul t.length s];lia
theorem yC{A E:Type} l x (f:A->List E):(l++[x]).flatMap f=l.flatMap f ++f x:=by rw[Hw,l_,Co,l8]
section
variable {w:aS}{base:aU}
theorem abn(T:TX K mg a d):aV P w K mg base bo 44 a.oo d.oo ["held","call"] (gX a K λnums r k=>∃i,nums=[i]/\k=.chances i):=by
 refine T.oo.ok bE λnD cdv A outer s H vs Q E hr h=>?_;rcases h with⟨h,c,Hi,n,e,nums,l,x,k,rfl,hS,hC,⟨i,rfl,rfl⟩,q⟩;rcases id hS with⟨S,hh,dx,mo,rl,bl,ras,ts,ls,hH,sep,hx⟩;rcases id hx with⟨md,O,hd,hl,hro⟩;rcases hC with⟨dc,nl,ll,c1,c2,c3⟩;rcases id hH with⟨h1,⟨dm,tb,cl,os,m1,m2,m3,m4⟩,h3,h4,h5,h6,Si⟩;have hol:=bS m4;have ax:=md.2.2.1;have es:(eI (aa x) (.chances i)).2=rD x i (K8 x):=Z;refine#[_,(ay (aM 2 (aK (aK (pv 0) Z) Z))
   (ay (aM 3 (bt b8 (aK (pv 1) Z) aX))
   (ay (cy (lr (eZ (a_ T.kJ (vS T) (ah (pv 3) (ah (cz (c8) Z T.de c_ (ah (pv 2) ak)) ak))) (λr=>Z))) (aF (aZ (bU (ah (bZ Z T.yd) ak)))) cC)
   (ay (aM 4 (a_ T.oB (GL T) (ah (pv 2) (ah (pv 3) ak))))
   (ay (du dM Z (d_ (bt b8 (aK (pv 0) Z) (pv 3))) (bJ 5) (aF (du dM Z (d_ (pv 5)) (bJ 6) (aF (dU (eP eO rj vc Fc (pv 4) (ah (pv 6) ak)))))))
   (aF (aZ (pv 4)))))))),?_]
 refine#[_,Z,h,_,dx,_,_,Z,h1,T.cH,T.iA,jD,mo,_,dm,_,_,Z,Si _ _ m1,T.iz,T.jt,j7,?_];dsimp only[aR,aN,L2.start];refine#[_,Z,c,_,dc,_,_,Z,S _ _ c1,T.eG,T.qv,sR,nl,_,_,_,Z,Z,S.seq c2,bY (j:=0) Z,?_];dsimp only[aR,aN,L2.start];refine cX (!decide (0<=i/\i<x.model.columns.length)) (λR q'=>#[_,Z,_,Z,cl,_,Z,.inl (ao.of (Si _ _ m3)),i,_,Z,_,Z,?_]) ?_
 .rw[aJ,hol,<-sZ];exact q'
 by_cases hi:0<=i/\i<x.model.columns.length
 case neg=>
  rw[bO hi];refine bu #[cb,λt ht=>q.keep hS Z (ag.new ht) ht ?_]
  rw[aA,es,G2 _ hi];rfl
 rw[bX hi];refine br ?_;dsimp only[di,cN];obtain⟨k,rfl⟩:∃k:Nat,i=(k:Int):=#[i.toNat,by lia]
 have hk:k<x.model.columns.length:=by simp_all
 have hkc:k<x.chances.length:=by rw[O.1];exact hk
 have hc:=aY hk;have ht:=aY hkc;generalize x.model.columns[k]=co at hc;generalize x.chances[k]=eY at ht;obtain⟨d1,d2⟩:=O.2 k co eY hc ht;have k5:=(ax k co hc).2.2.2.2;rcases h6.get ht with⟨tt,gs,htt,m,hgs⟩;have hgl:=bS hgs;have hlen2:∀j,((eY.take j).flatMap λg=>g.flatMap kv).length<=1024:=λj=>by
  rw[RQ (s:=aD co.kind) λg hg=>(d2 g (qH hg)).1];have:(eY.take j).length<=eY.length:=by rw[gw];lia
  have:=ja (aD co.kind) this;rw[d1,d5 (bw x.model.columns co.parents)] at this;lia
 have hsz:=(size_pos (ax k co hc).1).2;refine#[_,Z,_,Z,cl,k,os,x.model.columns,co,Z,ao.of (Si _ _ m3),m4.same Si,ax.cV,hc,λj hj=>gy ((ax k co hc).2.2.1 j hj) hk,λt ht0=>?_];have St:ag H (upd H t (.lst [.int (bw x.model.columns co.parents:Nat),.int (aD co.kind:Nat)])):=ag.new ht0;have ht2:upd H t (.lst [.int (bw x.model.columns co.parents:Nat),.int (aD co.kind:Nat)]) t=aa (.lst (nV ((bw x.model.columns co.parents:Int)::(aD co.kind:Int)::[]))):=by rw[aA];rfl
 generalize hH2:upd H t (.lst [.int (bw x.model.columns co.parents:Nat),.int (aD co.kind:Nat)])=H2 at St ht2;dsimp only[aR,aN,L2.start];have M:∀{b:af}{u:HO},H b=aa u->b≠t:=λe=>bc e ht0;refine#[_,Z,h,_,dx,_,_,Z,St _ _ h1,T.cH,T.i6,ng,_,Z,bl,_,_,_,Z,Z,ao.of (St _ _ h5),bY (by rw[bL,htt];rfl),tt,Z,#[_,ao.of (St _ _ m)],gf (a:=tt) (xs:=gs.map V.ref) (λv X H'=>ag (Wo H2 t) H'/\H' t=aa (.lst (nV ((bw x.model.columns co.parents:Int)::(aD co.kind:Int)::(eY.take v).flatMap λg=>g.flatMap kv)))/\∃v5 U,X=[aa (.ref h),aa (.ref c),aa (.ref cl),aa (.int (k:Nat)),aa (.ref t),v5,U]) #[cU,ht2,_,_,Z] (λv X H' r ⟨S,_⟩=>ao.of (S _ _ (aQ (M m) (St _ _ m)))) ?_ ?_]
 .rintro v y X H4 Y o;rcases o with⟨S4,J,v5,U,rfl⟩;have hv:v<eY.length:=by have:=(bx.mp Y).1;rw[aJ] at this;simp_all
  have hg:=aY hv;have hgm:=(d2 _ (ff hv)).1;generalize eY[v]=fs at hg hgm;rcases Paired.at_ hgs hg with⟨g,hg1,xs,hg2,hg3⟩;obtain rfl:y=V.ref g:=by rw[bL,hg1] at Y;exact(bf Y).symm
  have hxl:=bS hg3;have hgH:=Si _ _ hg2;have hgS:∀{H':Hp},ag (Wo H2 t) H'->H' g=aa (.lst (xs.map V.ref)):=λS'=>S' _ _ (aQ (M hgH) (St _ _ hgH));have hl0:=hlen2 v;dsimp only[aN];refine#[_,Z,g,Z,#[_,ao.of (hgS S4)],gf (a:=g) (xs:=xs.map V.ref) (λj X H'=>ag (Wo H2 t) H'/\H' t=aa (.lst (nV ((bw x.model.columns co.parents:Int)::(aD co.kind:Int)::(((eY.take v).flatMap λg=>g.flatMap kv)++(fs.take j).flatMap kv))))/\∃U,X=[aa (.ref h),aa (.ref c),aa (.ref cl),aa (.int (k:Nat)),aa (.ref t),aa (.ref g),U]) #[S4,by rw[HX,Co,l8];exact J,_,Z] (λj X H' r ⟨S',_⟩=>ao.of (hgS S')) ?_ ?_]
  .rintro j y X H5 Y o;rcases o with⟨S5,I,U,rfl⟩;have hj:j<fs.length:=by have:=(bx.mp Y).1;rw[aJ] at this;simp_all
   have hf:=aY hj;generalize fs[j]=f at hf;rcases Paired.at_ hg3 hf with⟨p,hp1,hp2⟩;obtain rfl:y=V.ref p:=by rw[bL,hp1] at Y;exact(bf Y).symm
   have hpH:=Si _ _ hp2;dsimp only[aN];refine#[_,Z,.inl #[Z,_,ao.of I],_,Z,t,p,_,_,Z,Z,I,S5 _ _ (aQ (M hpH) (St _ _ hpH)),?_,λb z e=>?_,?_,_,Z]
   .have:(fs.take j).length<=64:=by rw[gw];lia
    rw[iD,bP,bP,b6,yB,bQ];show _+2<=_;lia
   .obtain⟨e1,e2⟩:=bh e;rw[aB e1];exact S5 _ _ e
   .rw[aA,take_snoc hf,yC,<-kf];delta nV;rw[b7,b7,b7,b7,bR (l₂:=kv f)];rfl
  .rintro X H5 o;rcases o with⟨S5,I,U,rfl⟩;have e:=yC (eY.take v) fs λg=>g.flatMap kv;rw[aJ,hxl,eV,<-e,<-take_snoc hg] at I;exact#[S5,I,_,_,Z]
 .rintro X H4 o;rcases o with⟨S4,J,v5,U,rfl⟩;rw[aJ,hgl,eV] at J;refine#[_,Z,q.keep hS Z (λb z e=>S4 _ _ (aQ (M e) (St _ _ e))) ht0 ?_];rw[J,es,B6 _ hk];delta K8 iM
  try dsimp only
  rw[ht,CM,d1,iX hc]
end
theorem gU.swap{E:af}{A:List af}{ch':List cx}(x:gU a K H Hi h dx mo rl bl ras ts m ls ch)(sp:Sep Hi rl bl ts)(hh:Hi h=ae)(S1:ag H H1)(J:H E=ae)(T:H1 E=aa (.lst (A.map V.ref)))(hnd:A.Nodup)(I:∀t∈A,H t=ae/\t≠E)(Y:eA H1 (dY (Ext Hi H H1) (E::A)) A ch'):
  ag Hi (dY (Ext Hi H H1) (E::A))/\gU a K (upd H1 h (.ins a.Held dx (dQ [.ref mo,.ref rl,.ref E]))) (dY (Ext Hi H H1) (E::A)) h dx mo rl E ras A m ls ch'/\Sep (dY (Ext Hi H H1) (E::A)) rl E A/\dY (Ext Hi H H1) (E::A) h=ae:=by
 obtain⟨h1,h2,M,h4,h5,h6,h7⟩:=x;have nn:∀{b:af}{u:HO},H b=aa u->b∉E::A:=λe z=>by
  obtain z|z:=bM.mp z
  .subst z;rw[J] at e;cases e
  .rw[(I _ z).1] at e;cases e
 have SS:ag Hi (dY (Ext Hi H H1) (E::A)):=λb u e=>iE (nn (h7 _ _ e)) (kQ h7 e);have no:∀{b:af}{u:HO},H b=aa u->Hi b=ae->dY (Ext Hi H H1) (E::A) b=ae:=λ{b u} e n=>by
  cases z:dY (Ext Hi H H1) (E::A) b with
  |none=>rfl
  |some o=>
   obtain⟨z1,_⟩|⟨_,z2⟩:=iF (j9 z).2
   .rw[e] at z1;cases z1
   .rw[n] at z2;cases z2
 have O:∀b∈E::A,dY (Ext Hi H H1) (E::A) b=ae:=λb hb=>by delta dY;rw[aC hb]
 have S:=no h1 hh;have U:∀{b:af},H b=ae->b≠h:=λe z=>by subst z;rw[h1] at e;cases e
 have c:rl≠h:=λz=>by subst z;rw[h1] at M;cases M
 refine#[SS,#[aA,h2.same SS,by rw[aB c];exact S1 _ _ M,h4.same SS,by rw[aB (U J)];exact T,Y.at_ λt R xs e=>by rw[aB (U (I t R).1)];exact e,λb u e=>?_],#[no M sp.1,O E bH,(λz=>by subst z;rw[M] at J;cases J),hnd,λt R=>#[O t (bI _ R),λz=>?_,(I t R).2]],S]
 .have hb:b≠h:=λz=>by subst z;rw[S] at e;cases e
  rw[aB hb];obtain⟨_,z⟩|⟨_,z⟩:=iF (j9 e).2
  .exact z
  .exact S1 _ _ (h7 _ _ z)
 .subst z;rw[(I t R).1] at M;cases M
theorem G4{E t:af}{A:List af}{x:jh}{ch':List cx}(hH:gU a K H Hi h dx mo rl bl ras ts x.model ls x.chances)(sp:Sep Hi rl bl ts)(hx:HOK x ls)(hh:Hi h=ae)(S1:ag H H1)(hfl:H E=ae)(J:H1 E=aa (.lst (A.map V.ref)))(Y:A.Nodup)(R:∀t∈A,H t=ae/\t≠E)(T:eA H1 (dY (Ext Hi H H1) (E::A)) A ch')(hch:gN x.model.columns ch')(q:qD a K h H Hi (aa {x with chances:=ch'},{value:=1}) Q)(I:upd H1 h (.ins a.Held dx (dQ [.ref mo,.ref rl,.ref E])) t=ae):Q (.ref t) (upd (upd H1 h (.ins a.Held dx (dQ [.ref mo,.ref rl,.ref E]))) t (.lst [.int 1])):=by
 obtain⟨SS,M,O,b⟩:=hH.swap sp hh S1 hfl J Y R T;have S:t≠h:=λz=>by subst z;rw[aA] at I;cases I
 have U:H1 t=ae:=by rw[aB S] at I;exact I
 refine q _ _ t SS (HS.same (ag.new I) #[M.2.2.2.2.2.2,b,dx,mo,rl,E,ras,A,ls,M,O,hx.1,hch,hx.2.2]) (S1.free U) ?_;rw[aA];rfl
theorem B7:b_ "chances" y (dQ [x0,x1,x2])=dQ [x0,x1,y]:=by kernel_rfl
section
variable {w:aS}{base:aU}
theorem abo(T:TX K mg a d):aV P w K mg base bo 45 a.ow d.ow ["held","call"] (gX a K λy y k=>k=.even):=by
 refine T.ow.ok bE λnD cdv A outer s H vs Q E hr h=>?_;rcases h with⟨h,c,Hi,n,e,nums,l,x,k,rfl,hS,hC,rfl,q⟩;rcases id hS with⟨S,hh,dx,mo,rl,bl,ras,ts,ls,Y,sep,hx⟩;rcases id hx with⟨J,chok,hd,hl,hro⟩;rcases id Y with⟨f,⟨dm,tb,cl,os,m1,m2,m3,m4⟩,h3,h4,h5,h6,V⟩;refine#[_,(ay (dv (pv 0) (a_ T.n_ (QO T) (ah (aK (aK (pv 0) Z) Z) ak)) Z)
   (aF (aZ (bU (ah aX ak))))),?_]
 refine#[_,Z,h,_,dx,_,_,Z,f,T.cH,T.iA,jD,mo,_,dm,_,_,Z,V _ _ m1,T.iz,T.jt,j7,cl,os,x.model.columns,Z,ao.of (V _ _ m3),m4.same V,J.2.2.1,by have:=J.2.1;lia,λH1 fl ts' S1 U I R M O=>#[_,Z,h,_,dx,_,Z,S1 _ _ f,T.cH,T.i6,dq,?_]]
 rw[B7];refine#[cb,λt ht=>G4 Y sep hx hh S1 U I R M (ch':=tV x.model) (by rw[FH J.2.2.1];exact eA.same (ag.refl _) (λb u e=>iE (j9 e).1 (j_ (jw (j9 e).2).1 (jw (j9 e).2).2)) O) (OM J.2.2.1) q ht]
theorem abp(T:TX K mg a d)(hP:P.given.tree=ae):aV P w K mg base bo 46 a.om d.om ["held","call"] (gX a K λnums y k=>∃n d,nums=[n,d]/\k=.fit n d/\n<=10^18/\d<=10^18):=by
 refine T.om.ok bE λnD cdv A outer s H vs Q E hr h=>?_;rcases h with⟨h,c,Hi,n,e,nums,l,x,k,rfl,hS,hC,⟨u,v,rfl,rfl,hu,hv⟩,q⟩;rcases id hS with⟨S,hh,dx,mo,rl,bl,ras,ts,ls,hH,sep,hx⟩;rcases id hx with⟨U,I,hd,hl,J⟩;rcases hC with⟨dc,nl,ll,c1,c2,c3⟩;rcases id hH with⟨b,⟨dm,tb,cl,os,m1,m2,m3,m4⟩,h3,h4,h5,h6,O⟩;have C1:=S _ _ c1;have C2:=S.seq c2;rw[show eI (aa x) (.fit u v)=La x u v from Z] at q;delta La at q;refine#[_,(ay (aM 2 (bt b8 (aK (pv 1) Z) aX))
   (ay (aM 3 (bt b8 (aK (pv 1) Z) aX))
   (ay (cy (PW.pt (pH (b9 kB (pv 2) aX (cu _)) (rM (b9 kB (pv 3) aX (cu _))))) (aF (aZ (bU (ah (bZ Z T.Ge) ak)))) cC)
   (ay (dv (pv 0) (a_ T.sE (aaD T hP) (ah (aK (aK (pv 0) Z) Z) (ah (aK (pv 0) Z) (ah (aK (pv 0) Z) (ah (pv 2) (ah (pv 3) ak)))))) Z)
   (aF (aZ (bU (ah aX ak)))))))),?_]
 refine#[_,Z,c,_,dc,_,_,Z,C1,T.eG,T.qv,sR,nl,_,_,_,Z,Z,C2,bY (j:=0) Z,?_];dsimp only[aR,aN,L2.start];refine#[_,Z,c,_,dc,_,_,Z,C1,T.eG,T.qv,sR,nl,_,_,_,Z,Z,C2,bY (j:=1) Z,?_];dsimp only[aR,aN,L2.start];refine cX (decide (u<0\/v<1)) (λR q'=>uc (decide (u<0)) (decide (v<1)) (λR q2=>#[_,Z,_,_,Z,Z,_,Z,q2]) (λy R q2=>#[_,Z,_,_,Z,Z,_,Z,q2]) (by rw[<-Bool.decide_or];exact q')) ?_
 by_cases Y:u<0\/v<1
 .rw[bX Y];rw[aC Y] at q;refine bu #[cb,λt V=>q.keep hS Z (ag.new V) V ?_]
  rw[aA];rfl
 rw[bO Y];rw[aw Y] at q;obtain⟨A',rfl⟩:∃k:Nat,u=(k:Int):=#[u.toNat,by lia]
 obtain⟨B',rfl⟩:∃k:Nat,v=(k:Int):=#[v.toNat,by grind]
 have ef:Vaprbp.fitted x.model x.data (aW (A':Int) B') x.chances=mR x.model.columns ls A' B' x.chances:=by rw[hd];exact Yl U.2.2.1 (λl h=>(J l h).1) (by lia) I.1
 rw[cI,ef] at q;refine br ?_;dsimp only[di,cN];refine#[_,Z,h,_,dx,_,_,Z,b,T.cH,T.iA,jD,mo,_,dm,_,_,Z,O _ _ m1,T.iz,T.jt,j7,_,Z,h,_,dx,_,_,Z,b,T.cH,T.kM,nc,_,Z,h,_,dx,_,_,Z,b,T.cH,T.i6,ng,_,Z,_,Z,cl,rl,bl,A',B',os,ras,ts,x.model.columns,ls,x.chances,Hi,Z,ao.of (O _ _ m3),m4.same O,U.2.2.1,by have:=U.2.1;lia,ao.of h3,h4.same O,λl hl=>(J l hl).1,by lia,ao.of h5,O,h6,I,λH1 fl ts' S1 hfl M hnd hts htb=>#[_,Z,h,_,dx,_,Z,S1 _ _ b,T.cH,T.i6,dq,?_]]
 rw[B7];exact#[cb,λt V=>G4 hH sep hx hh S1 hfl M hnd hts htb (Yn U.2.2.1 hl (by lia) (by lia) I) q V]
end
theorem Paired.RR{M J}{F G}:∀{l}{m}{i}{x:M}{y:J},l.Nodup->Paired F l m->l[i]? =aa x->(∀a b,a∈l->a≠x->F a b->G a b)->G x y->Paired G l (m.set i y)
 |_,_,_,_,_,_,.nil,h,_,_=>by simp at h
 |a::l,b::m,0,x,y,A,.cons U R,h,E,O=>by
  obtain rfl:a=x:=by simpa using h
  rw[nq] at A;exact .cons O (Paired.mapM R λT S I q=>E T S (bI _ I) (λz=>A.1 (z▸I)) q)
 |a::l,b::m,i+1,x,y,A,.cons U R,h,E,O=>by
  rw[nq] at A;exact .cons (E a b bH (λz=>A.1 (by rw[z];exact dg h)) U) (Paired.RR A.2 R h (λT S I=>E T S (bI _ I)) O)
theorem Paired.RS{E A}{F}:∀{l}{m}{i}{x:E}{y:A},Paired F l m->F x y->Paired F (l.set i x) (m.set i y)
 |_,_,_,_,_,.nil,_=>.nil
 |_::_,_::_,0,_,_,.cons _ I,h=>.cons h I
 |_::_,_::_,i+1,_,_,.cons J I,h=>.cons J (Paired.RS I h)
theorem abq{A}(J:A∈l)(I:∀y,y∈l->A<=y):decide (A<0)=l.any λn=>decide (n<0):=by
 rw[gu,qG,fD];constructor
 .exact λh=>#[A,J,bX h]
 .rintro⟨y,E,h⟩;have:=rF h;have:=I y E;lia
theorem max_zero{A}(M:A∈l)(J:∀y,y∈l->y<=A)(I:(l.any λn=>decide (n<0))=az):decide (A=0)=l.all λn=>n==0:=by
 rw[yP] at I;rw[gu,jE,fD];constructor
 .intro h y E;have:=J y E;have:=I y E;rw[fD] at this;rw[fJ];lia
 .intro h;exact eq_of_beq (h A M)
theorem abr{old}(M:l.length=n)(R:n<=64)(J:(l.any λn=>decide (n<0))=az)(hz:(l.all λn=>n==0)=az)(O:∀x∈l,x<=10^18):
  Vaprbp.shares (l.map z4) []=e_ l old/\vQ n (e_ l old)/\∀x∈l,0<=x:=by
 rw[yP] at J;have A:∀x∈l,0<=x:=λx hx=>by have:=J x hx;rw[fD] at this;simp_all
 have E:l.sum≠0:=λz=>by
  have:(l.all λn=>n==0)=ai:=by
   rw[jE];intro x hx;have:=FK A x hx;have:=A x hx;rw[fJ];lia
  rw[this] at hz;cases hz
 have I:l.sum<=10^40:=by
  have:=FP (b:=10^18) λx hx=>by have:=O x hx;assumption
  lia
 have e:l.map _=l.map _:=i9 λx y=>OJ x;refine#[?_,OL M A I (.inr E),A];rw[e,FN (by simp) A]
 delta e_;rw[aw E,aw E]
section
variable {w:aS}{base:aU}
theorem abt(T:TX K mg a d)(hP:P.given.tree=ae):aV P w K mg base bo 44 a.oq d.oq ["held","call"] (gX a K λnums l k=>∃i g,nums=[i,g]/\k=.set i g l/\∀x∈l,x<=10^18):=by
 refine T.oq.ok bE λnD cdv A outer s H vs Q E hr h=>?_;obtain⟨h,c,Hi,n,e,nums,l,x,k,rfl,hS,hC,⟨i,g,rfl,rfl,hbig⟩,q⟩:=h;obtain⟨S,hh,dx,mo,rl,bl,ras,ts,ls,hH,sep,hx⟩:=id hS;obtain⟨md,chok,hd,hl,hro⟩:=id hx;obtain⟨dc,nl,ll,c1,c2,c3⟩:=hC;obtain⟨h1,h2,h3,h4,h5,h6,Si⟩:=id hH;have C1:=S _ _ c1;have C2:=S.seq c2;have C3:=S.seq c3;have ax:=md.2.2.1;have htl:=bS h6;have hcl:=chok.1;rw[show eI (aa x) (.set i g l)=Ld x i g l from Z] at q;unfold Ld Aa at q;refine#[_,(ay (aM 2 (bt b8 (aK (pv 1) Z) aX))
   (ay (aM 3 (bt b8 (aK (pv 1) Z) aX))
   (ay (cy (PW.pt (pH (lr (eZ (a_ T.kJ (vS T) (ah (pv 2) (ah (cz (c8) Z T.de c_ (ah (aK (pv 0) Z) ak)) ak))) (λy=>Z))) (rM (lr (eZ (a_ T.kJ (vS T) (ah (pv 3) (ah (cz (c8) Z T.de c_ (ah (bt b8 (aK (pv 0) Z) (pv 2)) ak)) ak))) (λy=>Z)))))) (aF (aZ (bU (ah (bZ Z T.yd) ak)))) cC)
   (ay (aM 4 (bt b8 (bt b8 (aK (pv 0) Z) (pv 2)) (pv 3)))
   (ay (aM 5 (aK (pv 1) Z))
   (ay (cy (PW.pt (pH (b9 jR (cz (c8) Z T.de c_ (ah (pv 5) ak)) (cz (c8) Z T.de c_ (ah (pv 4) ak)) (cu _)) (pH (b9 kB (cz (UU Z) Z T.Zh Xy (ah (pv 5) ak)) aX (cu _)) (rM (b9 mG (cz (Mh Z) Z T.Gg Fe (ah (pv 5) ak)) aX (cu _)))))) (aF (aZ (bU (ah (bZ Z T.Ge) ak)))) cC)
   (ay (TZ (a_ T.mV (GN T hP) (ah (pv 5) (ah (pv 4) ak))) (TY (bt b8 (aK (pv 0) Z) (pv 2)) (pv 3) set_list))
   (aF (aZ (bU (ah aX ak))))))))))),?_]
 refine#[_,Z,c,_,dc,_,_,Z,C1,T.eG,T.qv,sR,nl,_,_,_,Z,Z,C2,bY (j:=0) Z,?_];dsimp only[aR,aN,L2.start];refine#[_,Z,c,_,dc,_,_,Z,C1,T.eG,T.qv,sR,nl,_,_,_,Z,Z,C2,bY (j:=1) Z,?_];dsimp only[aR,aN,L2.start];by_cases hi:0<=i/\i<x.model.columns.length
 case neg=>
  rw[aw hi] at q;refine cX ai (λR q'=>uc ai az (λR U=>#[_,Z,_,Z,h,_,dx,_,_,Z,h1,T.cH,T.i6,ng,bl,_,Z,.inl (ao.of h5),i,_,Z,_,Z,?_]) (λz=>by cases z) q') ?_
  .rw[aJ,htl,hcl,<-sZ,bO hi];exact U
  refine bu #[cb,λt M=>q.keep hS Z (ag.new M) M ?_]
  rw[aA];rfl
 rw[aC hi] at q;obtain⟨k,rfl⟩:∃k:Nat,i=(k:Int):=#[i.toNat,by lia]
 have hk:k<x.model.columns.length:=by simp_all
 have hkc:k<x.chances.length:=by simp_all
 have hc:=aY hk;have M:=aY hkc;generalize x.model.columns[k]=co at hc;generalize x.chances[k]=eY at M;obtain⟨d1,d2⟩:=chok.2 k co eY hc M;obtain⟨O,gs,htt,J,hgs⟩:=h6.get M;have hgl:=bS hgs;have hat:((ts.map V.ref)[k]?)=aa (V.ref O):=by rw[bL,htt];rfl
 rw[cI,Im,Bk ax hc,<-d1] at q;refine cX (!decide (0<=g/\g<(eY.length:Int))) (λR q'=>uc az (!decide (0<=g/\g<(eY.length:Int))) (λR U=>#[_,Z,_,Z,h,_,dx,_,_,Z,h1,T.cH,T.i6,ng,bl,_,Z,.inl (ao.of h5),_,_,Z,_,Z,?_]) (λy R U=>#[_,Z,_,Z,h,_,dx,_,_,Z,h1,T.cH,T.i6,ng,_,Z,bl,_,_,_,Z,Z,ao.of h5,bY hat,O,_,Z,.inl (ao.of J),g,_,Z,_,Z,?_]) q') ?_
 .rw[aJ,htl,hcl,<-sZ,bX hi];exact U
 .rw[aJ,hgl,<-sZ];exact U
 by_cases hg:0<=g/\g<(eY.length:Int)
 case neg=>
  rw[aw hg] at q;rw[bO hg];refine bu #[cb,λt M=>q.keep hS Z (ag.new M) M ?_]
  rw[aA];rfl
 rw[aC hg] at q;rw[bX hg];refine br ?_;dsimp only[di,cN,uQ] at q⊢;obtain⟨j,rfl⟩:∃j:Nat,g=(j:Int):=#[g.toNat,by lia]
 have hj:j<eY.length:=by simp_all
 rw[cI,M,iX hc,CM] at q;have hf:=aY hj;have hfm:=(d2 _ (ff hj)).1;generalize eY[j]=fs at hf hfm;obtain⟨ga,hga,hgr⟩:=Paired.at_ hgs hf;obtain⟨xs,hg2,hg3⟩:=id hgr;have hxl:=bS hg3;have hgat:((gs.map V.ref)[j]?)=aa (V.ref ga):=by rw[bL,hga];rfl
 have hsz:=size_pos (ax k co hc).1;refine#[_,Z,h,_,dx,_,_,Z,h1,T.cH,T.i6,ng,_,Z,bl,_,_,_,Z,Z,ao.of h5,bY hat,_,Z,O,_,_,_,Z,Z,ao.of J,bY hgat,?_];dsimp only[aR,aN];refine#[_,Z,c,_,dc,_,_,Z,C1,T.eG,T.m7,oO,?_];dsimp only[aR,aN];refine cX (decide (l.length≠aD co.kind\/(l.any λn=>decide (n<0))=ai\/(l.all λn=>n==0)=ai)) (λR q'=>uc (!decide (l.length=aD co.kind)) ((l.any λn=>decide (n<0)) ||(l.all λn=>n==0)) (λR U=>#[_,Z,ll,_,Z,.inl C3,_,Z,ga,_,Z,.inl (ao.of (Si _ _ hg2)),Z,_,Z,?_]) (λhk1 R U=>?_) ?_) ?_
 .rw[iD,aJ,hxl,hfm,show decide (V.int (l.length:Nat)=V.int (aD co.kind:Nat))=decide (l.length=aD co.kind) by rw[d9];exact#[λz=>by injection z with z;lia,λz=>by rw[z]]]
  exact U
 .have hle:l.length=aD co.kind:=by
   by_cases z:l.length=aD co.kind
   .exact z
   .rw[bO z] at hk1;cases hk1
  refine uc (l.any λn=>decide (n<0)) (l.all λn=>n==0) (λR q3=>#[_,Z,ll,l,Z,C3,by lia,λmn g1 g2=>#[_,_,Z,Z,_,Z,?_]]) (λhk2 R q3=>#[_,Z,ll,l,Z,C3,by lia,λmx g1 g2=>#[Z,_,Z,?_]]) U
  .rw[abq g1 g2];exact q3
  .rw[show decide (V.int mx=V.int 0)=decide (mx=0) by rw[d9];exact#[λz=>by injection z,λz=>by rw[z]],max_zero g1 g2 hk2]
   exact q3
 .have e:(!decide (l.length=aD co.kind) ||((l.any λn=>decide (n<0)) ||(l.all λn=>n==0)))=decide (l.length≠aD co.kind\/(l.any λn=>decide (n<0))=ai\/(l.all λn=>n==0)=ai):=by
   rw[gu,fD,wj,wj,Ca,xi]
  rw[e];exact q'
 by_cases hw:l.length≠aD co.kind\/(l.any λn=>decide (n<0))=ai\/(l.all λn=>n==0)=ai
 .rw[bX hw];rw[aC hw] at q;refine bu #[cb,λt M=>q.keep hS Z (ag.new M) M ?_]
  rw[aA];rfl
 rw[bO hw];rw[aw hw] at q;refine br ?_;dsimp only[di,cN];have hle:=Classical.byContradiction λz=>hw (.inl z);have hneg:=uG.mpr λz=>hw (.inr (.inl z));have hzer:=uG.mpr λz=>hw (.inr (.inr z));obtain⟨w1,w2,w3⟩:=abr (old:=fs) hle hsz.2 hneg hzer hbig;rw[w1] at q;refine#[_,Z,_,Z,ll,ga,l,fs,Hi,Z,C3,Si,hgr,w3,by lia,by lia,λH1 g' xs' S1 hg' hg'' hfr=>#[_,Z,h,_,dx,_,_,Z,S1 _ _ h1,T.cH,T.i6,ng,_,Z,bl,_,_,_,Z,Z,ao.of (S1 _ _ h5),bY hat,_,Z,O,_,_,j,Z,Z,S1 _ _ J,GQ (by rw[aJ];simp_all),?_]]
 have hfr:=hfr;refine#[cb,λt f=>?_]
 have Y:O∈ts:=dg htt;have htth:O≠h:=λz=>by subst z;rw[h1] at J;cases J
 have SS:ag Hi (Ext Hi H H1):=λb u e=>kQ Si e;have no:∀{b:af}{u:HO},H b=aa u->Hi b=ae->Ext Hi H H1 b=ae:=λ{b u} e n=>by
  cases z:Ext Hi H H1 b with
  |none=>rfl
  |some o=>
   obtain⟨z1,_⟩|⟨_,z2⟩:=iF z
   .rw[e] at z1;cases z1
   .rw[n] at z2;cases z2
 obtain⟨s1,s2,s3,s4,s5⟩:=sep;have hS2:ag (Ext Hi H H1) (upd H1 O (.lst ((gs.map V.ref).set j (.ref g')))):=λb u e=>by
  have hb:b≠O:=λz=>by subst z;rw[no J (s5 b Y).1] at e;cases e
  rw[aB hb];obtain⟨_,z⟩|⟨_,z⟩:=iF e
  .exact z
  .exact S1 _ _ (Si _ _ z)
 have hts:∀t'∈ts,Ext Hi H H1 t'=ae:=λt' I=>by
  obtain⟨ys,hy⟩:=h6.mem t' I;exact no hy (s5 t' I).1
 have hne0:t≠O:=λz=>by subst z;rw[aA] at f;cases f
 have ht1:H1 t=ae:=by rw[aB hne0] at f;exact f
 refine q _ (Ext Hi H H1) t SS (HS.same (ag.new f) #[hS2,no h1 hh,dx,mo,rl,bl,ras,ts,ls,#[by rw[aB (bG htth)];exact S1 _ _ h1,h2.same SS,by rw[aB (bG (s5 O Y).2.1)];exact S1 _ _ h3,h4.same SS,by rw[aB (bG (s5 O Y).2.2)];exact S1 _ _ h5,?_,hS2],#[no h3 s1,no h5 s2,s3,s4,λt' I=>#[hts t' I,(s5 t' I).2]],md,?_,hd,hl,hro]) (S1.free ht1) (by rw[aA];rfl)
 .refine Paired.RR s4 h6 htt (λt' c' I hne ⟨gs',q1,U⟩=>#[gs',by rw[aB hne];exact S1 _ _ q1,U.same SS]) #[gs.set j g',by rw[aA,HJ],Paired.RS (hgs.same SS) #[xs',j_ hg' hg'',hfr.same cU]]
 .refine#[by rw[yY];exact hcl,λi' c' t' hc' I=>?_]
  by_cases hik:k=i'
  .subst hik;rw[yW hkc] at I;obtain rfl:=bf I;rw[hc] at hc';obtain rfl:=bf hc';refine#[by rw[yY];exact d1,λg0 hg0=>?_]
   obtain hg0|hg0:=List.mem_or_eq_of_mem_set hg0
   .exact d2 g0 hg0
   .subst hg0;exact w2
  .rw[yV hik] at I;exact chok.2 i' c' t' hc' I
end
noncomputable def E0:Nat:=10+6*CB
theorem abu:E0*100+E0+2<=134217728:=by delta E0 CB;simp
noncomputable def gq(m:dz)(ch:List cx)(l:List Int):cK:=xh m ch (rowOf (aq m) l)
theorem abv(S:cG (aq m) l)(R:aI (aq m) l<=1024)(Z:m.columns.length<=6)(I:fN m ch l W B):∃x y:Nat,gq m ch l=#[x,y]/\bj x y=1/\0<y/\x<=2^E0/\y<=2^E0:=by
 rcases id I with⟨A,O,M,w4⟩;have E:CB*m.columns.length<=6*CB:=by exact y9 _ Z
 have U:(2)^(CB*m.columns.length)<=2^(6*CB):=oZ (by simp) E
 have Y:B<=2^E0:=bF O (oZ (by simp) (by delta E0;lia))
 have T:=by
  have h1:=FV M;have J:aI _ l*2^(CB*m.columns.length)<=2^10*2^(6*CB):=nv R U;rw[<-qQ] at J;exact bF h1 J
 have V:0<bj (sumTo (aI (aq m) l) W) B:=kY _ A;refine#[_,_,?_,GV A,uL (mq A (kX _ _)) V,i8 T,i8 Y];delta gq;rw[x9 S I,sV _ _ A]
def yD(x y X Y s:Nat):Prop:=bj x y=1/\0<y/\x<=2^(E0*s)/\y<=2^(E0*s)/\0<Y/\(#[(x:Int),y]:cK)=aW (X:Nat) Y
theorem yD.step{x y X Y z u:Nat}(h:yD x y X Y s)(M:bj z u=1)(E:0<u)(hz:z<=2^E0)(I:u<=2^E0):yD (x/bj x u* (z/bj y z)) (y/bj y z* (u/bj x u)) (X*z) (Y*u) (s+1):=by
 rcases h with⟨a,V,U,T,R,S⟩;have e:=Ys a M V E;have J:Eb #[x,y] #[z,u]=aW ((X*z:Nat)) (Y*u):=by
  have:=(Bf (f:=#[z,u]) #[E,by exact M]).symm
  rw[S,this,FD R E,fH]
 rw[e] at J;have O:=gA R E;have f:iW #[(((x/bj x u)* (z/bj y z):Nat)),(y/bj y z)* (u/bj x u)]:=by rw[J];exact vJ O
 have A:(2)^(E0* (s+1))=2^(E0*s)*2^E0:=by rw[Nat.mul_succ,qQ]
 refine#[?_,f.1,?_,?_,O,J]
 .have:=f.2;exact this
 .rw[A];exact nv (bF (oX _ _) U) (bF (oX _ _) hz)
 .rw[A];exact nv (bF (oX _ _) T) (bF (oX _ _) I)
theorem abw(h:∀l∈ls,iW (gq m ch l)/\0<=(gq m ch l).num):tU (ls.map (gq m ch))=aW (gj (λl=>(gq m ch l).num.toNat) (cv ls)) (gj (λl=>(gq m ch l).den) (cv ls)):=by
 have e:ls.map _=ls.map λl=>if l∈ls then gq m ch l else vk:=i9 λl A=>(aC A).symm
 have k:=(YC (f:=λl=>if l∈ls then gq m ch l else vk) (λl=>by
  by_cases A:l∈ls
  .rw[aC A];exact h l A
  .rw[aw A];exact#[#[by show 0<1;simp,Z],by show(0)<=1;simp]) ls).2
 have I:ls.map (λl=>(if l∈ls then gq m ch l else vk).num.toNat)=ls.map _:=i9 λl A=>by rw[aC A]
 have E:ls.map (λl=>(if l∈ls then gq m ch l else vk).den)=ls.map _:=i9 λl A=>by rw[aC A]
 rw[e,k,I,E,O7,O7]
theorem abx{T}{e:List Int×Nat}(h:T[i]? =aa e):cD (λx=>1) (T.take i)+e.2<=cD (λx=>1) T:=by
 have A:=F6 (λx=>1) T (i+1);rw[take_snoc h,uj] at A;simp_all
section
variable {w:aS}{base:aU}
theorem aby(T:TX K mg a d)(hP:P.given.tree=ae):aV P w K mg base bo 46 a.oy d.oy ["held","call"] (gX a K λv v k=>k=.likely):=by
 refine T.oy.ok bE λnD cdv A outer s H vs Q E hr h=>?_;rcases h with⟨h,c,Hi,n,e,nums,l,x,k,rfl,hS,hC,rfl,q⟩;rcases id hS with⟨S,hh,dx,mo,rl,bl,ras,ts,ls,hH,sep,hx⟩;obtain⟨md,chok,hd,hl,hro⟩:=id hx;obtain⟨h1,h2,h3,h4,h5,h6,Si⟩:=id hH;refine#[_,(ay (aM 2 (vu (ah aX (ah aX ak))))
   (ay (du dM Z (NH (a_ T.p_ (Rr T) (ah (aK (pv 0) Z) ak))) (iP Z (dj (bJ 3) (dj (bJ 4) gJ))) (ay (aM 5 (a_ T.qe (Rn T hP) (ah (a_ T.weighed (B4 T hP) (ah (pv 0) (ah (pv 3) ak))) ak)))
   (aF (du dM Z (vr Z T.vR (ah (pv 4) ak)) (bJ 6) (aF (aM 2 (a_ T.times (aaw T hP) (ah (pv 2) (ah (pv 5) ak)))))))))
   (aF (aZ (bU (ah aX (ah (bt ec (pv 2) aX) (ah (bt ec (pv 2) aX) ak)))))))),?_]
 refine#[cb,λp0 hp0=>?_]
 dsimp only[aR,aN,L2.start];have S0:ag H (upd H p0 (.tup [.int 1,.int 1])):=ag.new hp0;have Y:upd H p0 (.tup [.int 1,.int 1]) p0=aa (.tup [.int ((1:Nat):Int),.int ((1:Nat):Int)]):=aA;generalize upd H p0 (.tup [.int 1,.int 1])=H0 at S0 Y;have Si0:=Si.trans S0;refine#[_,Z,h,_,dx,_,_,Z,S0 _ _ h1,T.cH,T.kM,nc,rl,ras,ls,Z,ao.of (S0 _ _ h3),h4.same Si0,by lia,λH2 t2 S2 ht2 ht2'=>#[t2,_,Z,ht2',λod=>?_]]
 have S02:=S0.trans S2;have ht0:=ht2;have Sf:ag H0 (upd H2 t2 (.cE od (.dT (dE fu (cv ls))))):=λb u e=>by rw[aB (bc e ht0)];exact S2 _ _ e
 refine Ry (d:=t2) (od:=od) (kvs:=dE fu (cv ls)) 3 4 (λT' x y g H Q hT hQ=>#[T',_,Z,.inl (.inl hT),Z,_,_,Z,_,_,Z,Z,hQ]) (λi g H'=>ag H0 H'/\H' t2=aa (.cE od (.dT (dE fu (cv ls))))/\(∃(p:af)(v3 v4 v5 v6:Option V)(x0 J:Nat),g=[aa (.ref h),aa (.ref c),aa (.ref p),v3,v4,v5,v6]/\H' p=aa (.tup [.int (x0:Nat),.int (J:Nat)])/\yD x0 J (gj (λl=>(gq x.model x.chances l).num.toNat) ((cv ls).take i)) (gj (λl=>(gq x.model x.chances l).den) ((cv ls).take i)) (cD (λv=>1) ((cv ls).take i)))/\∀e∈(cv ls).take i,iW (gq x.model x.chances e.1)/\0<=(gq x.model x.chances e.1).num) #[Sf,aA,#[p0,_,_,_,_,1,1,Z,Sf _ _ Y,#[Z,by simp,za,za,by show 0<1;simp,by show(#[1,1]:cK)=aW 1 1;rfl]],λe O=>(dB O).elim] (λi g H' v ⟨_,h,_⟩=>h) ?_ ?_
 .rintro i xk y q' g H3 hi hq' ⟨S3,hfz,⟨p,v3,v4,v5,v6,x0,J,rfl,f,R⟩,I⟩ H4 S4;have hil:=by have:=(bx.mp hi).1;rw[sX] at this;exact this
  have M:=aY hil;have hmem:=ff hil;generalize(cv ls)[i]=ee at M hmem;obtain⟨l,n⟩:=ee;have hxy:(dE fu (cv ls))[i]? =aa (fu l,V.int (n:Nat)):=by delta dE;rw[bL,M];rfl
  rw[hxy] at hi;obtain⟨rfl,rfl⟩:=qT (bf hi);rw[BY] at hq';have hlm:=O8 _ hmem;have hso:=abx M;rw[F5] at hso;obtain⟨r1,r2⟩:=hro l hlm;have S04:=S3.trans S4;have SH4:=S0.trans S04;dsimp only[aN];refine#[_,Z,_,Z,h,dx,mo,rl,bl,q',ras,ts,x.model,ls,x.chances,l,Hi,Z,hH.same SH4,md.2.2.1,md.2.1,chok,.inr (.inl (.inl (S4 _ _ hq'))),r1,r2,λH5 xf W B S5 hxf hF hW=>#[xf,x.model,l,W,B,Z,hF,hW.1,λpc hpc hfr=>?_]];rcases abv r1 r2 md.2.1 hW with⟨z,u,e1,e2,e3,e4,e5⟩;have e1':aW (sumTo (aI (aq x.model) l) W:Nat) B=#[(z:Int),u]:=by rw[<-x9 r1 hW];exact e1
  have S6:ag H5 (upd H5 pc (.tup [.int (aW (sumTo (aI (aq x.model) l) W:Nat) B).num,.int ((aW (sumTo (aI (aq x.model) l) W:Nat) B).den:Nat)])):=ag.new hpc;have U:upd H5 pc (.tup [.int (aW (sumTo (aI (aq x.model) l) W:Nat) B).num,.int ((aW (sumTo (aI (aq x.model) l) W:Nat) B).den:Nat)]) pc=aa (.tup [.int (z:Nat),.int (u:Nat)]):=by rw[aA,e1']
  generalize upd H5 pc (.tup [.int (aW (sumTo (aI (aq x.model) l) W:Nat) B).num,.int ((aW (sumTo (aI (aq x.model) l) W:Nat) B).den:Nat)])=H6 at S6 U;have S36:=(S4.trans S5).trans S6;dsimp only[aR,aN];refine#[_,Z,(n:Int),Z,by simp,by lia,?_]
  rw[cI];refine Uc (lo:=0) (n:=n) (λj g H'=>ag H6 H'/\∃(p:af)(v6:Option V)(x0 J:Nat),g=[aa (.ref h),aa (.ref c),aa (.ref p),aa (.ref q'),aa (.int (n:Nat)),aa (.ref pc),v6]/\H' p=aa (.tup [.int (x0:Nat),.int (J:Nat)])/\yD x0 J (gj (λl=>(gq x.model x.chances l).num.toNat) ((cv ls).take i)*z^j) (gj (λl=>(gq x.model x.chances l).den) ((cv ls).take i)*u^j) (cD (λv=>1) ((cv ls).take i)+j)) #[ag.refl _,p,_,x0,J,Z,S36 _ _ f,by rw[Ik,Ik,tF,tF];exact R] ?_ ?_
  .rintro j g H7 hj m;rcases m with⟨S7,p,v6,x0,J,rfl,f,R⟩;dsimp only[aR,aN];have hbound:E0* (cD (λv=>1) ((cv ls).take i)+j)+E0+2<=134217728:=by
    have k1:cD (λv=>1) ((cv ls).take i)+j<=100:=by lia
    have k2:=y9 E0 k1;have k3:=abu;lia
   refine#[_,Z,_,Z,p,pc,x0,J,z,u,_,E0,Z,.inl (.inl f),.inl (.inl (S7 _ _ U)),R.2.1,e3,R.2.2.1,R.2.2.2.1,e4,e5,hbound,λr hr0=>#[S7.trans (ag.new hr0),r,_,_,_,Z,aA,?_]];rw[zb,zb,<-jF,<-jF,<-tw];exact R.step e2 e3 e4 e5
  .rintro g H7 m;rcases m with⟨S7,p,v6,x0,J,rfl,f,R⟩;have S37:=S36.trans S7;refine#[S3.trans S37,S37 _ _ hfz,#[p,_,_,_,_,x0,J,Z,f,?_],λe O=>?_]
   .rw[take_snoc M,FY,FY,uj]
    try dsimp only
    rw[e1,cI,jG];exact R
   .rw[take_snoc M] at O;obtain O|O:=df.mp O
    .exact I e O
    .rw[cj] at O;subst O;rw[e1];exact#[#[e3,by rw[wk];exact e2],by show(0:Int)<=(z:Nat);simp]
 .rintro g H3 m;rcases m with⟨S3,hfz,⟨p,v3,v4,v5,v6,x0,J,rfl,f,R⟩,I⟩;rw[sX,eV] at R I;have SH3:=S0.trans S3;refine#[_,Z,p,_,_,_,Z,Z,.inl (.inl f),Z,_,Z,p,_,_,_,Z,Z,.inl (.inl f),Z,cb,λt ht=>q.keep hS Z (SH3.trans (ag.new ht)) (SH3.free ht) ?_]
  have hall:∀l∈ls,iW (gq x.model x.chances l)/\0<=(gq x.model x.chances l).num:=λl hl=>by
   obtain⟨e,O,e1⟩:=bK.mp (F3 l hl);rw[<-e1];exact I e O
  have e:Ee x.model x.chances x.data=#[(x0:Int),J]:=by
   rw[R.2.2.2.2.2,<-abw hall,hd];delta Ee;rw[eU];rfl
  rw[aA,show(eI (aa x) .likely).2=Lc (Ee x.model x.chances x.data) from Z,e];rfl
end
theorem RT{x:jh}(hx:HOK x ls)(A:l∈ls)(E:fN x.model x.chances l W B)(hz:sumTo (aI (aq x.model) l) W=0):rC x=ai:=by
 delta rC;rw[hx.2.2.1,qG];refine#[rowOf (aq x.model) l,bK.mpr #[l,A,Z],?_];rw[x9 (hx.2.2.2.2 l A).1 E,fJ,vP E.1,hz];rfl
theorem RU{x:jh}(hx:HOK x ls)(h:∀l∈ls,∃W B,fN x.model x.chances l W B/\0<sumTo (aI (aq x.model) l) W):rC x=az:=by
 delta rC;rw[hx.2.2.1,yP];intro r hr;obtain⟨l,A,rfl⟩:=bK.mp hr;obtain⟨W,B,E,I⟩:=h l A;rw[x9 (hx.2.2.2.2 l A).1 E,fJ,vP E.1];lia
noncomputable def ES:Nat:=E0*100+7
theorem RV:ES+ES+2<=134217728:=by delta ES E0 CB;simp
theorem abz:E0*100+7<=ES:=bb _
theorem abA(h:iZ m ch (cv ls) ps)(U:ls.length<=100){f:Nat}(R:6*CB+10=f)(S:f*100+7<=e):
  0<fm ps/\fm ps<=2^e/\∀i x,i<m.columns.length->x<dF m i->(∀y∈cQ ps i x,y.1∣fm ps)/\cD (λb=>fm ps/b) (cQ ps i x)<=2^e:=by
 have T:=F8 h;have I:=YG h;rw[R] at I;have E:fm ps<=2^(f*100):=bF I (oZ (by simp) (y9 _ (by have:=F4 ls;lia)))
 refine#[T,bF E (oZ (by simp) (by grind)),λi x O hx=>#[λy J=>?_,?_]]
 .obtain⟨p,M,e⟩:=Pd ps i x y J;rw[e];exact BA M
 .have A:m.columns[i]? =aa m.columns[i]:=aY O;rw[wc A] at hx;have k:=YI h A hx;rw[F5] at k;have k2:fm ps*ls.length<=2^(f*100)*2^7:=nv E (by lia)
  rw[<-qQ] at k2;exact bF k (bF k2 (oZ (by simp) S))
theorem RW(h:iZ m ch (cv ls) ps)(A:ls.length<=100):
  0<fm ps/\fm ps<=2^ES/\∀i x,i<m.columns.length->x<dF m i->(∀y∈cQ ps i x,y.1∣fm ps)/\cD (λb=>fm ps/b) (cQ ps i x)<=2^ES:=abA h A (f:=E0) (by delta E0;rfl) abz
theorem RX(h:iZ m ch (cv ls) ps)(A:ls.length<=100):
  ∃e,e+e+2<=134217728/\0<fm ps/\fm ps<=2^e/\∀i x,i<m.columns.length->x<dF m i->(∀y∈cQ ps i x,y.1∣fm ps)/\cD (λb=>fm ps/b) (cQ ps i x)<=2^e:=#[ES,RV,RW h A]
theorem RY{A:Type}(a:Nat)(F:Nat->A):∀b,aO (a+b) F=aO a F ++aO b λv=>F (a+v)
 |0=>by show aO a F=_++[];rw[l8]
 |b+1=>by rw[<-tw,iY,RY a F b,iY,kf]
theorem RZ{A:Type}(b:Nat)(F:Nat->A):∀a,(aO a λg=>aO b λv=>F (g*b+v)).flatten=aO (a*b) F
 |0=>by rw[uP];rfl
 |a+1=>by rw[iY,Cp,RZ b F a,uO,RY];simp
theorem R0{A E:Type}(f:A->List E):∀L:List (List A),L.flatMap (λg=>g.flatMap f)=L.flatten.flatMap f
 |[]=>Z
 |g::L=>by rw[l_,wt,Hw,R0 f L]
noncomputable def kR(m:dz)(F:Nat->Nat->cK)(i:Nat):List Int:=match m.columns[i]? with
 |none=>[]
 |some c=>(bw m.columns c.parents:Int)::(aD c.kind:Int)::(aO (dF m i) (F i)).flatMap kv
theorem R1{F:Nat->Nat->cK}(A:m.columns[i]? =aa c):kR m F i=(bw m.columns c.parents:Int)::(aD c.kind:Int)::(aO (dF m i) (F i)).flatMap kv:=by delta kR;rw[A]
theorem R3(ax:cO m.columns)(i:Nat):dF m i<=512:=by
 delta dF;cases A:m.columns[i]? with
 |none=>show 0<=512;simp
 |some c=>have:=(ax i c A).2.2.2.2;rw[d5] at this;exact this
theorem abB(ax:cO m.columns)(F:Nat->Nat->cK)(i:Nat):(kR m F i).length<=1026:=by
 delta kR;cases A:m.columns[i]? with
 |none=>show 0<=1026;simp
 |some c=>
  have:=R3 ax i;rw[bP,bP,yB,b5];lia
theorem R4{m:dz}(ax:cO m.columns)(F:Nat->Nat->cK):∀n,((fg n).flatMap (kR m F)).length<=1026*n
 |0=>bb _
 |n+1=>by
  have E:=R4 ax F n;have A:=abB ax F n;rw[y1,yC,b6];lia
theorem abC{x:jh}(hx:HOK x ls)(E:iZ x.model x.chances (cv ls) ps)(M:rC x=az):iM (z_ x)=(x.model.columns.length:Int)::(fg x.model.columns.length).flatMap (kR x.model λi y=>cS (cQ ps i y)):=by
 delta z_;rw[M,aw cZ];delta iM
 try dsimp only
 congr 1
 rw[Cn,Cn]
 congr 1
 refine i9 λi I=>?_;have I:i<x.model.columns.length:=gx.mp I;have A:x.model.columns[i]? =aa x.model.columns[i]:=aY I;generalize x.model.columns[i]=c at A;rw[hx.2.2.1,Pg hx.1.2.2.1 A,b5,R1 A,iX A,R0,RZ,wc A];rw[jY λy J=>(Pf E A J).symm]
section
variable {w:aS}{base:aU}
theorem abD(T:TX K mg a d)(hP:P.given.tree=ae):aV P w K mg base bo 46 a.oz d.oz ["held","call"] (gX a K λz z k=>k=.expect):=by
 refine T.oz.ok bE λnD cdv A outer s H vs Q E hr h=>?_;rcases h with⟨h,c,Hi,n,e,nums,l,x,k,rfl,hS,hC,rfl,q⟩;rcases id hS with⟨S,hh,dx,mo,rl,bl,ras,ts,ls,hH,sep,hx⟩;rcases id hx with⟨md,chok,hd,hl,hro⟩;rcases id hH with⟨h1,⟨dm,tb,cl,os,m1,m2,m3,m4⟩,h3,h4,h5,h6,Si⟩;have ax:=md.2.2.1;have hol:=bS m4;have es:(eI (aa x) .expect).2=z_ x:=Z;refine#[_,(ay (aM 2 (aK (aK (pv 0) Z) Z))
   (ay (V5 T.Gm Z Z Z T.Gh (λz z z W=>(aF (aM 3 (ek T.oa (RC T hP) (ej W) (ah (pv 2) (ah (qy (K:=K) (pv 0) Z) (ah (qy (K:=K) (pv 0) Z) ak))))))) (λz=>(aF (aZ (bU (ah (bZ Z T.Gf) ak))))))
   (ay (aM 4 (bU (ah (cz (c8) Z T.de c_ (ah (pv 2) ak)) ak)))
   (ay (du dM Z (rV Z T.sM (ah (pv 3) ak)) (iP Z (dj (bJ 5) (dj (bJ 6) gJ))) (ay (dU (eP eO rj vc EJ (pv 4) (ah (a_ T.oB (GL T) (ah (pv 2) (ah (pv 5) ak))) ak)))
   (aF (du dM Z (d_ (pv 6)) (bJ 7) (aF (dU (eP eO rj vc Fc (pv 4) (ah (a_ T.qh (RA T hP) (ah (pv 7) ak)) ak))))))))
   (aF (aZ (pv 4))))))),?_]
 refine#[_,Z,h,_,dx,_,_,Z,h1,T.cH,T.iA,jD,mo,_,dm,_,_,Z,Si _ _ m1,T.iz,T.jt,j7,?_];dsimp only[aR,aN,L2.start];refine#[λz z H'=>ag H H'/\rC x=ai,λod H' ⟨O,hz⟩ σ' z=>#[cb,λt ht=>q.keep hS Z (O.trans (ag.new ht)) (O.free ht) ?_],?_]
 .rw[aA,es];delta z_;rw[aC hz];rfl
 refine#[_,Z,_,Z,h,_,dx,_,_,Z,h1,T.cH,T.i6,ng,_,Z,h,_,dx,_,_,Z,h1,T.cH,T.kM,nc,cl,bl,rl,os,ts,ras,x.model,x.chances,ls,Hi,Z,ao.of (Si _ _ m3),m4.same Si,ax,md.2.1,ao.of h5,Si,h6,chok,ao.of h3,h4.same Si,by lia,hro,λl hl W B hW hz H' O=>#[O,RT hx hl hW hz],λH1 pl qa da ps S1 bC M hinj hps hpos=>?_]
 have hhn:=RU hx hpos;rcases RW hps hl with⟨g1,g2,g3⟩;have R:=S1 _ _ (Si _ _ m3);have hcs1:=(m4.same Si).same S1;dsimp only[aR,aN,di,cN];refine#[_,Z,cl,_,Z,.inl (ao.of R),cb,λt ht0=>?_]
 have St:ag H1 (upd H1 t (.lst [.int ((os.map V.ref).length:Nat)])):=ag.new ht0;have ht2:upd H1 t (.lst [.int ((os.map V.ref).length:Nat)]) t=aa (.lst (nV ((x.model.columns.length:Int)::(fg 0).flatMap (kR x.model λi y=>cS (cQ ps i y))))):=by rw[aA,aJ,hol];rfl
 generalize upd H1 t (.lst [.int ((os.map V.ref).length:Nat)])=H2 at St ht2;dsimp only[aR,aN,L2.start];have hne:∀{b:af}{u:HO},H1 b=aa u->b≠t:=λe=>bc e ht0;have Y:∀{H':Hp}{b:af}{u:HO},ag (Wo H2 t) H'->H1 b=aa u->H' b=aa u:=λO e=>O _ _ (aQ (hne e) (St _ _ e));refine#[_,Z,pl,_,Z,ao.of (St _ _ M.1),sU (a:=pl) (xs:=aO x.model.columns.length λi=>V.ref (qa i)) 5 6 (λT' x y m H Q hT hQ=>#[T',_,Z,.inl (.inl hT),Z,_,_,Z,_,_,Z,Z,hQ]) (λi m H'=>ag (Wo H2 t) H'/\H' t=aa (.lst (nV ((x.model.columns.length:Int)::(fg i).flatMap (kR x.model λi y=>cS (cQ ps i y)))))/\∃(v5 v6 U:Option V),m=[aa (.ref h),aa (.ref c),aa (.ref cl),aa (.ref pl),aa (.ref t),v5,v6,U]) #[cU,ht2,_,_,_,Z] (λi m H' z ⟨O,_⟩=>ao.of (Y O M.1)) ?_ ?_]
 .rintro i y m H3 f ⟨S3,I,v5,v6,U,rfl⟩ H4 S4;have hi:=by have:=(bx.mp f).1;rw[b5] at this;exact this
  rw[cT _ hi] at f;obtain rfl:=bf f;have hc:=aY hi;generalize x.model.columns[i]=co at hc;have hsz5:=R3 ax i;have hlen0:=R4 ax (λi y=>cS (cQ ps i y)) i;have h6c:=md.2.1;have S34:=S3.trans S4;dsimp only[aN];refine#[_,Z,.inl #[Z,_,ao.of (S4 _ _ I)],_,Z,_,Z,cl,i,os,x.model.columns,co,Z,ao.of (Y S34 R),hcs1.same λb u e=>Y S34 e,ax.cV,hc,λj hj=>gy ((ax i co hc).2.2.1 j hj) hi,λp hp=>?_];have hpt:=bc (S4 _ _ I) hp;refine#[t,p,_,_,Z,Z,by rw[aB hpt];exact S4 _ _ I,aA,?_,?_]
  .rw[iD,bP,bQ];show _+2<=_;lia
  have S5:ag (Wo H2 t) (upd (upd H4 p (.lst [.int (bw x.model.columns co.parents:Nat),.int (aD co.kind:Nat)])) t (.lst (nV ((x.model.columns.length:Int)::(fg i).flatMap (kR x.model λi y=>cS (cQ ps i y)))++[.int (bw x.model.columns co.parents:Nat),.int (aD co.kind:Nat)]))):=λb u e=>by
   obtain⟨e1,e2⟩:=bh e;rw[aB e1];exact ag.new hp _ _ (S34 _ _ e)
  have ht5:upd (upd H4 p (.lst [.int (bw x.model.columns co.parents:Nat),.int (aD co.kind:Nat)])) t (.lst (nV ((x.model.columns.length:Int)::(fg i).flatMap (kR x.model λi y=>cS (cQ ps i y)))++[.int (bw x.model.columns co.parents:Nat),.int (aD co.kind:Nat)])) t=aa (.lst (nV ((x.model.columns.length:Int)::((fg i).flatMap (kR x.model λi y=>cS (cQ ps i y))++((bw x.model.columns co.parents:Int)::(aD co.kind:Int)::(aO 0 λy=>cS (cQ ps i y)).flatMap kv))))):=by
   rw[aA];delta nV;rw[b7,b7,bR];rfl
  generalize upd (upd H4 p (.lst [.int (bw x.model.columns co.parents:Nat),.int (aD co.kind:Nat)])) t (.lst (nV ((x.model.columns.length:Int)::(fg i).flatMap (kR x.model λi y=>cS (cQ ps i y)))++[.int (bw x.model.columns co.parents:Nat),.int (aD co.kind:Nat)]))=H5 at S5 ht5;refine#[_,Z,qa i,Z,#[_,ao.of (Y S5 (M.2.1 i hi))],gf (a:=qa i) (xs:=aO (dF x.model i) λy=>V.ref (da i y)) (λj m H'=>ag (Wo H2 t) H'/\H' t=aa (.lst (nV ((x.model.columns.length:Int)::((fg i).flatMap (kR x.model λi y=>cS (cQ ps i y))++((bw x.model.columns co.parents:Int)::(aD co.kind:Int)::(aO j λy=>cS (cQ ps i y)).flatMap kv)))))/\∃(U:Option V),m=[aa (.ref h),aa (.ref c),aa (.ref cl),aa (.ref pl),aa (.ref t),aa (.int (i:Nat)),aa (.ref (qa i)),U]) #[S5,ht5,_,Z] (λj m H' z ⟨O,_⟩=>ao.of (Y O (M.2.1 i hi))) ?_ ?_]
  .rintro j y m H6 f v;rcases v with⟨S6,J,U,rfl⟩;have hj:=by have:=(bx.mp f).1;rw[b5] at this;exact this
   rw[cT _ hj] at f;obtain rfl:=bf f;obtain⟨k1,k2⟩:=g3 i j hi hj;dsimp only[aN];refine#[_,Z,.inl #[Z,_,ao.of J],_,Z,da i j,cQ ps i j,fm ps,ES,Z,Y S6 (M.2.2 i j hi hj),g1,g2,k1,k2,RV,λH7 p7 S7 hp7 hpn=>#[t,p7,_,_,Z,Z,S7 _ _ J,hp7,?_,λb u e=>?_,?_,_,Z]]
   .rw[iD,bP,b6,bP,bP,yB,b5,bQ];show _+2<=_;lia
   .obtain⟨e1,e2⟩:=bh e;rw[aB e1];exact S7 _ _ (S6 _ _ e)
   .rw[aA,iY,yC];delta nV;simp only[b7,bR,kf,uH];rfl
  .rintro m H6 v;rcases v with⟨S6,J,U,rfl⟩;rw[b5] at J;refine#[S6,?_,_,_,_,Z];rw[J,y1,yC,R1 hc]
 .rintro m H3 v;rcases v with⟨S3,I,v5,v6,U,rfl⟩;rw[b5] at I;refine#[_,Z,q.keep hS Z (λb u e=>Y S3 (S1 _ _ e)) (S1.free ht0) ?_];rw[I,es,abC hx hps hhn]
end
end CC
namespace L2
theorem abE{o value:bW}{f:au}{A:TE}{pos':iJ}(J:PE X o ta)(E:PE X value A)(I:pd value (aa (.Attribute o f pos')) pos.line X.env=pure az)(M:X.K=K:=by rfl):PS X (.Assign [.Attribute o f pos'] value pos) (LP K ta A f):=M▸dv J E I
end L2
namespace CC
theorem abF{ws:List Int}{o:List cK}(hw:∀x∈ws,0<=x)(E:∀f∈o,iW f/\0<=f.num):∀f∈e_ ws o,iW f/\0<=f.num:=by
 intro f A;delta e_ at A;by_cases h:ws.sum=0
 .rw[aC h] at A;exact E f A
 .rw[aw h] at A;obtain⟨x,hx,rfl⟩:=bK.mp A;have:=x8 hw;exact#[vJ (by lia),x6 (by lia) (hw x hx)]
theorem abG{ws:List Int}{o:List cK}(h:ws.length=n)(A:o.length=n):(e_ ws o).length=n:=by
 delta e_
 split
 .exact A
 .rw[aJ];exact h
theorem abH{fs:Nat->cK}:∀x∈gW s fs,0<=x:=λx hx=>by
 obtain⟨v,_,rfl⟩:=bK.mp hx;simp
theorem R5(I:gN m.columns ch){t':cx}(h:(jC m F ch)[i]? =aa t'):∃c t,m.columns[i]? =aa c/\ch[i]? =aa t/\t'=ka (aD c.kind) (λx=>cS (F i x)) t:=by
 have E:=(bx.mp h).1;rw[B3] at E;have A:i<m.columns.length:=by rw[<-I.1];exact E
 have M:m.columns[i]? =aa m.columns[i]:=aY A;have J:ch[i]? =aa ch[i]:=aY E;rw[yy M J] at h;exact#[_,_,M,J,(bf h).symm]
theorem R6{fs:Nat->cK}{t:cx}{g':List cK}(h:g'∈ka s fs t):∃j o,t[j]? =aa o/\g'=e_ (gW s λv=>fs (j*s+v)) o:=by
 obtain⟨j,A⟩:=kh.mp h;have I:=(bx.mp A).1;rw[B2] at I;have E:t[j]? =aa t[j]:=aY I;rw[yx E] at A;exact#[j,_,E,(bf A).symm]
theorem G5(A:gN m.columns ch):∀t∈jC m F ch,∀g∈t,∀f∈g,iW f/\0<=f.num:=by
 intro t J g R;obtain⟨i,O⟩:=kh.mp J;obtain⟨c,I,T,E,rfl⟩:=R5 A O;obtain⟨j,o,M,rfl⟩:=R6 R;exact abF abH λf S=>by
  have:=((A.2 i c I T E).2 o (dg M)).2 f S;exact#[this.1,this.2.1]
theorem abI(A:gN m.columns ch)(M:∀t∈jC m F ch,∀g∈t,∀f∈g,gT f):gN m.columns (jC m F ch):=by
 refine#[by rw[B3];exact A.1,λi c t T J=>?_]
 obtain⟨c',U,E,I,rfl⟩:=R5 A J;rw[T] at E;obtain rfl:=bf E;obtain⟨d1,d2⟩:=A.2 i c U T I;refine#[by rw[B2];exact d1,λg O=>?_]
 have h1:=M _ (dg J) g O;have a:=G5 A _ (dg J) g O;obtain⟨j,o,Y,rfl⟩:=R6 O;refine#[abG (b5 _ _) (d2 o (dg Y)).1,λf S=>?_];obtain⟨V,R⟩:=h1 f S;obtain⟨f1,f2⟩:=a f S;refine#[f1,f2,V,?_];have e:((10^40:Nat):Int)=(10^40:Int):=by rw[Hg];rfl
 rw[<-e] at R;exact Int.ofNat_le.mp R
theorem abJ{gz:Nat}{e:Nat->cK}{t:cx}(J:t.length=gz)(h:∀y,y<gz*s->iW (e y)/\0<=(e y).num):ka s e t=Vaprbp.sharesAll (aO gz λg=>aO s λv=>e (g*s+v)) t:=by
 rw[FO];refine l9 λg=>?_;by_cases E:g<gz
 .have A:t[g]? =aa t[g]:=aY (by simp_all)
  generalize t[g]=o at A;rw[yx A,Ct,cT _ E,A]
  try dsimp only
  rw[YK (e:=e) (s:=s) (g:=g) λv I=>h _ ?_]
  .rfl
  .have:=ja s (show g+1<=gz from E);rw[uO] at this;lia
 .rw[fz (by rw[B2];simp_all),fz (by rw[Cy,b5];simp_all)]
theorem abK{x:jh}(hx:HOK x ls)(I:iZ x.model x.chances (cv ls) ps):jC x.model (cQ ps) x.chances=Ej x.model x.data x.chances:=by
 obtain⟨R,A,hd,V,U⟩:=hx;obtain⟨eS,g0,g1,g2,a⟩:=RX I V;delta Ej;refine l9 λi=>?_;by_cases M:i<x.model.columns.length
 .have E:x.model.columns[i]? =aa x.model.columns[i]:=aY M;have O:i<x.chances.length:=by rw[A.1];exact M
  have J:x.chances[i]? =aa x.chances[i]:=aY O;generalize x.model.columns[i]=c at E;generalize x.chances[i]=t at J;obtain⟨d1,d2⟩:=A.2 i c t E J;rw[yy E J,bL,wx M,uQ,J,CM,hd,Pg R.2.2.1 E];rw[abJ (gz:=bw x.model.columns c.parents) d1 λy T=>?_]
  .congr 2
   refine jY λg Y=>jY λv hv=>?_;refine Pf I E ?_;have:=ja (aD c.kind) (show g+1<=bw x.model.columns c.parents from Y);rw[uO] at this;lia
  .obtain⟨S,k2⟩:=a i y M (by rw[wc E];exact T)
   rcases GW g1 g2 S k2 with⟨x0,y0,e1,e2,e3,_⟩;rw[e1];exact#[#[e3,by rw[wk];exact e2],by show(0:Int)<=(x0:Nat);simp]
 .rw[fz (by rw[B3,A.1];simp_all),fz (by rw[aJ,me];simp_all)]
theorem R7{f:cK}(h:0<=f.num):(decide (10^40<f.num.natAbs) ||decide (10^40<f.den))=ai↔¬gT f:=by
 have e:((10^40:Nat):Int)=(10^40:Int):=by rw[Hg];rfl
 delta gT;rw[<-e,wj,fD,fD];generalize(10^40:Nat)=N;lia
theorem R8{cs:List cx}(J:∀t∈cs,∀g∈t,∀f∈g,iW f/\0<=f.num):Ab cs=ai↔∃t∈cs,∃g∈t,∃f∈g,¬gT f:=by
 delta Ab;rw[qG];constructor
 .rintro⟨t,A,h⟩;obtain⟨g,E,h⟩:=qG.mp h;obtain⟨f,I,h⟩:=qG.mp h;exact#[t,A,g,E,f,I,(R7 (J t A g E f I).2).mp h]
 .rintro⟨t,A,g,E,f,I,h⟩;exact#[t,A,qG.mpr #[g,E,qG.mpr #[f,I,(R7 (J t A g E f I).2).mpr h]]]
theorem qD.mono{r:nH×vn}(S:ag H H1)(q:qD a K h H Hi r Q):qD a K h H1 Hi r Q:=λH' E t M J I A=>q H' E t M J (S.free I) A
section
variable {w:aS}{base:aU}
theorem abL(T:TX K mg a d)(hP:P.given.tree=ae):aV P w K mg base bo 47 a.oA d.oA ["held","call"] (gX a K λy y k=>k=.step):=by
 refine T.oA.ok bE λnD cdv A outer s H vs Q E hr h=>?_;rcases h with⟨h,c,Hi,n,e,nums,l,x,k,rfl,hS,hC,rfl,q⟩;rcases id hS with⟨S,hh,dx,mo,rl,bl,ras,ts,ls,hH,sep,hx⟩;rcases id hx with⟨md,I,hd,hl,hro⟩;rcases id hH with⟨h1,⟨dm,tb,cl,os,m1,m2,m3,m4⟩,h3,h4,h5,h6,R⟩;have ax:=md.2.2.1;rw[show eI (aa x) .step=Le x from Z] at q;delta Le at q;refine#[_,(ay (V6 T.Gm T.PR T.Zy Z Z Z T.Gh Z T.PD (λy y y y W W2=>(ay (aM 2 (ek T.oa (RC T hP) (ej W) (ah (qy (K:=K) (qy (K:=K) (pv 0) Z) Z) (ah (qy (K:=K) (pv 0) Z) (ah (qy (K:=K) (pv 0) Z) ak)))))
   (aF (abE (K:=K) (pv 0) (ek T.qi (aa2 T hP) (ej W2) (ah (pv 2) (ah (qy (K:=K) (pv 0) Z) ak))) Z)))) (λy=>(aF (aZ (bU (ah (bZ Z T.Gf) ak))))) (λy=>(aF (aZ (bU (ah (bZ Z T.Y8) ak))))))
   (aF (aZ (bU (ah aX ak))))),?_]
 refine#[λy y H'=>ag H H'/\rC x=ai,λy y H'=>ag H H'/\rC x=az/\Ab (Ej x.model x.data x.chances)=ai,λod H' ⟨M,hz⟩ σ' y=>#[cb,λt J=>?_],λod H' ⟨M,hz,hb⟩ σ' y=>#[cb,λt J=>?_],?_]
 .rw[aC hz] at q;refine q.keep hS Z (M.trans (ag.new J)) (M.free J) ?_;rw[aA];rfl
 .rw[aw (by rw[hz];exact cZ),aC hb] at q
  refine q.keep hS Z (M.trans (ag.new J)) (M.free J) ?_;rw[aA];rfl
 refine#[_,Z,h,_,dx,_,_,Z,h1,T.cH,T.iA,jD,mo,_,dm,_,_,Z,R _ _ m1,T.iz,T.jt,j7,_,Z,h,_,dx,_,_,Z,h1,T.cH,T.i6,ng,_,Z,h,_,dx,_,_,Z,h1,T.cH,T.kM,nc,cl,bl,rl,os,ts,ras,x.model,x.chances,ls,Hi,Z,ao.of (R _ _ m3),m4.same R,ax,md.2.1,ao.of h5,R,h6,I,ao.of h3,h4.same R,by lia,hro,λl hl W B hW hz H' M=>#[M,RT hx hl hW hz],λH1 pl qa da ps O bC hC1 hinj V Y=>?_]
 have b:=RU hx Y;rcases RX V hl with⟨eS,g0,g1,g2,g3⟩;have he:=abK hx V;rw[aw (by rw[b];exact cZ),<-he] at q
 dsimp only[aR,aN,L2.start];refine#[_,Z,_,Z,h,_,dx,_,_,Z,O _ _ h1,T.cH,T.i6,ng,pl,bl,x.model,qa,da,cQ ps,fm ps,eS,ts,x.chances,Hi,Z,hC1,ax,md.2.1,ao.of (O _ _ h5),R.trans O,h6.same O (ag.refl _),I,g1,g2,g3,g0,λhbad H' M=>#[O.trans M,b,by rw[<-he];exact(R8 (G5 I)).mpr hbad],λU H2 fl ts' S2 hfl hfl' hnd hts htb=>#[_,Z,h,_,dx,_,Z,S2 _ _ (O _ _ h1),T.cH,T.i6,dq,?_]]
 rw[B7];have hnl:¬Ab (jC x.model (cQ ps) x.chances)=ai:=λz=>by
  obtain⟨t,J,g,hg,f,hf,hb⟩:=(R8 (G5 I)).mp z;exact hb (U t J g hg f hf)
 rw[aw hnl] at q;exact#[cb,λt J=>G4 (hH.same O) sep hx hh S2 hfl hfl' hnd hts htb (abI I U) (q.mono O) J]
end
end CC
namespace L2
theorem R9{e:bW}{f:au}(A:PE X e ta)(E:o8 e f X.env (bT e X.env)=bT e X.env)(I:X.K=K:=by rfl):PE X (.Attribute e f pos) (Nd K ta f):=I▸VZ A E
end L2
namespace CC
theorem abM:b_ "model" y (dQ [x0,x1,x2])=dQ [y,x1,x2]:=by kernel_rfl
theorem abN:b_ "rows" y (dQ [x0,x1,x2])=dQ [x0,y,x2]:=by kernel_rfl
theorem abO{D A}{k:au}{fs}(h:k≠"model"):HO.ins C dx (dQ [x0,x1,x2])≠HO.ins D A ((k,y)::fs):=λz=>by
 injection z with _ _ z
 injection z with z _
 exact h (congrArg d7 z).symm
theorem oS.wo(e:H h=aa (.ins C dx (dQ [x0,x1,x2])))(x:oS a H o m):oS a (Wo H h) o m:=by
 have lst:∀{b}{ys},H b=aa _->Wo H h b=aa (.lst ys):=λq=>aQ (λz=>by subst z;rw[e] at q;cases q) q
 have ins:∀{b D J}{k:au}{y}{fs},k≠"model"->H b=aa _->Wo H h b=aa (.ins D J ((k,y)::fs)):=λA q=>aQ (λz=>by subst z;rw[e] at q;exact abO A (bf q)) q
 obtain⟨dm,tb,cl,os,T,S,R,O⟩:=x;refine#[dm,tb,cl,os,ins (by decide) T,lst S,lst R,Paired.eJ O λo c ⟨dc,M,k,p,d,Y,E,U⟩=>#[dc,M,k,p,ins (by decide) d,lst Y,?_,lst U]]
 cases A:c.kind with
 |flag=>rw[A] at E;obtain⟨I,g⟩:=E;exact#[I,ins (by decide) g]
 |num lo hi=>rw[A] at E;obtain⟨I,g⟩:=E;exact#[I,ins (by decide) g]
theorem HS.obj{s}(x:HS a K H Hi h s):∃dx J I E,H h=aa (.ins a.Held dx (dQ [J,I,E])):=by
 obtain⟨R,O,A⟩:=x;cases s with
 |none=>rcases A with⟨dx,rl,bl,e⟩;exact#[dx,_,_,_,e]
 |some x=>rcases A with⟨dx,mo,rl,bl,ras,ts,ls,M,_⟩;exact#[dx,_,_,_,M.1]
theorem step_load(s:nH)(b:cA):eI s (.load b)=match nI b with
 |.ok m=>(aa #[m,[],tV m],{value:=1})
 |.error f=>(s,{value:=0,rest:=[(f.code:Int),(f.place:Int)]}):=by cases s<;>rfl
theorem abP{c}:(fcp c p).lookup ("code":au)=aa (.int c):=by kernel_rfl
theorem abQ{c}:(fcp c p).lookup ("place":au)=aa (.int p):=by kernel_rfl
section
variable {w:aS}{base:aU}
inductive R_(a:Ad)(K:aP)(vs:List V)(H:Hp)(Q:VK)(x_0:XK):Prop|m:∀(h c:af)(Hi:Hp)(n e:Int)(nums:List Int)(b:cA)(s:nH),vs=[.ref h,.ref c]->HS a K H Hi h s->(kb a K Hi c n nums (b.map λx=>(x.toNat:Int)) e)->b.length<=8192->qD a K h H Hi (eI s (.load b)) Q->R_ a K vs H Q x_0
theorem abR(T:TX K mg a d):aV P w K mg base bo 51 a.kK d.kK ["held","call"] (R_ a K):=by
 refine T.kK.ok bE λnD cdv A outer s H vs Q E hr h=>?_;obtain⟨h,c,Hi,n,e,nums,b,st,rfl,hS,hC,hb,q⟩:=h;obtain⟨dx,v0,v1,M,h1⟩:=hS.obj;obtain⟨S,hh,_⟩:=id hS;obtain⟨dc,nl,ll,c1,c2,c3⟩:=hC;have C3:=by
  have:=S.seq c3;unfold nV at this;rw[eU] at this;exact this
 refine#[_,(ay (V1 (i:=3) T.xt Z Z Z nD Z Z Z T.i4 (λx x x W=>(aF (aM 2 (ek T.sH (aad T) (ej W) (ah (qy (K:=K) (pv 1) Z) ak))))) (λx=>(aF (aZ (bU (ah aX (ah (R9 (K:=K) (pv 3) Z) (ah (R9 (K:=K) (pv 3) Z) ak))))))))
   (ay (dv (pv 0) (pv 2) Z)
   (ay (dv (pv 0) (bU ak) Z)
   (ay (dv (pv 0) (a_ T.n_ (QO T) (ah (aK (pv 2) Z) ak)) Z)
   (aF (aZ (bU (ah aX ak)))))))),?_]
 refine#[λx od H'=>∃f dx,od=aa dx/\nI b=.error f/\ag H H'/\H' dx=aa (kE dx (fcp f.code f.place)),λod H' ⟨f,dx,hod,_⟩=>#[dx,hod],λdx' H' ⟨f,dx2,hod,R,S',V⟩ σ' a0 hσ ha0=>?_,?_]
 .obtain rfl:=bf hod
  match σ',hσ with
  |[s0,s1,s2,s3],_=>
   have hne:=bc V ha0;have Sa:ag H' (upd H' a0 (ExF a0 a.Fault dx')):=ag.new ha0;refine#[_,Z,a0,_,dx',_,_,Z,aA,Sa _ _ V,#[_,T.xt],T.PJ,abP,_,Z,a0,_,dx',_,_,Z,aA,Sa _ _ V,#[_,T.xt],T.PK,abQ,cb,λt ht=>?_]
   have S2:=S'.trans Sa;refine q.keep hS (by rw[step_load,R]) (S2.trans (ag.new ht)) (S2.free ht) ?_
   rw[aA];have:(eI st (.load b)).2={value:=0,rest:=[(f.code:Int),(f.place:Int)]}:=by rw[step_load,R]
   rw[this];rfl
 refine#[_,Z,c,_,dc,_,_,Z,S _ _ c1,T.eG,T.m7,oO,ll,b,Z,C3,hb,?_];cases R:nI b with
 |error f=>exact λH' dx S' V=>#[f,dx,Z,Z,S',V]
 |ok m=>
  intro H1 o S1 hM;have U:=X2 R;have es:eI st (.load b)=(aa #[m,[],tV m],{value:=1}):=by rw[step_load,R]
  rw[es] at q;have h1':=S1 _ _ h1;have hMw:=hM.wo h1';obtain⟨dm,tb,cl,os,m1,m2,m3,m4⟩:=id hMw;dsimp only[aR,aN,L2.start,di,cN];refine#[_,Z,_,Z,h,_,dx,_,Z,h1',T.cH,T.iA,dq,?_]
  rw[abM];refine#[c7 _,λrl g=>?_];have hrh:rl≠h:=λz=>by subst z;rw[aA] at g;cases g
  have hrl1:=by rw[aB hrh] at g;exact g
  refine#[_,Z,h,_,dx,_,Z,by rw[aB (bG hrh),aA],T.cH,T.kM,dq,?_]
  rw[abN];have W1:ag (Wo H1 h) (upd (upd (upd H1 h (.ins a.Held dx (dQ [.ref o,v1,M]))) rl (.lst [])) h (.ins a.Held dx (dQ [.ref o,.ref rl,M]))):=λY u e=>by
   obtain⟨e1,e2⟩:=bh e;rw[aB e1,aB (bc e2 hrl1),aB e1];exact e2
  have e4h:upd (upd (upd H1 h (.ins a.Held dx (dQ [.ref o,v1,M]))) rl (.lst [])) h (.ins a.Held dx (dQ [.ref o,.ref rl,M])) h=aa (.ins a.Held dx (dQ [.ref o,.ref rl,M])):=aA;have e4r:upd (upd (upd H1 h (.ins a.Held dx (dQ [.ref o,v1,M]))) rl (.lst [])) h (.ins a.Held dx (dQ [.ref o,.ref rl,M])) rl=aa (.lst []):=by rw[aB hrh,aA]
  have e4f:∀{t:af},upd (upd (upd H1 h (.ins a.Held dx (dQ [.ref o,v1,M]))) rl (.lst [])) h (.ins a.Held dx (dQ [.ref o,.ref rl,M])) t=ae->H1 t=ae:=λ{t} e=>by
   have t1:t≠h:=λz=>by subst z;rw[aA] at e;cases e
   rw[aB t1] at e;have t2:t≠rl:=λz=>by subst z;rw[aA] at e;cases e
   rw[aB t2,aB t1] at e;exact e
  generalize upd (upd (upd H1 h (.ins a.Held dx (dQ [.ref o,v1,M]))) rl (.lst [])) h (.ins a.Held dx (dQ [.ref o,.ref rl,M]))=H4 at W1 e4h e4r e4f;refine#[_,Z,o,_,dm,_,_,Z,W1 _ _ m1,T.iz,T.jt,j7,cl,os,m.columns,Z,ao.of (W1 _ _ m3),m4.same W1,U.2.2.1,by have:=U.2.1;lia,λH5 J I S5 hfl hfl' hnd hts htb=>#[_,Z,h,_,dx,_,Z,S5 _ _ e4h,T.cH,T.i6,dq,?_]]
  rw[B7];refine#[cb,λt ht=>?_]
  have nn:∀{Y:af}{u:HO},H4 Y=aa u->Y∉J::I:=λe z=>by
   obtain z|z:=bM.mp z
   .subst z;rw[hfl] at e;cases e
   .rw[(hts _ z).1] at e;cases e
  have nh:=nn e4h;have nr:=nn e4r;have W2:ag (Wo H1 h) (dY H5 (h::rl::J::I)):=λY u e=>by
   refine iE (λz=>?_) (S5 _ _ (W1 _ _ e));obtain⟨e1,e2⟩:=bh e;obtain z|z:=bM.mp z
   .exact e1 z
   .obtain z|z:=bM.mp z
    .subst z;rw[hrl1] at e2;cases e2
    .exact nn (W1 _ _ e) z
  have SS:ag Hi (dY H5 (h::rl::J::I)):=λY u e=>W2 _ _ (aQ (λz=>by subst z;rw[hh] at e;cases e) (S1 _ _ (S _ _ e)))
  have S6:ag (dY H5 (h::rl::J::I)) (upd H5 h (.ins a.Held dx (dQ [.ref o,.ref rl,.ref J]))):=λY u e=>by
   obtain⟨e1,e2⟩:=j9 e;rw[aB λz=>e1 (by rw[z];exact bH)];exact e2
  have no:∀Y∈h::rl::J::I,dY H5 (h::rl::J::I) Y=ae:=λY hb'=>by delta dY;rw[aC hb']
  have hth:t≠h:=λz=>by subst z;rw[aA] at ht;cases ht
  have ht5:=by rw[aB hth] at ht;exact ht
  refine q _ (dY H5 (h::rl::J::I)) t SS (HS.same (ag.new ht) #[S6,no h (by simp),dx,o,rl,J,[],I,[],#[aA,hMw.same W2,by rw[aB hrh];exact S5 _ _ e4r,.nil,by rw[aB λz=>nh (by rw[<-z];exact bH)];exact hfl',?_,S6],#[no rl (by simp),no J (by simp),λz=>nr (by rw[z];exact bH),hnd,λt' O=>#[no t' (by simp[O]),λz=>nr (by rw[<-z];exact bI _ O),(hts t' O).2]],U,OM U.2.2.1,Z,by show 0<=100;simp,λl hl=>(dB hl).elim]) (S1.free (e4f (S5.free ht5))) (by rw[aA];rfl)
  rw[show(#[m,[],tV m]:jh).chances=m.columns.map (GK m.columns) from FH U.2.2.1];refine eA.at_ (eA.same (ag.refl _) (λY u e=>?_) htb) λt' O xs e=>by rw[aB λz=>nh (by rw[<-z];exact bI _ O)];exact e
  obtain⟨e1,e2⟩:=j9 e;obtain⟨e3,e4⟩:=jw e2;refine iE (λz=>?_) e4;obtain z|z:=bM.mp z
  .subst z;rw[e4h] at e3;cases e3
  .obtain z|z:=bM.mp z
   .subst z;rw[e4r] at e3;cases e3
   .exact e1 z
end
def Parsed(L:List Int)(i:Nat)(n:Int)(nums l:List Int)(e:Nat)(b:Bool):Prop:=
 L[i]? =aa n/\i+1+nums.length<=L.length/\(L.drop (i+1)).take nums.length=nums/\
  ((b=az/\l=[]/\e=i+1+nums.length)\/(b=ai/\∃k:Nat,L[i+1+nums.length]? =aa (k:Int)/\i+1+nums.length+1+k<=L.length/\(L.drop (i+1+nums.length+1)).take k=l/\e=i+1+nums.length+1+k))
theorem Sb{lo}(h:lo+k<=L.length){x y:Int}(hx:x=lo)(A:y=(lo+k:Nat)):jT (nV L) (aa x) (aa y)=nV ((L.drop lo).take k):=by
 subst hx A;unfold jT;rw[HT.rQ,HT.rQ,iD,qP (show lo<=L.length by lia),qP h,show lo+k-lo=k by simp]
 unfold nV;rw[CF,CA]
theorem Sd{A E x}{n e}(S:ag H H2)(U:H A=ae)(T:H2 A=aa (.lst (nV nums)))(R:H E=ae)(O:H2 E=aa (.lst (nV l)))(hx:H2 x=ae)(I:H2 dx=ae)(M:dx≠x):
  ag H (upd (upd H2 dx (.own x)) x (.ins a.Call dx (oN [.int n,.ref A,.ref E,.int e])))/\kb a K (gR H (upd (upd H2 dx (.own x)) x (.ins a.Call dx (oN [.int n,.ref A,.ref E,.int e])))) x n nums l e:=by
 have J:ag H2 (upd (upd H2 dx (.own x)) x (.ins a.Call dx (oN [.int n,.ref A,.ref E,.int e]))):=λb u z=>by rw[aB (bc z hx),aB (bc z I)];exact z
 exact#[S.trans J,dx,A,E,fO (S.free hx) aA,ao.of (fO U (J _ _ T)),ao.of (fO R (J _ _ O))]
section
variable {w:aS}{base:aU}
inductive Se(a:Ad)(K:aP)(vs:List V)(H:Hp)(Q:VK)(x_0:XK):Prop|m:∀(cl:af)(i:Nat)(L:List Int)(n:Int)(nums l:List Int)(e:Nat)(b:Bool)(f:af),vs=[.ref cl,.int (i:Nat)]->ao K H cl (nV L)->yc a n=aa (f,(nums.length:Int),b)->Parsed L i n nums l e b->(∀H' c,ag H H'->H c=ae->kb a K (gR H H') c n nums l (e:Nat)->Q (.ref c) H')->Se a K vs H Q x_0
theorem abS(T:TX K mg a d):aV P w K mg base bo 43 a.sL d.sL ["calls","at"] (Se a K):=by
 refine T.sL.ok bE λnD cdv A outer s H vs Q E hr h=>?_;rcases h with⟨cl,i,L,n,nums,l,e,b,f,rfl,Y,hT,⟨p1,p2,p3,p4⟩,q⟩;rcases T.calls with⟨es,ep,t1,t2,t3⟩;obtain⟨t,t4,t5⟩:=t3 n f nums.length b hT;refine#[_,(ay (aM 2 (bt b8 (pv 0) (pv 1)))
   (ay (aM 3 (NX (vq Z T.PH (v:=.ref a.uo) Z) (pv 2) (λy y=>Z)))
   (ay (aM 4 (bg eK (bg eK (pv 1) aX) (bt ec (pv 3) aX)))
   (ay (aM 5 (vy vz (pv 0) (lx (bg eK (pv 1) aX)) (lx (pv 4))))
   (ay (cy (lr (eZ (bt ec (pv 3) aX) (λy=>Z))) (aF (aZ (pMk T.oF T.PV T.PF (Ql T) (ah (pv 2) (ah (pv 5) (ah (bU ak) (ah (pv 4) ak))))))) cC)
   (ay (aM 6 (bg eK (pv 4) aX))
   (ay (aM 4 (bg eK (pv 6) (bt b8 (pv 0) (pv 4))))
   (aF (aZ (pMk T.oF T.PV T.PF (Ql T) (ah (pv 2) (ah (pv 5) (ah (vy vz (pv 0) (lx (pv 6)) (lx (pv 4))) (ah (pv 4) ak)))))))))))))),?_]
 refine#[_,Z,_,Z,cl,_,_,_,Z,Z,Y,bY (qA p1),?_];dsimp only[aR,aN,L2.start];refine#[_,Z,a.uo,es,ep,n,_,.ref t,Z,Z,t1,t2,t4,Z,?_];dsimp only[aR,aN];refine#[_,Z,_,_,Z,Z,_,Z,t,_,_,_,Z,Z,t5 _,bY (j:=1) Z,_,_,Z,Z,?_];dsimp only[aR,aN];refine#[_,Z,_,Z,_,_,Z,Z,_,Z,_,Z,_,Z,cl,_,Z,Y,λnl V=>?_];rw[Sb p2 (by rfl) (by rfl),p3]
 have O:ag H (upd H nl (.lst (nV nums))):=ag.new V;have I:upd H nl (.lst (nV nums)) nl=aa (.lst (nV nums)):=aA;generalize upd H nl (.lst (nV nums))=H1 at O I;dsimp only[aR,aN];refine cX (!b) (λR q'=>#[_,Z,t,_,_,_,Z,Z,t5 _,bY (j:=2) Z,_,Z,q']) ?_;rcases p4 with⟨rfl,rfl,rfl⟩|⟨rfl,k,p5,p6,p7,rfl⟩
 .refine bu #[_,Z,_,Z,c7 _,λll J=>#[_,Z,λx dx nx U S=>#[x,dx,[_,_,_,_],Z,Z,aA,#[Z,?_]]]];rw[dI];have c:ag H1 (upd H1 ll (.lst [])):=ag.new J;obtain⟨g1,g2⟩:=Sd (a:=a) (K:=K) (n:=n) (e:=(i:Int)+1+ (nums.length:Int)) (l:=[]) (O.trans c) V (c _ _ I) (O.free J) (by rw[aA];rfl) nx U S
  refine q _ x g1 ((O.trans c).free nx) ?_;rw[show((i+1+nums.length:Nat):Int)=(i:Int)+1+ (nums.length:Int) by rfl]
  exact g2
 .refine br ?_;dsimp only[di,cN];refine#[_,Z,_,_,Z,Z,?_];dsimp only[aR,aN];have M:=O.seq Y;have hend:((i:Int)+1+ (nums.length:Int))=((i+1+nums.length:Nat):Int):=by rfl
  refine#[_,Z,_,Z,_,Z,cl,_,_,_,Z,Z,M,by rw[hend];exact bY (qA p5),_,_,Z,Z,?_]
  dsimp only[aR,aN];refine#[_,Z,_,Z,_,Z,_,Z,_,Z,_,Z,_,Z,cl,_,Z,M,λll J=>#[_,Z,λx dx nx U S=>#[x,dx,[_,_,_,_],Z,Z,aA,#[Z,?_]]]];rw[dI];have hcut:jT (nV L) (aa ((i:Int)+1+ (nums.length:Int)+1)) (aa ((i:Int)+1+ (nums.length:Int)+1+ (k:Int)))=nV l:=by rw[Sb p6 (by rfl) (by rfl),p7]
  have c:ag H1 (upd H1 ll (.lst (jT (nV L) (aa ((i:Int)+1+ (nums.length:Int)+1)) (aa ((i:Int)+1+ (nums.length:Int)+1+ (k:Int)))))):=ag.new J;obtain⟨g1,g2⟩:=Sd (a:=a) (K:=K) (n:=n) (e:=(i:Int)+1+ (nums.length:Int)+1+ (k:Int)) (l:=l) (O.trans c) V (c _ _ I) (O.free J) (by rw[aA,hcut]) nx U S
  refine q _ x g1 ((O.trans c).free nx) ?_;rw[show((i+1+nums.length+1+k:Nat):Int)=(i:Int)+1+ (nums.length:Int)+1+ (k:Int) by rfl]
  exact g2
end
def yE(n:Int)(nums l:List Int):z7->Prop
 |.load b=>n=0/\nums=[]/\l=b.map (λx=>(x.toNat:Int))/\b.length<=8192
 |.shown=>n=1/\nums=[]
 |.row l'=>n=2/\nums=[]/\l'=l
 |.drop i=>n=3/\nums=[i]
 |.counts i=>n=4/\nums=[i]
 |.fit x y=>n=5/\nums=[x,y]/\x<=10^18/\y<=10^18
 |.chances i=>n=6/\nums=[i]
 |.set i g l'=>n=7/\nums=[i,g]/\l'=l/\∀x∈l,x<=10^18
 |.even=>n=8/\nums=[]
 |.likely=>n=9/\nums=[]
 |.expect=>n=10/\nums=[]
 |.step=>n=11/\nums=[]
 |.chance l'=>n=12/\nums=[]/\l'=l
 |.post i l'=>n=13/\nums=[i]/\l'=l
 |.fill l'=>n=14/\nums=[]/\l'=l
theorem kc{R A}(h:∀nums l k,A nums l k->R nums l k) vs H Q E (q:gX a K A vs H Q E):gX a K R vs H Q E:=by
 obtain⟨o,c,Hi,n,e,nums,l,x,k,M,I,J,hR,q⟩:=q;exact#[o,c,Hi,n,e,_,l,x,k,M,I,J,h _ _ _ hR,q]
theorem abT{n}{k}(hR:yE n nums l k)(A:n≠0):eI ae k=(ae,xg (-1)):=by
 cases k with
 |load b=>exact absurd hR.1 A
 |_=>rfl
section
variable {w:aS}{base:aU}
theorem abU(T:TX K mg a d)(E:P.given.tree=ae){n}{k}(hR:yE n nums l k)(U:n≠0):∃f O R b,yc a n=aa (f,R,b)/\aV P w K mg base bo 51 f O ["held","call"] (gX a K λI l' S=>I=nums/\l'=l/\S=k)/\nE K (.ref f)=ai/\Binds K O ["held","call"] []:=by
 cases k with
 |load b=>exact absurd hR.1 U
 |shown=>obtain⟨rfl,rfl⟩:=hR;exact#[_,_,_,_,Z,((abf T).mono (by decide)).imp (kc λz z z ⟨_,_,e⟩=>e),T.lP.g.kp,T.lP.b]
 |row l'=>obtain⟨rfl,rfl,rfl⟩:=hR;exact#[_,_,_,_,Z,((abl T).mono (by decide)).imp (kc λz z z ⟨_,A,e⟩=>by rw[e,A]),T.oh.g.kp,T.oh.b]
 |drop i=>obtain⟨rfl,rfl⟩:=hR;exact#[_,_,_,_,Z,((abm T).mono (by decide)).imp (kc λz z z ⟨A,_,e⟩=>#[i,A,e]),T.oj.g.kp,T.oj.b]
 |counts i=>obtain⟨rfl,rfl⟩:=hR;exact#[_,_,_,_,Z,((abg T).mono (by decide)).imp (kc λz z z ⟨A,_,e⟩=>#[i,A,e]),T.lQ.g.kp,T.lQ.b]
 |fit x y=>obtain⟨rfl,rfl,M,V⟩:=hR;exact#[_,_,_,_,Z,((abp T E).mono (by decide)).imp (kc λz z z ⟨A,_,e⟩=>#[x,y,A,e,M,V]),T.om.g.kp,T.om.b]
 |chances i=>obtain⟨rfl,rfl⟩:=hR;exact#[_,_,_,_,Z,((abn T).mono (by decide)).imp (kc λz z z ⟨A,_,e⟩=>#[i,A,e]),T.oo.g.kp,T.oo.b]
 |set i g l'=>obtain⟨rfl,rfl,rfl,M⟩:=hR;exact#[_,_,_,_,Z,((abt T E).mono (by decide)).imp (kc λz z z ⟨A,J,e⟩=>#[i,g,A,by rw[e,J],by rw[J];exact M]),T.oq.g.kp,T.oq.b]
 |even=>obtain⟨rfl,rfl⟩:=hR;exact#[_,_,_,_,Z,((abo T).mono (by decide)).imp (kc λz z z ⟨_,_,e⟩=>e),T.ow.g.kp,T.ow.b]
 |likely=>obtain⟨rfl,rfl⟩:=hR;exact#[_,_,_,_,Z,((aby T E).mono (by decide)).imp (kc λz z z ⟨_,_,e⟩=>e),T.oy.g.kp,T.oy.b]
 |expect=>obtain⟨rfl,rfl⟩:=hR;exact#[_,_,_,_,Z,((abD T E).mono (by decide)).imp (kc λz z z ⟨_,_,e⟩=>e),T.oz.g.kp,T.oz.b]
 |step=>obtain⟨rfl,rfl⟩:=hR;exact#[_,_,_,_,Z,((abL T E).mono (by decide)).imp (kc λz z z ⟨_,_,e⟩=>e),T.oA.g.kp,T.oA.b]
 |chance l'=>obtain⟨rfl,rfl,rfl⟩:=hR;exact#[_,_,_,_,Z,((abe T E).mono (by decide)).imp (kc λz z z ⟨_,A,e⟩=>by rw[e,A]),T.lR.g.kp,T.lR.b]
 |post i l'=>obtain⟨rfl,rfl,rfl⟩:=hR;exact#[_,_,_,_,Z,((abh T E).mono (by decide)).imp (kc λz z z ⟨A,J,e⟩=>#[i,A,by rw[e,J]]),T.lS.g.kp,T.lS.b]
 |fill l'=>obtain⟨rfl,rfl,rfl⟩:=hR;exact#[_,_,_,_,Z,((abi T E).mono (by decide)).imp (kc λz z z ⟨_,A,e⟩=>by rw[e,A]),T.lT.g.kp,T.lT.b]
inductive Sh(a:Ad)(K:aP)(vs:List V)(H:Hp)(Q:VK)(x_0:XK):Prop|m:∀(h c:af)(Hi:Hp)(n e:Int)(nums l:List Int)(s:nH)(k:z7),vs=[.ref h,.ref c]->HS a K H Hi h s->kb a K Hi c n nums l e->yE n nums l k->qD a K h H Hi (eI s k) Q->Sh a K vs H Q x_0
theorem abV(T:TX K mg a d)(hP:P.given.tree=ae):aV P w K mg base bo 52 a.oC d.oC ["held","call"] (Sh a K):=by
 refine T.oC.ok bE λnD cdv A outer s H vs Q E hr h=>?_;rcases h with⟨h,c,Hi,n,e,nums,l,st,k,rfl,M,hC,hR,q⟩;rcases id M with⟨S,hh,h0⟩;rcases id hC with⟨U,nl,ll,c1,c2,c3⟩;have Y:=S _ _ c1;rcases T.calls with⟨es,ep,t1,t2,t3⟩;refine#[_,(ay (cy (PW.pt (pG (b9 Uh (aK (pv 0) Z) Ll (cu _)) (rL (b9 jR (aK (pv 1) Z) (bZ Z T.Za) (cu _))))) (aF (aZ (bU (ah (bZ Z T.Y5) ak)))) cC)
   (ay (aM 2 (bt ec (NX (vq Z T.PH (v:=.ref a.uo) Z) (aK (pv 1) Z) (λy y=>Z)) aX))
   (aF (aZ (Xu (CX:=bo) (k:=51) (ps:=["held","call"]) (dW hr) iT (pv 2) (ah (pv 0) (ah (pv 1) ak))))))),?_]
 have e0:decide (V.int n=V.int 0)=decide (n=0):=by rw[d9];exact#[λz=>by injection z,λz=>by rw[z]]
 by_cases O:n=0
 .
  subst O;obtain⟨b,rfl⟩:∃b,k=.load b:=by
   cases k with
   |load b=>exact#[b,Z]
   |_=>first|exact absurd hR.1 (by decide)|exact absurd hR.1.symm (by decide)
  rcases hR with⟨_,rfl,rfl,hb⟩;rcases t3 0 a.kK 0 ai Z with⟨t,t4,i⟩;rcases M.obj with⟨dx,v0,v1,v2,h1⟩;refine cX az (λR J=>r0 (decide (v0=.bB)) az (λR I=>#[_,Z,h,_,dx,_,_,Z,h1,T.cH,T.iA,jD,Z,_,Z,I]) (λy R I=>#[_,Z,c,_,U,_,_,Z,Y,T.eG,T.yj,BS,Z,_,Z,?_]) (by rw[B_];exact J)) ?_
  .rw[e0,bX Z];exact I
  refine br ?_;dsimp only[di,cN];refine#[_,Z,c,_,U,_,_,Z,Y,T.eG,T.yj,BS,a.uo,es,ep,0,_,.ref t,Z,Z,t1,t2,t4,Z,t,_,_,_,Z,Z,i _,bY (j:=0) Z,?_];dsimp only[aR,aN,L2.start];exact#[_,Z,a.kK,d.kK,_,Z,abR T,T.kK.g.kp,T.kK.b,_,Z,_,Z,h,c,Hi,0,e,[],b,st,Z,M,hC,hb,q]
 .cases st with
  |none=>
   rcases h0 with⟨dx,rl,bl,h1⟩;rw[abT hR O] at q;refine cX ai (λR J=>r0 ai ai (λR I=>#[_,Z,h,_,dx,_,_,Z,h1,T.cH,T.iA,jD,Z,_,Z,I]) (λy R I=>#[_,Z,c,_,U,_,_,Z,Y,T.eG,T.yj,BS,Z,_,Z,?_]) J) ?_
   .rw[e0,bO O];exact I
   refine bu #[cb,λt ht=>q.keep M Z (ag.new ht) ht ?_]
   rw[aA];rfl
  |some x=>
   rcases h0 with⟨dx,mo,rl,bl,ras,ts,ls,hH,_⟩;rcases abU (P:=P) (w:=w) (base:=base) T hP hR O with⟨f,fd,kk,b,g1,g2,g3,g4⟩;rcases t3 n f kk b g1 with⟨t,t4,i⟩;refine cX az (λR J=>r0 az ai (λR I=>#[_,Z,h,_,dx,_,_,Z,hH.1,T.cH,T.iA,jD,Z,_,Z,I]) (λz=>by cases z) J) ?_
   refine br ?_;dsimp only[di,cN];refine#[_,Z,c,_,U,_,_,Z,Y,T.eG,T.yj,BS,a.uo,es,ep,n,_,.ref t,Z,Z,t1,t2,t4,Z,t,_,_,_,Z,Z,i _,bY (j:=0) Z,?_];dsimp only[aR,aN,L2.start];exact#[_,Z,f,fd,_,Z,g2,g3,g4,_,Z,_,Z,h,c,Hi,n,e,nums,l,x,k,Z,M,hC,#[Z,Z,Z],q]
end
theorem Sj{x:Nat×Nat}(h:lg p=aa x):p=0\/p=1\/p=2\/p=3\/p=4\/p=5\/p=6\/p=7\/p=8\/p=9\/p=10\/p=11\/p=12\/p=13\/p=14:=by
 refine Classical.byContradiction λO=>?_;simp only[Af] at O;obtain⟨h0,h1,h2,a,Y,V,U,T,S,R,M,J,I,E,A⟩:=O;delta lg at h;rw[aw h0,aw h1,aw h2,aw a,aw Y,aw V,aw U,aw T,aw S,aw R,aw M,aw J,aw I,aw E,aw A] at h;cases h
theorem abW(a:Ad)(h:lg p=aa (n,k)):∃f b,yc a p=aa (f,(n:Int),b)/\k=if b=ai then 1 else 0:=by
 obtain rfl|rfl|rfl|rfl|rfl|rfl|rfl|rfl|rfl|rfl|rfl|rfl|rfl|rfl|rfl:=Sj h<;>(cases h;exact#[_,_,Z,Z])
theorem Sk{r:List Int}{c:List (List Int)}{t:List Int}(h:tH sh (p::r)=aa (c,t)):∃n k xs,sh p=aa (n,k)/\n<=r.length/\uS k (r.drop n)=aa (xs,t)/\c=(p::r.take n)::xs:=by
 delta tH at h;dsimp only at h;cases A:sh p with
 |none=>rw[A] at h;cases h
 |some I=>
  obtain⟨n,k⟩:=I;rw[A] at h;dsimp only at h;by_cases E:r.length<n
  .rw[aC E] at h;cases h
  .rw[aw E] at h;cases hr:uS k (r.drop n) with
   |none=>rw[hr] at h;cases h
   |some xt=>
    obtain⟨xs,t'⟩:=xt;rw[hr] at h;dsimp only at h;injection h with h
    injection h with M J
    subst M J;exact#[n,k,xs,Z,by simp_all,hr,Z]
theorem len0{A:Type}{l:List A}(h:l.length=0):l=[]:=Hq h
theorem yF{A:Type}{l:List A}(h:l.length=1):∃x,l=[x]:=List.length_eq_one_iff.mp h
theorem AY{A:Type}{l:List A}(h:l.length=2):∃x y,l=[x,y]:=match l,h with|[x,y],_=>#[x,y,Z]
theorem abX{r t:List Int}{xs:List (List Int)}(h:uS k r=aa (xs,t)):xs.length=k:=by
 induction k generalizing r t xs with
 |zero=>injection h with h;injection h with h _;rw[<-h];rfl
 |succ k I=>
  unfold uS at h;cases E:zi r with
  |none=>rw[E] at h;cases h
  |some x=>
   rw[E] at h;dsimp only at h;cases A:uS k x.2 with
   |none=>rw[A] at h;cases h
   |some y=>
    rw[A] at h;injection h with h
    injection h with h _
    rw[<-h,bP,I A]
theorem Sl{r:List Int}{c:List (List Int)}{t:List Int}(h:tH lg (p::r)=aa (c,t))(M:List (List Int)->Prop)(m0:∀l,M [[0],l])(m1:M [[1]])(m2:∀l,M [[2],l])(m3:∀x,M [[3,x]])(m4:∀x,M [[4,x]])(m5:∀x y,M [[5,x,y]])(Z:∀x,M [[6,x]])(Y:∀x y l,M [[7,x,y],l])(V:M [[8]])(U:M [[9]])(S:M [[10]])(R:M [[11]])(O:∀l,M [[12],l])(J:∀x l,M [[13,x],l])(I:∀l,M [[14],l]):M c:=by
 obtain⟨n,k,xs,T,h2,h3,rfl⟩:=Sk h;have A:(r.take n).length=n:=by rw[gw];simp_all
 have E:=abX h3;generalize r.take n=nums at A;obtain rfl|rfl|rfl|rfl|rfl|rfl|rfl|rfl|rfl|rfl|rfl|rfl|rfl|rfl|rfl:=Sj T<;>(simp[lg] at T;obtain⟨rfl,rfl⟩:=T)<;>first
  |(obtain rfl:=len0 A;obtain rfl:=len0 E;first|exact m1|exact V|exact U|exact S|exact R)
  |(obtain rfl:=len0 A;obtain⟨l,rfl⟩:=yF E;first|exact m0 l|exact m2 l|exact O l|exact I l)
  |(obtain⟨x,rfl⟩:=yF A;obtain rfl:=len0 E;first|exact m3 x|exact m4 x|exact Z x)
  |(obtain⟨x,rfl⟩:=yF A;obtain⟨l,rfl⟩:=yF E;exact J x l)
  |(obtain⟨x,y,rfl⟩:=AY A;obtain rfl:=len0 E;exact m5 x y)
  |(obtain⟨x,y,rfl⟩:=AY A;obtain⟨l,rfl⟩:=yF E;exact Y x y l)
theorem abY{r x s:List Int}(h:zi r=aa (x,s)):∃(k:Nat)(A:List Int),r=(k:Int)::A/\k<=A.length/\x=A.take k/\s=A.drop k:=by
 cases r with
 |nil=>cases h
 |cons n A=>
  delta zi at h;dsimp only at h;by_cases E:0<=n/\n.toNat<=A.length
  .rw[aC E] at h;injection h with h
   injection h with J I
   exact#[n.toNat,A,by rw[yM E.1],E.2,J.symm,I.symm]
  .rw[aw E] at h;cases h
theorem drop_cons{r}(h:L.drop i=p::r):L[i]? =aa p/\L.drop (i+1)=r/\L.length=i+1+r.length:=by
 have A:=congrArg tm h;rw[gY,bP] at A;refine#[?_,?_,by lia]
 .have:=congrArg (λl=>l[0]?) h;rw[Cs,uK] at this;exact this
 .have:=congrArg (Ci 1) h;rw[kS] at this;exact this
theorem abZ a {r} (Y:L.drop i=p::r) {c} {t} (h:tH lg (p::r)=aa (c,t)):
  ∃nums l e b f,yc a p=aa (f,nums.length,b)/\Parsed L i p nums l e b/\c=(p::nums)::(if b=ai then[l] else[])/\t=L.drop e/\i<e/\e<=L.length:=by
 obtain⟨n,k,xs,d,h2,A,rfl⟩:=Sk h;obtain⟨f,b,T,I⟩:=abW a d;obtain⟨V,J,d3⟩:=drop_cons Y;have E:(r.take n).length=n:=by rw[gw];simp_all
 cases b with
 |false=>
  subst I;injection A with A
  injection A with R O
  subst R O;refine#[_,[],_,_,f,by rw[E];exact T,#[V,by rw[E];simp_all,by rw[E,J],.inl #[Z,Z,by rw[E]]],Z,?_,by lia,by simp_all]
  rw[<-J,kS]
 |true=>
  rw[aC Z] at I;subst I;unfold uS at A;cases hr:zi _ with
  |none=>rw[hr] at A;cases A
  |some M=>
   obtain⟨x,s⟩:=M;rw[hr] at A;injection A with A
   injection A with R O
   subst R O;obtain⟨k,S,e1,e2,rfl,rfl⟩:=abY hr;have e3:L.drop (i+1+n)=(k:Int)::S:=by rw[<-e1,<-J,kS]
   obtain⟨d4,U,d6⟩:=drop_cons e3;refine#[_,_,_,_,f,by rw[E];exact T,#[V,by rw[E];simp_all,by rw[E,J],.inr #[Z,k,by rw[E];exact d4,by rw[E];lia,by rw[E,U],by rw[E]]],Z,?_,by lia,by lia]
   rw[<-U,kS]
theorem qF{u}{b}(h:[u]=(p::nums)::(if b=ai then[l] else[])):u=p::nums:=by
 injection h
theorem wg{u v}{b}(h:[u,v]=(p::nums)::(if b=ai then[l] else[])):u=p::nums/\v=l:=by
 injection h with E A
 cases b with
 |false=>cases A
 |true=>injection A with A;exact#[E,A]
theorem G6{z}(h:vo z=ai):z<=10^18:=by
 delta vo at h;rw[fQ,fD,fD] at h;exact h.2
theorem Sm{z}(h:Lh z 8=ai):0<=z/\z<=255:=by
 delta Lh at h;rw[fQ,fD,fD] at h;lia
theorem ab0{q}{r t}{b}{c}(h:tH lg (q::r)=aa (c,t))(E:c=(p::nums)::(if b=ai then[l] else[]))(I:Ac c=ai):∃k,Lg c=aa k/\yE p nums l k:=by
 revert E I;refine Sl h (λc=>c=(p::nums)::(if b=ai then[l] else[])->Ac c=ai->∃k,Lg c=aa k/\yE p _ l k) (λv E I=>?_) (λE I=>?_) (λv E I=>?_) (λx E I=>?_) (λx E I=>?_) (λx y E I=>?_) (λx E I=>?_) (λx y v E I=>?_) (λE I=>?_) (λE I=>?_) (λE I=>?_) (λE I=>?_) (λv E I=>?_) (λx v E I=>?_) λv E I=>?_
 .obtain⟨A,rfl⟩:=wg E;injection A with A J
  subst A J;have I:(v.all _&&decide _)=ai:=I;rw[fQ,jE,fD] at I;have M:Il v=ai:=by
   delta Il;rw[jE];intro z hz;have:=Sm (I.1 z hz);rw[fQ,fD,fD];exact this
  refine#[.load (v.map λz=>pq z.toNat),?_,Z,Z,?_,by rw[aJ];exact I.2]
  .show(Lf v).map _=_;delta Lf;rw[aC M];rfl
  .rw[eU];have:v.map _=v.map ((λx=>(x.toNat:Int))∘λz=>pq _):=i9 λz hz=>by
    have:=Sm (I.1 z hz);show z=((pq z.toNat).toNat);rw[K3];lia
   rw[<-this,CD]
 .have A:=qF E;injection A with A J;subst A J;exact#[_,Z,Z,Z]
 .obtain⟨A,rfl⟩:=wg E;injection A with A J;subst A J;exact#[_,Z,Z,Z,Z]
 .have A:=qF E;injection A with A J;subst A J;exact#[_,Z,Z,Z]
 .have A:=qF E;injection A with A J;subst A J;exact#[_,Z,Z,Z]
 .have A:=qF E;injection A with A J;subst A J
  have I:(vo x&&vo y)=ai:=I;rw[fQ] at I;exact#[_,Z,Z,Z,G6 I.1,G6 I.2]
 .have A:=qF E;injection A with A J;subst A J;exact#[_,Z,Z,Z]
 .obtain⟨A,rfl⟩:=wg E;injection A with A J;subst A J
  have I:(vo x&&(vo y&&(v.all _&&decide _)))=ai:=I;rw[fQ,fQ,fQ,jE] at I;exact#[_,Z,Z,Z,Z,λx hx=>G6 (I.2.2.1 x hx)]
 .have A:=qF E;injection A with A J;subst A J;exact#[_,Z,Z,Z]
 .have A:=qF E;injection A with A J;subst A J;exact#[_,Z,Z,Z]
 .have A:=qF E;injection A with A J;subst A J;exact#[_,Z,Z,Z]
 .have A:=qF E;injection A with A J;subst A J;exact#[_,Z,Z,Z]
 .obtain⟨A,rfl⟩:=wg E;injection A with A J;subst A J;exact#[_,Z,Z,Z,Z]
 .obtain⟨A,rfl⟩:=wg E;injection A with A J;subst A J;exact#[_,Z,Z,Z,Z]
 .obtain⟨A,rfl⟩:=wg E;injection A with A J;subst A J;exact#[_,Z,Z,Z,Z]
theorem So{f}{r}{cs}(h:mr sh f (p::r)=aa cs):∃I c t A,tH sh (p::r)=aa (c,t)/\mr sh I t=aa A/\cs=c::A:=by
 cases f with
 |zero=>cases h
 |succ f=>
  unfold mr at h;cases E:tH sh _ with
  |none=>rw[E] at h;cases h
  |some ct=>
   obtain⟨c,t⟩:=ct;rw[E] at h;dsimp only at h;cases hr:mr sh f t with
   |none=>rw[hr] at h;cases h
   |some A=>
    rw[hr] at h;exact#[f,c,t,A,Z,hr,(bf h).symm]
theorem Sq{f}{cs}(h:mr sh f []=aa cs):cs=[]:=by
 cases f<;>exact(bf h).symm
theorem ab1{cs}:∀{f}{L},mr lg f L=aa cs->cs.map KZ=cs:=by
 induction cs with
 |nil=>intros;rfl
 |cons c cs E=>
  intro f L h;cases L with
  |nil=>cases Sq h
  |cons p r=>
   obtain⟨R,S,t,O,M,J,A⟩:=So h;injection A with A I
   subst A I;rw[b7,E J,Sl M (λc=>KZ c=c) (λx=>Z) Z (λx=>Z) (λx=>Z) (λx=>Z) (λx x=>Z) (λx=>Z) (λx x x=>Z) Z Z Z Z (λx=>Z) (λx x=>Z) λx=>Z]
theorem ab2(h:D0 L=ai):∃cs,mr lg L.length L=aa cs/\(∀c∈cs,Ac c=ai)/\w_ L=tI (zh rE VaprbpNeutral.start cs)/\(w_ L).length<=10000000:=by
 delta D0 at h;have e:KY L=mr lg L.length L:=by
  delta KY;cases J:mr _ _ L with
  |none=>rfl
  |some cs=>dsimp only;rw[ab1 J]
 rw[e] at h;cases A:mr _ _ L with
 |none=>rw[A] at h;cases h
 |some cs=>
  rw[A] at h;rw[fQ,fQ] at h;obtain⟨⟨_,E⟩,I⟩:=h;delta VaprbpNeutral.asked at E;rw[fQ,jE] at E;refine#[cs,Z,E.1,?_,?_]
  .delta w_;rw[e,A]
  .exact rF I
theorem ab3 x l:tI (x::l)=((x.length:Int)::x) ++tI l:=by
 delta tI;rw[l_]
theorem HS.ext{s}(S:ag H H')(x:HS a K H Hi h s):HS a K H' (Ext Hi H H') h s:=by
 obtain⟨V,U,T⟩:=x;have A:∀{b}{u},H b=aa u->Hi b=ae->Ext Hi H H' b=ae:=λ{b u} e n=>by
  cases z:Ext Hi H H' b with
  |none=>rfl
  |some o=>
   obtain⟨O,_⟩|⟨_,M⟩:=iF z
   .rw[e] at O;cases O
   .rw[n] at M;cases M
 have I:ag Hi (Ext Hi H H'):=λb u e=>kQ V e;have J:ag (Ext Hi H H') H':=λb u e=>by
  obtain⟨_,z⟩|⟨_,z⟩:=iF e
  .exact z
  .exact S _ _ (V _ _ z)
 cases s with
 |none=>
  obtain⟨dx,rl,bl,e⟩:=T;exact#[J,A e U,dx,rl,bl,S _ _ e]
 |some x=>
  rcases T with⟨dx,mo,rl,bl,ras,ts,ls,⟨g1,g2,g3,g4,c,Y,g7⟩,⟨s1,s2,s3,s4,R⟩,hx⟩;refine#[J,A g1 U,dx,mo,rl,bl,_,ts,ls,#[S _ _ g1,g2.same I,S _ _ g3,g4.same I,S _ _ c,Y.same S I,J],#[A g3 s1,A c s2,s3,s4,λt E=>#[?_,(R t E).2]],hx];obtain⟨ys,hy⟩:=Y.mem t E;exact A hy (R t E).1
section
variable {w:aS}{base:aU}
inductive G7(K:aP)(vs:List V)(H:Hp)(Q:VK)(x_0:XK):Prop|m:∀(cl:af)(L:List Int),vs=[.ref cl]->ao K H cl (nV L)->D0 L=ai->(∀H' p,H' p=aa (.lst (nV (w_ L)))->Q (.ref p) H')->G7 K vs H Q x_0
theorem ab4(T:TX K mg a d)(hP:P.given.tree=ae):aV P w K mg base bo 53 a.answers d.answers ["calls"] (G7 K):=by
 refine T.answers.ok bE λnD cdv A outer s H vs Q E hr h=>?_;obtain⟨cl,L,rfl,hcl,hask,q⟩:=h;obtain⟨cs0,k1,k2,k3,k4⟩:=ab2 hask;generalize w_ L=j at k3 k4 q;refine#[_,(ay (aM 1 (Uz T.Zx (aa3 T) (dW hr) Z T.Zr T.qt.b .nil iT))
   (ay (aM 2 (bU ak))
   (ay (aM 3 aX)
   (ay (pI dM (b9 kB (pv 3) (cz (c8) Z T.de c_ (ah (pv 0) ak)) (cu _)) (ay (aM 4 (a_ T.sL (abS T) (ah (pv 0) (ah (pv 3) ak))))
   (ay (aM 5 (EE (aa9 (abV T hP)) (dW hr) Z T.oC.m T.oC.g.kp T.oC.b .nil iT (ah (pv 1) (ah (pv 4) ak))))
   (ay (dU (eP eO je jf jl (pv 2) (ah (cz (c8) Z T.de c_ (ah (pv 5) ak)) ak)))
   (ay (dU (eP eO rj vc EJ (pv 2) (ah (pv 5) ak)))
   (aF (aM 3 (aK (pv 4) Z))))))))
   (aF (aZ (pv 2))))))),?_]
 intro h dx nh nd ne;refine#[h,dx,Z,aA,λH1 rl bl kp hh hrl hbl hne hr0 hb0=>#[Z,?_]];have S1:=λb u e=>kp b u (by rw[aB (bc e nh),aB (bc e nd)];exact e) (bc e nh)
 dsimp only[aR,aN,L2.start];refine#[c7 _,λJ htl=>?_];dsimp only[aR,aN];have hht:=bc hh htl;refine GD (λm v H'=>∃(i:Nat)(I:List Int)(st:nH)(Hi:Hp)(cs:List (List (List Int)))(f:Nat)(v4 v5:Option V),v=[aa (.ref cl),aa (.ref h),aa (.ref J),aa (.int (i:Nat)),v4,v5]/\m=L.length-i/\i<=L.length/\H' J=aa (.lst (nV I))/\HS a K (Wo H' J) Hi h st/\ao K Hi cl (nV L)/\mr lg f (L.drop i)=aa cs/\(∀c∈cs,Ac c=ai)/\I ++tI (zh rE st cs)=j)
  (λv H'=>∃(v3 v4 v5:Option V),v=[aa (.ref cl),aa (.ref h),aa (.ref J),v3,v4,v5]/\H' J=aa (.lst (nV j))) L.length
  #[0,[],ae,H,cs0,L.length,_,_,Z,by rfl,c7 _,aA,#[λb u e=>aQ (bc (S1 _ _ e) htl) (ag.new htl _ _ (S1 _ _ e)),nh,dx,rl,bl,aQ hht (by rw[aB hht];exact hh)],hcl,by rw[Sv];exact k1,k2,by rw[k3];rfl] ?_ ?_
 .rintro out m v H2 x;rcases x with⟨i,I,st,Hi,cs,f,v4,v5,rfl,rfl,hi,M,hS,Y,S,hak,hZ⟩;have SW:=hS.1.trans cU;have hcl2:=SW.seq Y;refine#[_,Z,_,Z,cl,_,Z,.inl hcl2,_,_,Z,Z,_,Z,?_];rw[iD,show decide ((i:Int)<(L.length:Nat))=decide (i<L.length) by rw[d9];simp]
  by_cases hlt:i<L.length
  case neg=>
   rw[bO hlt];have hd:L.drop i=[]:=wm (by simp_all)
   rw[hd] at S;have:=Sq S;subst this;have hZ:I=j:=by rw[<-hZ];show I=I++[];rw[l8]
   subst hZ;exact br (out _ _ #[_,_,_,Z,M])
  rw[bX hlt];refine bu (GF ?_);obtain⟨p,r,hpr⟩:∃p r,L.drop i=p::r:=by
   cases hd:L.drop i with
   |nil=>have:=congrArg tm hd;rw[gY] at this;simp at this;grind
   |cons p r=>exact#[p,r,Z]
  rw[hpr] at S;rcases So S with⟨f',c0,t0,cs',g1,g2,rfl⟩;rcases abZ a hpr g1 with⟨nums,l,e,b,fn,g3,g4,g5,rfl,g6,g7⟩;obtain⟨k,g8,g9⟩:=ab0 g1 g5 (hak c0 bH);have hst:rE st c0=((eI st k).1,iM (eI st k).2):=by delta rE;rw[g8]
  have hZ:I++(((iM (eI st k).2).length:Int)::iM (eI st k).2) ++tI (zh rE (eI st k).1 cs')=j:=by
   rw[<-hZ];show _=I ++tI ((rE st c0).2::zh rE (rE st c0).1 cs');rw[hst,ab3,kf]
  have U:=congrArg tm hZ;rw[b6,b6,bP] at U;refine#[_,Z,_,Z,cl,i,L,p,nums,l,e,b,fn,Z,hcl2,g3,g4,λH3 c S3 hc hC=>?_];dsimp only[aR,aN];have htl3:=S3 _ _ M;have SW3:ag (Wo H2 J) (Wo H3 J):=λb u z=>by
   obtain⟨z1,z2⟩:=bh z;exact aQ z1 (S3 _ _ z2)
  have hS3:=hS.ext SW3;have hC3:kb a K (Ext Hi (Wo H2 J) (Wo H3 J)) c p nums l (e:Nat):=hC.same λb u z=>by
   obtain⟨z1,z2⟩:=jw z;refine j_ ?_ (aQ (λy=>by subst y;rw[M] at z1;cases z1) z2)
   delta Wo
   split
   .rfl
   .exact z1
  have hclI3:ao K (Ext Hi (Wo H2 J) (Wo H3 J)) cl (nV L):=ag.seq (λb u z=>kQ hS.1 z) Y;refine#[_,Z,_,Z,J,_,htl3,h,c,_,p,(e:Nat),nums,l,st,k,Z,hS3,hC3,g9,λH4 Hi4 t SS4 hS4 ht4 O hn4=>?_];generalize hans:iM (eI st k).2=ans at O hZ U;have htt:t≠J:=λz=>by subst z;rw[O] at hn4;cases hn4
  dsimp only[aR,aN];refine#[_,Z,.inl #[Z,_,ao.of aA],_,Z,t,_,Z,.inl (ao.of (by rw[aB htt];exact O)),J,_,_,Z,Z,aA,by rw[iD,bQ];lia,?_]
  rw[dI];refine#[_,Z,.inl #[Z,_,ao.of aA],_,Z,J,t,_,_,Z,Z,aA,by rw[aB htt];exact O,by rw[b6,iD,iD,kT,bQ];lia,?_]
  rw[dI];have R:∀{b:af}{u:HO},H4 b=aa u->b≠J:=λz y=>by subst y;rw[hn4] at z;cases z
  rcases hC3.same SS4 with⟨dc,nl,ll,c1,c2,c3⟩;have c4:=hS4.1 _ _ c1;refine#[_,Z,c,_,dc,_,_,Z,by rw[aB (R c4)];exact c4,T.eG,T.PX,ZU,L.length-e,by grind,e,I++((ans.length:Int)::ans),(eI st k).1,Hi4,cs',f',_,_,Z,Z,g7,?_,hS4.same λb u z=>aQ (R z) (by rw[aB (R z)];exact z),ag.seq SS4 hclI3,g2,λc' hc'=>hak c' (bI _ hc'),hZ]
  rw[aA,iD];delta nV;rw[bR,b7,kf];rfl
 .rintro v H2 ⟨v3,v4,v5,rfl,M⟩;exact#[_,Z,q H2 J M]
end
section
variable {h:aU}{x:au}
theorem mf{M:Prop}{J:aE}{E:Option af}{I:Array (Option aE)}{kV doc A w ct:aE}(m:M)(l:K.lookup f=aa #[J,od,.func (pj x q (t9 st) (pO st) (gK st) .none kV doc A E w ct),I])(c:zQ K w q=ai)(k:nE K (.ref f)=ai)(s:vw N (N.take i) (gK st))(b:∀(kV doc A:aE)(E:Option af)(w ct:aE)(us:List aE),us.length=(N.take i).length->CT (pj x q (t9 st) (pO st) (gK st) .none kV doc A E w ct) #[us,[]]=pure ((N.take i).zip us)):nR K M x q N i st f (pj x q (t9 st) (pO st) (gK st) .none kV doc A E w ct):=#[m,MS l c k,s,(MS l c k).binds b]
end
theorem na{f:au}(e:fU K (.ref C) f=aa ae):cP K C f:=e
theorem sm{cls:aE}{w:Array aE}{A:Array (Option aE)}(l:K.lookup f=aa #[cls,od,.seq w n,A])(I:cls=.type "tuple")(hz:w.size<=bp)(E:Vals xs w.toList)(H:Hp):cM K H f xs:=.inr #[_,w,n,l,I,Z,hz,E]
theorem ab5{t:af}{A:Array uT}{m:Nat}{n k:Int}{b:Bool}{cls:aE}{w:Array aE}{I:Array (Option aE)}(e:tK mv A n=aa (.ref t))(E:K.lookup t=aa #[cls,od,.seq w m,I])(M:cls=.type "tuple")(hz:w.size<=bp)(J:Vals [.ref f,.int k,.bl b] w.toList):∃t,tK mv A n=aa (.ref t)/\∀H,cM K H t [.ref f,.int k,.bl b]:=#[t,e,sm E M hz J]
theorem Sr{w:Type}{p:Int->w->Prop}{n:Int}{v:w}:∀{l:List (Int×w)},(∀e∈l,p e.1 e.2)->l.lookup n=aa v->p n v
 |e::l,h,q=>by
  unfold mh at q
  split at q
  .next z=>cases q;rw[eq_of_beq z];exact h e bH
  .exact Sr (λe m=>h e (bI _ m)) q
abbrev ab6{h:aU}(_:K.In h)(mg:au->Option aE):Prop:=∃a d,TX K mg a d
end CC
end
end
noncomputable def CC.un{w:Type}:Nat->(List w->Prop)->Prop|0,P=>P []|n+1,P=>∀a,un n λl=>P (a::l)
theorem CC.uo{w:Type}{P:List w->Prop}:∀{n},un n P->∀l,l.length=n->P l|0,h,[],_=>h|n+1,h,a::l,e=>uo (P:=λl=>P (a::l)) (h a) l (Nat.succ.inj e)
open PySem PySem.W PyProof.Rows
set_option maxRecDepth 100000 in
set_option maxHeartbeats 0 in
theorem PySem.Challenge.cw_countedchances_s01_answers_holds : PySem.Challenge.rw_countedchances_s01_answers.Holds := by
 refine zzh ?_
 k_fillS
 refine L2.VH (r:=JJ) (k:=53) (CX:=L2.bo) (ps:=["calls"]) (sp:=CC.G7) (by decide +kernel) zzw rfl rfl ⟨rfl,by decide,by decide⟩ (λw h Y=>PySem.W.kIn_of Y) ?F ?S (λ_ _ _ _ z=>z)
 case F=>
  intro w mg fa h Y KX G hmg;have⟨a,d,T⟩:CC.ab6 KX mg:=⟨⟨_,_,_,_,_,_,_,_,_,_,_,_,_,_,_,_,_,_,_,_,_,_,_,_,_,_,_,_,_,_,_,_,_,_,_,_,_,_,_,_,_,_,_,_,_,_,_,_,_,_,_,_,_,_,_,_,_,_,_,_,_,_,_,_,_,_,_,_,_,_,_,_,_,_,_,_,_,_,_,_,_,_,_,_,_,_,_,_,_,_,_,_,_,_,_,_,_,_,_,_,_,_,_⟩,⟨_,_,_,_,_,_,_,_,_,_,_,_,_,_,_,_,_,_,_,_,_,_,_,_,_,_,_,_,_,_,_,_,_,_,_,_,_,_,_,_,_,_,_,_,_,_,_,_,_,_,_,_,_,_,_,_,_,_,_,_,_,_,_,_,_,_,_,_,_,_,_,_,_,_,_,_,_,_,_,_,_,_,_,_,_,_,_,_⟩,by
    constructor
    all_goals (try dsimp only);first
     |exact⟨_,mg_of KX G (by k_is)⟩
     |exact mg_of KX G (by k_is)
     |exact mg_none_of KX G (by k_is)
     |exact CC.mf (mg_of KX G (by k_is)) (by k_is) (by k_is) (by k_is) ⟨rfl,rfl,rfl,by decide +kernel,rfl,by decide +kernel,by decide +kernel⟩ (λ_ _ _ _ _ _=>CC.uo (by (repeat intro _);rfl))
     |exact CC.mf ⟨by k_is,by k_is,by k_is⟩ (by k_is) (by k_is) (by k_is) ⟨rfl,rfl,rfl,by decide +kernel,rfl,by decide +kernel,by decide +kernel⟩ (λ_ _ _ _ _ _=>CC.uo (by (repeat intro _);rfl))
     |exact CC.sm (by k_is) rfl (by decide) (by repeat first|exact .nil|refine .cons ⟨_,rfl⟩ ?_)
     |exact⟨_,_,by k_is,by decide +kernel,λ_ _ _ _=>CC.Sr (p:=λn(z:Addr×Int×Bool)=>∃t,tK mv _ n=some (.ref t)/\∀H,L2.cM _ H t [.ref z.1,.int z.2.1,.bl z.2.2]) (by repeat first|exact List.forall_mem_nil _|refine List.forall_mem_cons.mpr ⟨CC.ab5 rfl (by k_is) rfl (by decide) (.cons rfl (.cons ⟨_,rfl⟩ (.cons rfl .nil))),?_⟩)⟩
     |exact⟨by k_is,by k_is,by k_is,by k_is⟩
     |exact⟨⟨_,_,_,_,_,_,_,_,_,_,_,_,_,_,by k_is⟩,by k_is,by k_is,by k_is,by k_is,by k_is,by k_is⟩
     |exact⟨⟨_,_,_,_,_,_,_,_,_,_,_,_,_,_,by k_is⟩,by k_is,by k_is⟩
     |exact CC.na (by k_is)
     |decide⟩
  have e:=hmg.symm.trans T.answers.m;cases e;exact⟨_,λs us hu=>by
   obtain⟨_,_,_,_,_,_,_,_,_,e,_⟩:=T.answers.g.ex;rw[e]
   match us,hu with|[_],_=>exact .of_eq rfl,λbase _ _=>CC.ab4 T rfl⟩
 case S=>
  intro K H xs a hO hwi hask hx;cases hx with
  |cons h1 h2=>
   cases h2;cases h1 with
   |lst hs ha=>
    have e:=L2.MU a.1 _ ha;subst e;exact⟨_,a.1,rfl,hs,hask,λH' p hp=>.lst (L2.ao.of hp) (L2.MT _)⟩
