import PyProof.Rows.All
import Wide.All
import OpenK.AllK
import Wide.FinOn
import Lean
import PyProof.EqAt
import PyProof.EqKinds
import PyProof.TupleCall
import PySem.Challenge.RW_shorthead_k61_whole_read_within_skips
open PyProof.Rows renaming envOfC->aN,AllBare->a9,assignInOrder_cons->bI,IntsAre->bO,assignInOrder_nil->cd,subscriptTail->ci
open PySem.W renaming Frag->ye,isFn->yP,RowW->y7,findIn->yam,kia_one->yaz,keepIn->yaK,emptyDict->yaN,mg_of->yaT,instObj->yaU,plainGet->ya4,hasDictIn->ybm,fnOf->ybp,plainOver->ybF,makesIn->ybG,lookIn->yb0,OpenLaw->yb8,nsIn->yca,methodObj->ycx,plainGet_of->ycC,takerIn->ycD,callWith_K->ycF,codeIn->ycI,handedIn->ydo,kitOne->ydp,kitx_list->ydq,kitx_tuple->ydr,kitx_dict->yds,methodCall_KW->ydt,cellsFrom_some->ydu,WalkO->ydH,openSeen->ydI,ksm_same->yd2,SharedT->aX,absHeap->bG
open Nat renaming le_refl->yh,ne_of_lt->yG,zero_add->yL,le_trans->yO,lt_of_lt_of_le->yQ,lt_irrefl->yao,zero_le->yav,sub_self->yaD,ne_of_gt->yaJ,lt_succ_self->ya6,lt_or_ge->ybe,le_of_lt->ybk,le_succ->ybn,le_add_right->ybv,le_succ_of_le->ybQ,le_of_eq->yb2,le_of_not_lt->yb6,lt_of_le_of_lt->ycO,pow_le_pow_right->yc9,lt_trichotomy->yde,not_lt_zero->ydf,lt_succ_of_lt->ydQ,eq_of_beq_eq_true->yd3,add_sub_cancel_left->yd7
open List renaming getElem?_eq_some_iff->yi,length_map->yj,replicate->yn,getElem?_eq_getElem->yu,mem_cons->yB,length_cons->yD,map_cons->yE,length_append->yI,range->yJ,size_toArray->yM,getElem?_map->yW,mem_append_right->yZ,mem_singleton->y8,not_mem_nil->y9,getElem?_append_left->yab,mem_append->yae,map_map->yaf,mem_cons_of_mem->yag,mem_map->yah,mem_of_getElem?->yai,mem_append_left->yaj,map_append->yak,getD_eq_getElem?_getD->yal,getElem?_append_right->yan,append_assoc->yaq,mem_cons_self->yar,append_nil->yas,length_set->yaw,getElem_mem->yaC,set_cons_zero->yaE,set_cons_succ->yaF,mem_range->yaI,getD->yaQ,lookup_cons->yaW,any_cons->yaY,mem_filter->ya1,getElem?_set_self->ya3,lookup->ya5,nodup_cons->ya7,length->ya8,length_take->ya9,map_nil->yba,length_range->ybb,zipWith->ybh,set_append_right->ybj,getElem?_set_ne->ybl,length_replicate->ybo,find?_cons->ybq,replicate_succ->ybr,foldl_cons->ybs,take_of_length_le->ybu,eraseIdx_eq_take_drop_succ->ybw,mem_iff_getElem?->yby,all_eq_true->ybK,drop_zero->ybM,drop_eq_getElem_cons->ybN,drop_of_length_le->ybO,nil_append->ybP,getElem?_range->ybR,map_congr_left->ybS,getElem?_eq_none->ybW,getElem_inj->ybX,set_comm->ybY,all_cons->yb5,range_succ_eq_map->ycc,range'->yce,take_length->ych,mem_iff_getElem->ycl,nodup_append->ycm,any_map->ycn,mem_replicate->ycq,map_take->ycr,drop_left'->ycs,length_eraseIdx_le->yct,filterMap_cons->ycy,mem_filterMap->ycB,of_mem_zip->ycG,getElem?_replicate->ycH,length_eq_zero_iff->ycP,take_add_one->ycR,sum_append->ycS,sum_cons->ycT,mem_of_mem_take->ycV,forIn_cons->ycY,foldl->ycZ,singleton_append->yc1,nodup_nil->yc2,length_pos_iff->yc3,take_append_drop->yc8,getElem?_cons_succ->yda,take_left'->ydg,ext_getElem?->ydh,filter_cons->ydi,filter_sublist->ydj,mem_map_of_mem->ydk,mem_of_mem_eraseIdx->ydl,getElem?_take_of_lt->ydw,length_drop->ydy,range'_succ->ydJ,getElem_map->ydV,getElem_range->ydW,take_succ_cons->ydX,getElem_toArray->ydZ,length_pos_of_mem->yd5,zipWith_cons_cons->yd6,getElem?_cons_zero->yd8,pairwise_map->yec,map_replicate->yed
open PySem.Heap renaming get?_push_of_some->yt,lt_size->yA,get?_push_size->yC,size_push->yap,get?_update_other->yaO,SameBut->ya2,get?_update_self->yb4,dictOf_iff->yc6,IsTupleIter->ydP
open PySem renaming Spec->yF,Env->ybx,mem_of_lookup->ybH,intText?->ybJ,call->yb7,Within->ycw,list_append->ydF,seqSlot_of->ydU,Addr->ad,Str->ae,Value->af,wpAny_bind->ai,Shared->aj,Expr->ak,World->al,Stmt->am,model->ao,Program->ap,starEach->au,Obj->av,wpAny_pure->aw,Heap->ax,Pos->ay,compareOp->az,Around->aA,backTo->aB,IsPair->aC,mainGlobals->aD,binaryOp->aE,cLine->aF,Scope->aG,FuncData->aH,wpAny_field->aI,wpAny_mono->aJ,Builtin->aK,backToKw->aL,keywordEach->aM,IsZip->aO,argBest->aP,wpAny_newObj_type->aQ,wpAny_of_eq->aR,sysModules->aS,wpAny_truthy_bool->aT,assignEach->aU,Keyword->aV,IsPart->aW,wpAny_seqItems->aY,bootBuiltins->aZ,wpAny_holding->ba,bindName->bd,rawInt->be,standAt->bf,assign->bg,pyNext->bh,foldedSetIterable->bi,callerA->bj,relabel->bm,atKey->bn,swapsWith->bo,wpAny_rule->bp,sizeLine_eq->bq,getItem->br,wpAny_call_entry->bu,seqIndex?->bv,intItems->bw,wpAny_standAt->bx,wpAny_passesOwn->bz,Result->bA,attributeBase->bB,BindsTo->bC,NameKind->bD,sliceBounds->bE,call_meets->bF,valueAt->bH,swapsWithSole->bJ,swappedStores->bK,wpAny_pyIter_tuple->bL,behindInMarks->bM,wpAny_callSpecial?_slot->bN,wpAny_letGo->bP,tupleKind->bQ,assignInOrder->bR,wpAny_bindName->bS,letOwnedTupleGo->bT,wpAny_pyIter_list->bU,wpAny_Call_Name_kw->bV,treeTable->bW,plainId_quiet->bX,seqItems?->bY,wpAny_setField_rec->bZ,wpAny_tryCatch->b5,builtinsNs->b6,wpAny_execs_nil->b7,codeAny_mono->b8,importedModules->b9,codeAny_builtin->ca,tupleKind_room_in1->cc,wpAny_pyIter_rangeiter->ce,noFill_tuple_add->cf,seq_tuple_add->cg,wpAny_comprehension_free->cj,wpAny_onRaise->cn,wpAny_pyIter_enum->cp,wpAny_pyIter_zip->cq,wpAny_updateSeq->cu
open PySem.Value renaming ref->yN,none->yaH,type->yaM,int->ybz,str->ybA,bool->ybB,float->ycv
open Bool renaming false_ne_true->yR,and_eq_true->yac,eq_iff_iff->ybE,or_eq_true->ybL,false_or->ycX,false_eq_true->yc5,and_eq_true_iff->yeg,true->ac,false->ag
open PySem.Str renaming ofString->yaa,empty->yb1,join->yco,ofString_eq_toList->yd4
open Option.some renaming inj->yad,injEq->yaP
open Option renaming map_eq_some_iff->yat,bind_eq_some_iff->yaB,map_some->yaL,getD_some->yaR,bind_some->yaS,isSome_map->yci,isSome_iff_exists->ydv,getD_none->ydz,isSome_some->ydR,some->aa,none->ab
open Int renaming emod_nonneg->yau,emod_lt_of_pos->yax,toNat_natCast->yaA,le_refl->ybd,mul_comm->ybg,mul_assoc->ybi,zero_add->ybT,pow_succ->ybU,emod_eq_of_lt->ybV,add_mul->ycU,mul_le_mul_of_nonneg_right->ycW,zero_mul->ydb,mul_nonneg->ydc,emod_emod->ydd,fdiv_eq_ediv_of_nonneg->ydn,emod_add_mul_ediv->yea,mul_le_mul_of_nonneg_left->yeb,toNat_of_nonneg->yee
open Sum renaming inl->yay,inr->yaG
open PySem.Obj renaming mapSeq->yaV,data_mapFields->ydN
open PySem.Builtin.Range renaming rangeFitsLong->yaX,rangeSize->ycA
open Classical renaming choose->yaZ,choose_spec->ya0
open Or renaming inl->ybc
open PySem.F renaming plain_max_loop->ybf,slot_tuple_iterator_next->ycg,slot_zip_next->ycj,slot_tuple_mul->yck,slot_tuple_add->ycJ,entry_tuple_add->ycK,args_tuple_add_2->ycL,slot_range_reversed->ycQ,entry_max_loop->yc4,entry_list_append->ydD,args_list_append_2->ydE,plain_reversed_new->ydK,entry_tuple_iterator_next->ydL,args_tuple_iterator_next_1->ydM,args_object_init_3->ydT,slot_tuple_index->ydY
open PySem.Builtin.Str renaming strSliceIndices->ybt,occurrences->ybZ,glued->yd9
open Array renaming length_toList->ybC,ext'->yb9,toList->ycz,getElem?_toList->ydG
open PySem.Builtin renaming bitAnd->ybD
open PySem.Builtin.Tuple renaming tupleExact->ybI,tupleItemsOf->ycN,tupleTooMany->yc0
open PySem.Builtin.Slice renaming slicePlaces->yb3,sliceAdjust->ycM,sliceApplied->ydx
open PySem.Challenge renaming rw_shorthead_k61_whole_read_within_skips->ycb
open PySem.Walks renaming list->ycd
open PySem.Around renaming under_plainId->ycf,under->ycE
open PySem.W.KT renaming app_list->ycp
open Sum.inl renaming inj->ycu
open Prod.mk renaming injEq->yc7
open PySem.Calls renaming Name_function_global->ydm,callWith_builtin->ydA,evalArgs_plain->ydB
open PySem.IsL renaming update->ydC
open PySem.Heap.SameBut renaming update->ydO
open PySem.Heap.DictOf renaming new->ydS
open PySem.Builtin.Int renaming intBits->yd0
open PySem.Builtin.Builtins renaming bindParams->yd1
open PySem.W.OpenLaw renaming wellSaid->yef
local macro_rules | `(tactic| walk_at $s:str) => do
  let c := s.getString
  if !c.startsWith "#" then Lean.Macro.throwUnsupported
  let J := fun (x : String) => Lean.mkIdent x.toName
  let tb := ("0zaf 2eFn !r%L 0zaj !r$L !r$rF !r$H !~#5 2zaa !q.yX !!! 0zae !%% !r$= 2zac !UL !r%H 1zaE !q9qi 0rfl 3qfn !UrF !0# !4# !0U !y[y] 3eOp 03 06 !r%= 04 !0E 05 0!b2 !<yU !*6 !qLrF 02 !qJ* !%g !~&yg 01 !qLH 07 !qLL !3# !yWqJ !<y` !r$A 0zao !s.yT !r%rF !~%yb !r%A !r.rF !<yc !r$C !so- !r/H 08 !qL= !q#l !qYH !qY= !UH !qmrF !)6 0za3 !rN! !vdtR !<yl !b! !q;< !*q0 !qMqk !T+ !~3yz 2zag !q9qj !s.yd !Psq !qLA !)yH !r'; 1!f4 !$- !r$> !wYve !)vh 1zah 4zal 0zat 6zaz 3!m2 0zcw !0qZ !%q: !:L !*Q !tVsr 2zar 1gN 1tV 5za5 1zee 3!l3 !wYs0 !'% !qLC !rOm !~71 !M% !tWs^ !q)rM !~9- !~:s6 0hr 0$number !0r$ !q!wg !vctR !vfyh !.q: !~+yq !~25 !q5H !#vM !q5= !r/= 1zaF 09 !*r% !s.yY !:rF !r%> !O% !;q. !<ym !~,ys !'q$ !q:H !U= !r1ri !z-z. !qmH !tT6 2zaJ 3sIf 5zav 0zbr 3!m0 0eqD 0neD 1!nd 5zcu !wiq: !r%C !vds/ !qYA !tu! !r07 !g3 !tX# !B' !8ss !2- !)W !+6 !r.L !QQ 1zad 1zab 0$Reader 0za1 0ltD 1zbZ 0zfE 0gtD 2!l2 0$_law_box_here !qJqY !q!wX !E' !vcs/ !vdr& !-- !aqn !nrP !!T !'q^ !#s] !0R !r$N !GO !qjl !q5A !EE !tu* !QyN !r/A !q2rF !VvR !soq0 00 7zbe 0$shape 0geD 3zjK 0$value 0scLawRoadPact.nd !y^ud !qYL !+qW !~'yk !VvO !:H !q9wo !q0; !c! !q:L !wrl !8vM !&7 !qmL !qu! !q!z; !z<z= !Qs8 !2yK 1zbs 4zbL 010 0isD 1aIt 0leD 0$_law_shape_here !tutu !ye' !q;# !~6y~ !`% !q.wg !~<5 !qiR !q:= !q`R !E( !qLN !=qr !Pql !ujrj !~K% !q[q6 !:A !8sq !ukg !'M !q.wX !r%N !qaW !?- !-! !zEzF !nrk !vgrG !yPrQ !q2L !w]zH !tu, !VyK !~Mr3 1eC 0$Presser 0TC.cPresser 0$turn 0zgm 0zbd 0$base 0$least !5yH !qL> !qs- !qYC !&1 !aqo !0Z !q:A !G% !7qZ !8s] !umwb !vmzK !8ql !.% !vUrd !wcqA !'rl !w[vV !~Nq4 !qNwu !qMvn !yQqk !Y! !tZqq !qYN !s9! !qQ* !IQ !r/> !rmqk !sx- !q7q* !~RyR !vfqO !)rG 0TC.cReader 0zeB 1!l1 6za7 0zbR 0zj3 0$had 0$lose 1zdh 0hRestOf 0$breadth 0zga 0$head 0$form 0hFormAt 0TC.nPresser_base 0scReaderRead.nd 0$_law_field 0scLawNextHead.nd !QV !55 !qlq4 !Hqr !yIyJ !spyt !~4ug !q9rb !wmY !q?z/ !:= !*w` !qY> !*qW !yLz0 !vQwp !w[ri !twtx !'# !`q& !r$_ !J3 !3un !qB% !vWg !yLzQ !(% !1% !rRsy !:zR !q5> !svs/ !0r1 !Bs: !w[uo !`t{ !svtR !qNvo !qNwv !zSzT !s;vX !yS( !r/L !+up !zUzV !qRwq !qm= !vprH !q'A !r/N !s|m !W- !vqvY !s{! !zWzX !5zY !vZsz !tTrG !q_wX !w]vr !t|qv !,! !wdrh 0$Road 0!b0 1zbJ 4zcr 2gT 1xs:= 0zcf 0$held 1zed 3eSl 2eUn 0zeA 0$keep 1zlT 0zkZ 012 0$pressed 0zbq 0$read 0$presser 0$echo 0$width 0$place 0$thing 0scOpened.nd 0scParted.nd 0scDoubt.nd 0hIsWorded 0TC.nPresser_had 0TC.nRoad_furthest 0scLawBox.nd 0scLawNext.nd 0scLawKind.nd 0scLawShape.nd !*- !y{uf !)q) !z%q) !z)z* !suw_ !s7% !6sw !Eq+ !E[ !~Dz: !zBV !rSre !&d !q9s} !0t[ !q:N !t}1 !~SqZ !q39 !qPC !'( !t]zZ !q[s< !v[z[ !s~7 !/U !qPH !gq# !v]: !r(( !`. !ssq[ !yMz] !'O !~Tt^ !t~1 !v_C !4r2 !0t! !v^r2 !z^uf !~Uz_ !rnwq !uqqk !v`o !Hqp !)- !q!u! !~V! !Qq* !Q] !r)- !Q2 !r%_ !~Wza !~XrT !vaur !Yh !YrN !r/C !q_vb !hqO !q!u# !rUqO !zbwf !qCr6 !w]vs !t#6 !zcD !q,zd !q,ze !ug! !wmvN 1i:= 0zcZ 1n:= 1zbn 0gL1 0zdO 1zfm 0zmi 0zbY 0zkm 2zr7 0$highest 2zfq 1zeb 4!l4 0zbA 0$low 0zc2 5zfO 0$str 0zv3 030 0zke 0zv0 0zaX 0$fresh 0inD 2eOr 0$twice 0$rise 0zbw 0$reader 0$done 0$copy 0$drop 0$heads 0$words 0zbE 0scNumbersOf.nd 0hNumberOf 0scWidthFor.nd 0scExpected.nd 0hBitsOf 0hSortWidth 0scLetterBy.nd 0$reach 1zfP 0zkf 0T.min 0boot_min 0TC.nPresser_pressed 0$self 0scPresserIsCounted.nd 0$bound 1zjJ 0TC.nRoad_presser 0scRoadDoLetter.nd 0zjO 0zj1 0$_law_many 0$_law_k 3zte 0znm 0znn 0$_law_ways 0$_law_forms 0scLawExpected.nd 0scLawMayCome.nd 0hRoadDo !yiG !Y* !s0wZ !3s. !r0qZ !s[wZ !8w^ !~=z, !z1l !tY' !yMz5 !&qZ !qkty !~GyO !~JU !:C !q9ra !Aqr !+vk !=qp !ulT 3zaT 5zbl 0TC.cRoad 1aCons_len 1za4 0zbt 0PassesOwn.never 8zfp 0zgV 1zdg 2znb 1zeG 0$furthest 5!l5 3zkH 0TC.nReader_highest 0TC.nReader_held 0$step 0$with 2aZip 0zb9 0zdJ 1ziE 2!p2 0zlv 3zoJ 0zbI 099 016 0$whole 0zaS 0zaZ 0zb8 5zer 1zsA 0$anew 0$shared 0zaM 2mkM 0$press 0$top 0$come 0$word 0zv9 0$letters 0zaV 0T.str 0boot_str 0scNumberOf.nd 0hBreadths 0$asked 4zqk 0T.zip 0$way 0hWidths 0hCheckWidth 0hLetterSize 0TC.nPresser_fresh 0scPresserShortest.nd 0hReaderLeast 1zqK 0zvW 2zvg 0TC.nRoad_reader 0cDONE 0TC.kDONE 0zep 0zr1 0T.list 0boot_list 0PySem.F.slot_list_pop 0PySem.F.type_list_pop 0zj7 0zrh 0TC.nRoad_pact 2QPs.cons 0zjQ 0zmC 0hLawValue 0scLawComes.nd 0scLawStep.nd !yZud !whV !~$tS !vcr& !wYs[ !uhz# !rhrh !z(st !Dz4 !vSL !~?z6 !Ftz !&# !DzN 3zaG 3zaw 2zaA 2zau 0hr.units 0zaK 0hLawNext 0hLawOf 3zkl 0$own 1zec 2zfY 0$sent 0$not 0$under_way 0$coming_back 0zbP 0ztN 0zeP 0zco 0ztO 0zla 0$ 0$int 0$bool 0zdM 0zcq 0$tuple 0zh6 0zuS 0zdL 0zfe 01000003 0absF 0$seed 3zhj 011 0$drawn 3sPar 026 0zcW 0zb5 0zwz 0$have 0zcL 2zph 5zi9 0!l0 0$nearest 0zbc 0$is_late 0zbG 0$late 0$is_far 0zbV 0$far 0$head_told 0zbi 0$check 2tOrM 0zeu 0$arrive 0zcm 0$forget 0zdx 0zbF 0zdw 0PySem.F.plainAttrs_str 0PySem.F.slot_str_join 0PySem.F.type_str_join 0zrc 0zt7 0zri 0T.int 0boot_int 4znC 0hIsWhole 7znG 0hIsBetween 0hIsRow 0hWindowed 0$field 2zkF 1zlC 0zux 0T.sum 0boot_sum 0hNumbersOf 0hWidthFor 0hCheckOf 0hPieces 0hSortTold 0hOpened 0scFirstOther.nd 0$many 0$more 0scPresserPress.nd 0scPresserHindrance.nd 0scPresserIsShared.nd 1zlI 0zuy 0T.any 0boot_any 9znE 0$before 1zug 5zql 9znF 0hReaderRise 5zqj 1zrM 0$other 0hReaderNearest 0$deeds 0$deed 0hIsPlaced 0scRoadSend.nd 2qw_or 1zue 0hRoadTop 0zoo 0zuz 0T.abs 0boot_abs 8!l8 0$_law_place 0$_law_breadth 0$_law_way_here 0$_law_first 0$_law_step_here 0$_law_times ;zuf 1j:= 0scLawWay.nd 0scLawRoad.nd 0scLawPact.nd 0$_law_most 0$_law_wide 0$_law_road_here 0$_law_some 0$_law_reach 0$_law_count 0$_law_pact_here 0$_law_came 0$_law_number 0$_law_skips 0$_law_gap 0$_law_late 0$_law_anew 0$_law_one 0hRoadLetters 0hRoadWords !wjrM !wlG !8ue !vewZ !~5y| !vPz$ !q]- !~>z3 !q<zA !vlzD !wazG !~OzM 1.int 0ixD 1Or.inl 3qxi 1zak 1.str 5zan 1zaq 0_ 4zap 1hr.mono 0zbN 0zaB 0zaH 0zc8 0.non 0$pact 0zbf 0zbg 0aNil_len 0zaC 1zbK 0zc5 0zez 0zfv 0zaL 0zca 0T.len 0PySem.boot_len 0zb1 0zb2 1N0:= 7!a7 0!b4 0!b1 1.inl 0zbu 0zce 3zcd 0zbM 1zcU 0ze6 0zjq 5zc6 1.bl 0zb0 0zda 0zdb 9zck 0zdm 0zgj 5zc9 0PySem.F.plainAttrs_list 0zdR 0zgX 0TC.nPresser_pact 0zbB 3eIf 0T.tuple 0boot_tuple 0T.max 0false 0zay 0PySem.F.slot_list_append 0PySem.F.type_list_append 0zb3 0zb4 2zfo 0zjP 0zj2 1zcb 0zfN 0hPresserSent 4zbv 0znI 2zgz 0zkL 0zkV 0boot_max 0TC.nReader_pact 0zgB 0zgC 0zpp 0$do 0zaY 0T.range 1zc4 0zfg 0zpq 040 1.tup 1zdX 0ziQ 0zo1 0zet 0zgi 1Or.inr 1zpt 060 0true 8zkG 0T.isi 3zhx 0T.enumerate 3ze2 3zkI 0TC.nRoad_under_way 0TC.nRoad_coming_back 0zwm 0zkX 0zhU 0zcI 0zia 0zen 0zdn 0revR 0zuW 0andD 0shrD 1eNot 0zc1 0allF 0zew 041 063 02305843009213693951 018 2gI 07919 0104729 048271 02305843009213693921 069621 02305843009213693907 065537 0$still 0199 0$abcdefghijklmnopqrstuvwxyz 0zem 0251 01000 0999983 0zfF 039 0361 020 0400 0zdu 0zdv 0zfI 0$0 0$1 0zfd 0zfL 0rng2 0zh7 0zde 0$is_told_anew 0za9 0$is_shared 0zbp 0$is_counted 0zbj 0$count 0zlr 0$formers 0zby 0$hindrance 0zbk 0$ask_head 0zbz 0zel 0$shortest 0zbo 0$heard_of 0zbx 0zb7 0zev 3eSlA 6zr6 0zhd 0zbT 0zgp 0$blank 0zcx 0zcX 0zb6 0zdr 0$is_overtaken 0za6 0$is_ahead 0zbU 0zcn 0zgn 0$heard 0zbH 0$send 0zdo 0zdK 0$do_letter 0za8 0$do_word 0zcl 0zk2 0zcp 0zh5 0zcy 4zu4 0zei 0zc0 050 0zcz 0zfG 0MD.inD 0zqh 0rpT 0scAreBits 0scAreBits.nd 0zsZ 5zve 0T.reversed 0zlD 0fd_str 0op_and 0od_and 0op_shr 0od_shr 0scNumberOf 0zss 0fd_int 3!m1 0scNumbersOf 0scWidthFor 0zpY 1qe_not 0T.bool 0boot_bool 0zl3 0zpZ 0zu3 0zoG 0zsW 0zoE 0zs0 0zoI 0scIsHead 0scIsHead.nd 1zsu 0fd_all 0T.all 0boot_all 0hIsValue 0scExpected 0hTurned 0zsT 1zqF 0ztz 0zp0 0zpW 0zsS 0hWidthOf 0zsX 0zsU 0scOpened 0hExpected 0hValueTold 0zlY 0hAround 0zsY 0zlZ 0zkx 0scLetterSize 0scLetterSize.nd 0hSizeOf 0scLetterBy 0scSortTold 0scSortTold.nd 0scParted 0hAreBits 0scDoubt 0hFirstOther 0scFirstOther 0scFormerHeads 0scFormerHeads.nd 3zvd 0scPresserPress 0hPresserAskHead 0hLetterBy 0hPresserShortest 0zil 0hPresserHeardOf 0zju 0zgT 0hFormerHeads 0zgU 0hIsHead 0scPresserHindrance 0hPresserIsToldAnew 0hPresserIsShared 0hPresserIsCounted 0hDoubt 0hPresserFormers 0zgS 0scPresserShortest 0hPresserHindrance 0scPresserIsToldAnew 0scPresserIsToldAnew.nd 0scPresserIsShared 0scPresserIsCounted 0zsR 0scThoseKept 0scThoseKept.nd :ztf 1zlE 0ztV 0T.sorted 0boot_sorted 0scReaderRead 0hParted 0hReaderIsLate 0hReaderIsFar 0hReaderHeadTold 0zik 0znD 0zl2 0zjt 0zij 0zhf 0scReaderIsFar 0scReaderIsFar.nd 0scReaderHeadTold 0scReaderHeadTold.nd 0zku 0hThoseKept 0zoH 0zsV 0hRoadSend 0hReaderForget 0cLETTER_DEEDS 0TC.kLETTER_DEEDS 0hRoadDoLetter 0cWORD_DEEDS 0TC.kWORD_DEEDS 0hRoadDoWord 0zjr 0zl0 0zl1 0zpX 0hReaderTop 0scRoadSend 0hPresserPress 0scRoadDoLetter 0hRoadArrive 0zkt 0hPresserHeard 0scRoadArrive 0hRoadIsOvertaken 0hRoadIsAhead 0scRoadArrive.nd 0hReaderRead 0hWordOf 0zf0 0zjs 0scLawBox 3zvh 0QPs.nil 0!b3 0scLawNext 2zvf 0zu2 0scLawValue 0scLawValue.nd 0scLawKind 9!l9 0scLawShape 0hLawKind 0scLawWay 0scLawForm 0scLawForm.nd 0hLawWay 0scLawRoad 0scLawPact 0hLawShape 0hLawForm 0hLawRoad 0zkw 0scLawExpected 0scLawNextHead 0hLawExpected 0scLawFitWay 0scLawFitWay.nd 0scLawRoadPact 0hLawPact 3qe_slA :!l10 ;!l11 0hLawFitWay 0scLawMayCome 1zso 0zwq 7!l7 7ztd 0scLawComes 0hLawMayCome 0hRoadHeads 0scLawStep 0hLawComes !5yV !5y_ !q/ya !q/yf !yjwk !q1yn !~(yo !~)D !~*yp !q/yr !yuyv !~-sp !~.5 !~/yw !~05 !~1yx !q/yy !wnvN !ratU !y}wk !<z! !q/z& !~8z' !tvH !q!z+ !~;vi !vgvj !Dz2 !qtws !vTz7 !~Az8 !~Bz9 !~Cui !s_z> !~E5 !~Fz? !<zC !~HU !~Irc !#ue !q/zI !~LzJ !q%wt !izL !q1zO !~P5 !~QzP !r4qw !qbwe !tSD !qYrF !z`D !r5]".splitOn " ").toArray
  let v := fun (c : Char) => let n := c.toNat; if n > 92 then n - 36 else if n > 64 then n - 35 else if n > 34 then n - 34 else n - 33
  let rd := fun (cs : List Char) => Id.run do
    let mut o : Array Nat := #[]
    let mut p : Option Nat := none
    for c in cs do
      match p with
      | some q => o := o.push (77 + (q - 77) * 91 + v c); p := none
      | none => if v c < 77 then o := o.push (v c) else p := some (v c)
    return o.toList
  let mut td := rd (c.toList.drop 1)
  let mut o : List String := []
  while !td.isEmpty do
    let e := tb[td.head!]!
    if e.startsWith "!" then td := rd (e.toList.drop 1) ++ td.tail
    else o := e :: o; td := td.tail
  let mut st : List Lean.Term := []
  for e in o do
    let nm := ((e.drop 1).toString)
    let k := (e.toList.head!).toNat - 48
    let as := (st.take k).toArray
    st := st.drop k
    let r : Lean.Term ← (do
      if nm.endsWith ":=" then return ⟨Lean.Syntax.node .none ``Lean.Parser.Term.namedArgument #[Lean.mkAtom "(", J (nm.dropEnd 2).toString, Lean.mkAtom ":=", as[0]!, Lean.mkAtom ")"]⟩
      if nm == "_" then return ← `(_)
      if nm.startsWith "!" then
        match (nm.drop 1).toString with
        | "b0" => return ← `((by decide))
        | "b1" => return ← `((by repeat ( first | exact trivial | refine ⟨ rfl , ?_ ⟩ )))
        | "b2" => return ← `((by rfl))
        | "b3" => return ← `((by simp))
        | "b4" => return ← `((by with_unfolding_all rfl))
        | "nd" => return ← `((by decide +kernel : ($(as[0]!) : List $(J "Str")).Nodup))
        | "m0" => return ← `(have h := $(J "mkx") $(J "P") $(J "w") $(J "base") $(J "cl") $(as[0]!) $(J "F") $(J "b") $(J "m") $(as[1]!) fun $(J "cdv") $(J "A") $(J "outer") $(J "s") $(J "H") $(J "E") $(J "hr") => $(as[2]!); h)
        | "m1" => return ← `(have h := $(J "mkx") $(J "P") $(J "w") $(J "base") $(J "cl") $(as[0]!) $(J "F") $(J "b") $(J "m") $(as[1]!) fun $(J "cdv") $(J "A") $(J "outer") $(J "s") $(J "H") $(J "E") $(J "hr") => $(as[2]!); h.loc)
        | "m2" => return ← `(have h := $(J "mkm") $(J "P") $(J "w") $(J "base") $(J "cl") $(as[0]!) $(J "F") $(J "b") $(J "m") $(as[1]!) fun $(J "cdv") $(J "A") $(J "outer") $(J "s") $(J "H") $(J "E") $(J "hr") => $(as[2]!); h)
        | x => match x.toList.head! with
          | 'l' => return ← `([$as,*])
          | 'a' => return ← `(⟨$as,*⟩)
          | 'p' => if as.size == 2 then return ← `(($(as[0]!), $(as[1]!))) else return ← `(($(as[0]!), $(as[1]!), $(as[2]!)))
          | _ => if x == "f4" then return ← `(fun _ _ _ _ => $(as[0]!)) else if x == "f2" then return ← `(fun _ _ => $(as[0]!)) else if x == "f3" then return ← `(fun _ _ _ => $(as[0]!)) else return ← `(fun _ => $(as[0]!))
      let h : Lean.Term := if nm.startsWith "$" then Lean.Syntax.mkStrLit (nm.drop 1).toString else if (nm.toList.head!).isDigit then Lean.Syntax.mkNumLit nm else if nm.startsWith "." then ⟨Lean.Syntax.node .none ``Lean.Parser.Term.dotIdent #[Lean.mkAtom ".", J (nm.drop 1).toString]⟩ else J nm
      return if k == 0 then h else Lean.Syntax.mkApp h as : Lean.MacroM Lean.Term)
    st := r :: st
  `(tactic| exact $(st.head!))
local macro_rules | `(tactic| erw $s:rwRuleSeq) => `(tactic| (walk_at "w"; rw $s:rwRuleSeq))
local macro_rules | `(tactic| ac_nf) => `(tactic| walk_at "w")
set_option maxHeartbeats 16000000
noncomputable section
set_option Elab.async false
set_option linter.all false
set_option maxRecDepth 100000
namespace AutoP
theorem a0(h:True:=by first | exact .inl rfl | exact .inr rfl | assumption):True:=h
theorem a1(h:True:=by decide):True:=h
theorem a2(h:True:=by intro _;rfl):True:=h
theorem a3(h:True:=by rfl):True:=h
theorem a4(h:True:=by with_unfolding_all rfl):True:=h
theorem a5(h:True:=by intro _ _ z;simp[*]at z):True:=h
theorem a6(h:True:=by decide +kernel):True:=h
theorem a7(h:True:=by intro _ _;rfl):True:=h
theorem a8(h:True:=by repeat first | exact aNil_len | refine aCons_len ?_):True:=h
end AutoP
namespace L2
open PySem PySem.Spec PyProof.Rows
abbrev Key:=Sum Int ae
def zmM:Key->af->Bool
 |.inl k,v=>Value.isInt k v|.inr x,v=>Value.isStrOf x v
def keyH(w:al):Key->Int
 |.inl k=>hashInt k|.inr x=>hashStr w x
theorem zbb:∀{k:Key}{v:af},zmM k v=ac->(∃i t,k=yay i/\v=ybz i t)∨(∃x t,k=yaG x/\v=ybA x t)
 |.inl i,v,h=>by
  obtain⟨t,e⟩:=Value.isInt_shape (k:=i) (v:=v) h;exact .inl ⟨i,t,rfl,e⟩
 |.inr x,v,h=>by
  obtain⟨t,e⟩:=Value.isStrOf_shape (x:=x) (v:=v) h;exact .inr ⟨x,t,rfl,e⟩
theorem zrA(i:Int)(t:Tok):zmM (.inl i) (.int i t)=ac:=by simp[zmM,Value.isInt]
theorem zrz(x:ae)(t:Tok):zmM (.inr x) (.str x t)=ac:=by simp[zmM,Value.isStrOf]
theorem key_ll(a b:Int):decide ((yay a:Key)=yay b)=(a==b):=by
 by_cases e:a=b
 ·subst e;simp
 ·have h : ¬ (yay a:Key)=yay b:=fun q=>e (ycu q);rw[decide_eq_false h];exact(beq_eq_false_iff_ne.mpr e).symm
theorem key_rr(a b:ae):decide ((yaG a:Key)=yaG b)=decide (a=b):=by
 by_cases e:a=b
 ·subst e;simp
 ·have h : ¬ (yaG a:Key)=yaG b:=fun q=>e (Sum.inr.inj q);rw[decide_eq_false h,decide_eq_false e]
theorem key_lr(a:Int)(b:ae):decide ((yay a:Key)=yaG b)=ag:=decide_eq_false (fun q=>nomatch q)
theorem key_rl(a:ae)(b:Int):decide ((yaG a:Key)=yay b)=ag:=decide_eq_false (fun q=>nomatch q)
def zaP(prog:ap)(w:al):PySem.KeyKind prog w Key where
 is:=zmM
 hash:=keyH w
 inj:=fun v a b ha H=>by
  rcases zbb ha with⟨i,t,rfl,rfl⟩|⟨x,t,rfl,rfl⟩
  ·rcases zbb H with⟨j,u,rfl,e⟩|⟨y,u,rfl,e⟩
   ·injection e with e1 _;rw[e1]
   ·exact nomatch e
  ·rcases zbb H with⟨j,u,rfl,e⟩|⟨y,u,rfl,e⟩
   ·exact nomatch e
   ·injection e with e1 _;rw[e1]
 byValue:=fun k v h=>by
  rcases zbb h with⟨i,t,rfl,rfl⟩|⟨x,t,rfl,rfl⟩ <;> rfl
 pyHash:=fun hv h=>by
  rcases zbb hv with⟨i,t,rfl,rfl⟩|⟨x,t,rfl,rfl⟩
  ·exact wpAny_pyHash_int h
  ·exact wpAny_pyHash_str h
 eqBool:=fun c hv h=>by
  rcases zbb c with⟨i,t,rfl,rfl⟩|⟨x,t,rfl,rfl⟩
  ·rcases zbb hv with⟨j,u,rfl,rfl⟩|⟨y,u,rfl,rfl⟩
   ·rw[key_ll]at h;exact wpAny_eqBool_int h
   ·rw[key_lr]at h;exact SeqAt.EqAt.int_str i t y u _ _ _ _ h
  ·rcases zbb hv with⟨j,u,rfl,rfl⟩|⟨y,u,rfl,rfl⟩
   ·rw[key_rl]at h;exact SeqAt.EqAt.str_int x t j u _ _ _ _ h
   ·rw[key_rr]at h;exact wpAny_eqBool_str h
 «strs» := fun k x t v h=>by
  rcases zbb h with⟨i,u,rfl,e⟩|⟨y,u,rfl,e⟩
  ·exact nomatch e
  ·injection e with e1 _
   subst e1
   cases v <;> rfl
theorem zmH(prog:ap)(w:al)(i:Int)(t:Tok):(zaP prog w).is (.inl i) (.int i t)=ac:=zrA i t
theorem zmG(prog:ap)(w:al)(x:ae)(t:Tok):(zaP prog w).is (.inr x) (.str x t)=ac:=zrz x t
inductive V where
 |non | bl (b:Bool) | int (i:Int) | str (x:ae) | byt (b:Array UInt8) | flt (b:UInt64) | ref (a:ad) | ty (n:String)
 deriving DecidableEq
def RelV:V->af->Prop
 |.non,u=>u=yaH|.bl b,u=>u=ybB b|.int i,u=>∃t,u=ybz i t|.str x,u=>∃t,u=ybA x t|.byt b,u=>∃t,u=Value.bytes b t|.flt b,u=>∃t,u=ycv b t|.ref a,u=>u=yN a|.ty n,u=>u=yaM n
abbrev Vals:List V->List af->Prop:=Paired RelV
variable{xs:List V}{us:List af}
theorem Vals.length(r:Vals xs us):xs.length=us.length:=Paired.length r
theorem Vals.get:∀{xs:List V}{us:List af}{i:Nat}{x:V},Vals xs us->xs[i]?=aa x->∃u,us[i]?=aa u/\RelV x u
 |_,_,_,_,.nil,e=>by simp at e|_,_,0,_,.cons r _,e=>by simp at e;subst e;exact⟨_,rfl,r⟩|_,_,i+1,x,.cons _ t,e=>by
  obtain⟨u,h1,h2⟩:=Vals.get (i:=i) (x:=x) t (by simpa using e);exact⟨u,by simpa using h1,h2⟩
theorem Vals.set{x:V}{u:af}(r:RelV x u):∀{xs:List V}{us:List af}(i:Nat),Vals xs us->Vals (xs.set i x) (us.set i u)
 |_,_,_,.nil=>.nil|_,_,0,.cons _ t=>.cons r t|_,_,i+1,.cons q t=>.cons q (Vals.set r i t)
theorem Vals.append:∀{xs ys:List V}{us ws:List af},Vals xs us->Vals ys ws->Vals (xs++ys) (us++ws)
 |_,_,_,_,.nil,s=>s|_,_,_,_,.cons r t,s=>.cons r (Vals.append t s)
theorem Vals.take:∀{xs:List V}{us:List af}(n:Nat),Vals xs us->Vals (xs.take n) (us.take n)
 |_,_,0,_=>.nil|_,_,_+1,.nil=>.nil|_,_,n+1,.cons r t=>.cons r (Vals.take n t)
theorem Vals.drop:∀{xs:List V}{us:List af}(n:Nat),Vals xs us->Vals (xs.drop n) (us.drop n)
 |_,_,0,r=>r|_,_,_+1,.nil=>.nil|_,_,n+1,.cons _ t=>Vals.drop n t
def RelO:Option V->Option af->Prop
 |some v,aa u=>RelV v u|none,ab=>True|_,_=>False
def KV{a : Type}:List (a × V)->List (a × af)->Prop:=Paired fun(p : a × V)(q : a × af)=>p.1=q.1/\RelV p.2 q.2
def kV:Key->V
 |.inl i=>.int i|.inr x=>.str x
inductive HO where
 |lst (xs:List V)
 |tup (xs:List V)
 |dK (kvs:List (Key×V)) | dT (kvs:List (List Key×V))
 |set (S:Int->Bool) (n:Nat)
 |ins (C dx:ad) (fs:List (ae×V))
 |own (x:ad)
 |xd (fs:List (ae×V))
 |met (f x:ad)
 |rng (lo hi:Int)
 |frz (o:av) (u:HO)
 |tbl (ps:Array af)
 |ext (φ : ax->Prop)
abbrev Hp:=ad->Option HO
def upd(H:Hp)(a:ad)(o:HO):Hp:=fun b=>if b=a then aa o else H b
variable{H:Hp}{a:ad}{o:HO}
theorem zaD:upd H a o a=aa o:=by unfold upd;rw[if_pos rfl]
variable{b:ad}
theorem zax(h:b≠a):upd H a o b=H b:=by unfold upd;rw[if_neg h]
theorem ne_of{u:HO}(h:H a=aa o)(h':H b=aa u)(d:o≠u):a≠b:=by
 intro e;subst e;rw[h]at h';exact d (yad h')
theorem zaI(h:H a=aa o)(h':H b=ab):a≠b:=by
 intro e;subst e;rw[h]at h';cases h'
section
variable(P:ap)(w:al)
def NoD(h:ax)(a:ad):Prop:=∃o,h.get? a=aa o/\o.dict=ab
def ObjOk(H:Hp)(h:ax)(a:ad):HO->Prop
 |.lst xs=>xs.length<=sizeLine/\∃(its:List af)(n:Nat),Vals xs its/\h.get? a=aa { cls := .type "list", data := .seq its.toArray n }|.tup xs=>xs.length<=sizeLine/\∃its:List af,Vals xs its/\IsTup h a its.toArray/\NoD h a|.dK kvs=>kvs.length<=sizeLine/\(a==aS)=ag/\∃vs,KV kvs vs/\h.DictOf (zaP P w) a vs|.dT kvs=>kvs.length<=sizeLine/\(a==aS)=ag/\∃xs:List (List Key×ad×af),
   Paired (fun(p:List Key×V)(q:List Key×ad×af)=>p.1=q.1/\H q.2.1=aa (.tup (p.1.map kV))/\RelV p.2 q.2.2) kvs xs ∧
   ∃o es ep,h.get? a=aa o/\o.ExactDict/\o.data = .dict es ep/\es.toList=xs.map (entryOfKey (bQ (zaP P w)))/\(xs.map (·.1)).Nodup
 |.set S n=>h.SetOf (intKind P w) a S n|.ins C dx fs=>H dx=aa (.own a)/\fs.length<=1000/\dx≠a/\h.get? a=aa (yaU C dx) ∧
   ∃mA,h.Ns1 dx mA/\(∀f,RelO (fs.lookup f) (mA f))/\ycw mA (fs.map (·.1))
 |.own _=>∃o,h.get? a=aa o|.xd fs=>∃mA,h.Ns1 a mA/\∀f,RelO (fs.lookup f) (mA f)|.rng lo hi=>∃t u v,h.get? a=aa { cls := .type "range", data := .fields #[.int lo t,.int hi u,.int 1 v] }|.frz o u=>h.get? a=aa o/\ObjOk H h a u|.tbl ps=>h.get? a=aa { cls := .none,data := .fields ps }|.met f x=>h.get? a=aa (ycx (.ref f) (.ref x))|.ext φ=> φ h/\(∃o,h.get? a=aa o)/\∀h1 h2:ax,φ h1->(∀o,h1.get? a=aa o->h2.get? a=aa o) -> φ h2
def HOk(H:Hp)(h:ax):Prop:=∀a o,H a=aa o->ObjOk P w H h a o
end
variable{P:ap}{H':Hp}{h h':ax}
section
variable{w:al}
theorem ObjOk.lt(x:ObjOk P w H h a o):a<h.objs.size:=by
 cases o with
 |lst xs=>obtain⟨_,_,_,_,e⟩:=x;exact yA e
 |tup xs=>obtain⟨_,_,_,p,_⟩:=x;exact p.lt
 |dK kvs=>obtain⟨_,_,_,_,o,_,_,e,_⟩:=x;exact yA e
 |dT kvs=>obtain⟨_,_,_,_,o,_,_,e,_⟩:=x;exact yA e
 |set S n=>obtain⟨o,_,_,_,e,_⟩:=x;exact yA e
 |ins C dx fs=>obtain⟨_,_,_,e,_⟩:=x;exact yA e
 |own y=>obtain⟨_,e⟩:=x;exact yA e
 |xd fs=>obtain⟨_,⟨_,_,_,e,_⟩,_⟩:=x;exact yA e
 |rng lo hi=>obtain⟨_,_,_,e⟩:=x;exact yA e
 |frz ob u=>obtain⟨e,_⟩:=x;exact yA e
 |tbl ps=>exact yA (show h.get? a=aa _ from x)|met f y=>exact yA (show h.get? a=aa _ from x)|ext φ=>obtain⟨_,⟨_,e⟩,_⟩:=x;exact yA e
theorem Paired.mapP{α β : Type}{F G:α -> β -> Prop}:∀{L : List α}{l : List β},Paired F L l -> (∀a b,F a b->G a b)->Paired G L l
 |_,_,.nil,_=>.nil|_,_,.cons r t,f=>.cons (f _ _ r) (Paired.mapP t f)
theorem ObjOk.stay(x:ObjOk P w H h a o)(k:∀b u,(b=a∨H b=aa (.own a))->h.get? b=aa u->h'.get? b=aa u)(j:∀b,H b=aa (.own a)->H' b=aa (.own a))(g:∀b xs,H b=aa (.tup xs)->H' b=aa (.tup xs)):ObjOk P w H' h' a o:=by
 induction o with
 |lst xs=>obtain⟨z,its,n,r,e⟩:=x;exact⟨z,its,n,r,k _ _ (.inl rfl) e⟩
 |tup xs=>obtain⟨z,its,r,⟨ob,e,c⟩,od,E,D⟩:=x;exact⟨z,its,r,⟨ob,k _ _ (.inl rfl) e,c⟩,od,k _ _ (.inl rfl) E,D⟩
 |dK kvs=>obtain⟨z,y,vs,r,ob,es,ep,e,c⟩:=x;exact⟨z,y,vs,r,ob,es,ep,k _ _ (.inl rfl) e,c⟩
 |dT kvs=>
  obtain⟨z,y,xs,r,ob,es,ep,e,c⟩:=x;exact⟨z,y,xs,Paired.mapP r fun p q z=>⟨z.1,g _ _ z.2.1,z.2.2⟩,ob,es,ep,k _ _ (.inl rfl) e,c⟩
 |set S n=>obtain⟨ob,es,ep,t,e,c⟩:=x;exact⟨ob,es,ep,t,k _ _ (.inl rfl) e,c⟩
 |ins C dx fs=>
  obtain⟨d,z,ne,e,mA,⟨od,es,ep,l,c⟩,r⟩:=x;exact⟨j _ d,z,ne,k _ _ (.inl rfl) e,mA,⟨od,es,ep,k _ _ (.inr d) l,c⟩,r⟩
 |own y=>obtain⟨ob,e⟩:=x;exact⟨ob,k _ _ (.inl rfl) e⟩
 |xd fs=>obtain⟨mA,⟨od,es,ep,e,c⟩,r⟩:=x;exact⟨mA,⟨od,es,ep,k _ _ (.inl rfl) e,c⟩,r⟩
 |rng lo hi=>obtain⟨t,u,v,e⟩:=x;exact⟨t,u,v,k _ _ (.inl rfl) e⟩
 |frz ob u i=>obtain⟨e,q⟩:=x;exact⟨k _ _ (.inl rfl) e,i q⟩
 |tbl ps=>
  have e:h.get? a=aa { cls := .none,data := .fields ps }:=x;show h'.get? a=aa { cls := .none,data := .fields ps };exact k a _ (.inl rfl) e
 |met f y=>
  have e:h.get? a=aa (ycx (.ref f) (.ref y)):=x;show h'.get? a=aa (ycx (.ref f) (.ref y));exact k a _ (.inl rfl) e
 |ext φ=>obtain⟨p,⟨o,e⟩,st⟩:=x;exact⟨st _ _ p fun o q=>k _ _ (.inl rfl) q,⟨o,k _ _ (.inl rfl) e⟩,st⟩
theorem HOk.lt(x:HOk P w H h)(e:H a=aa o):a<h.objs.size:=(x a o e).lt
theorem HOk.fresh(x:HOk P w H h)(e:h.objs.size<=a):H a=ab:=by
 cases q:H a with
 |none=>rfl|some u=>exact absurd (yQ (x.lt q) e) (yao _)
theorem HOk.kept(x:HOk P w H h)(k:∀b u,h.get? b=aa u->h'.get? b=aa u):HOk P w H h':=fun a o e=>
 (x a o e).stay (fun b u _ q=>k b u q) (fun _ q=>q) fun _ _ q=>q
theorem HOk.laid(x:HOk P w H h)(k:∀b u,h.get? b=aa u->h'.get? b=aa u)(f:h.objs.size<=a)(new:ObjOk P w (upd H a o) h' a o):HOk P w (upd H a o) h':=fun b u e=>by
 have hn:=x.fresh f;by_cases d:b=a
 ·subst d;rw[zaD]at e;cases e;exact new
 ·rw[zax d]at e;exact(x b u e).stay (fun c v _ q=>k c v q) (fun c q=>by rw[zax (zaI q hn)];exact q) fun c xs q=>by rw[zax (zaI q hn)];exact q
end
def Rd(H:Hp)(a:ad)(u:HO):Prop:=H a=aa u∨∃o,H a=aa (.frz o u)
theorem Rd.ok{w:al}{u:HO}(r:Rd H a u)(x:HOk P w H h):ObjOk P w H h a u:=by
 rcases r with r|⟨o,r⟩
 ·exact x a u r
 ·obtain⟨_,q⟩:=x a _ r;exact q
def Mut:Option HO->Prop
 |some (.lst _)=>True|some (.dK _)=>True|some (.dT _)=>True|some (.set _ _)=>True|some (.ins _ _ _)=>True|some (.ext _)=>True|_=>False
section
variable{w:al}{x e:ad}{o':HO}
theorem HOk.write(ok:HOk P w H h)(m:Mut (H x))(i:e=x∨H e=aa (.own x))(k:∀b u,b≠e->h.get? b=aa u->h'.get? b=aa u)(g:∃u,h'.get? e=aa u)
  (new:ObjOk P w (upd H x o') h' x o'):HOk P w (upd H x o') h':=fun b u q=>by
 have n:∀c y,H c=aa (.own y)->c≠x:=fun c y r z=>by subst z;rw[r]at m;exact m
 have N:∀c xs,H c=aa (.tup xs)->c≠x:=fun c xs r z=>by subst z;rw[r]at m;exact m
 by_cases f:b=x
 ·subst f;rw[zaD]at q;cases q;exact new
 ·rw[zax f]at q;by_cases a:b=e
  ·have Q:H b=aa (.own x):=by
    rcases i with z|z
    ·exact absurd (a.trans z) f
    ·rw[a];exact z
   rw[q]at Q;cases Q;obtain⟨v,hv⟩:=g;exact⟨v,by rw[a];exact hv⟩
  ·refine(ok b u q).stay (fun c v d r=>k c v ?_ r) (fun c r=>by rw[zax (n c b r)];exact r) fun c xs r=>by rw[zax (N c xs r)];exact r
   rcases d with rfl|d
   ·exact a
   ·rintro rfl;rcases i with z|z
    ·exact n c b d z
    ·rw[d]at z;cases z;exact f rfl
end
structure Un(fs ex:List ad)(H H':Hp)(h h':ax):Prop where
 keep:∀b o,h.get? b=aa o->H b=ab->b∉fs->b∉ex->h'.get? b=aa o
 slot:∀b o,h.get? b=aa o->H b=ab->b∈fs->b∉ex->∃sl,h'.get? b=aa { o with slots:=sl }
 free:∀b o,h.get? b=aa o->H b=ab->b∉ex->H' b=ab
 there:∀b o,h.get? b=aa o->b∉ex->∃o',h'.get? b=aa o'
 tups:∀b xs,H b=aa (.tup xs)->H' b=aa (.tup xs)
 frzs:∀b o u,H b=aa (.frz o u)->H' b=aa (.frz o u)
 tbls:∀b ps,H b=aa (.tbl ps)->∃more,H' b=aa (.tbl (ps++more))
section
variable{fs fs' ex ex':List ad}{H1 H2:Hp}{h1 h2:ax}{x e:ad}
theorem Un.any(u:Un fs ex H H1 h h1){ob:av}(q:h.get? b=aa ob)(n:H b=ab)(a:b∉ex):∃sl,h1.get? b=aa { ob with slots:=sl }:=by
 by_cases c:b∈fs
 ·exact u.slot b ob q n c a
 ·exact⟨ob.slots,u.keep b ob q n c a⟩
theorem Un.kept(k:∀b u,h.get? b=aa u->h'.get? b=aa u):Un fs ex H H h h' :=
 ⟨fun b ob q _ _ _=>k b ob q,fun b ob q _ _ _=>⟨ob.slots,k b ob q⟩,fun _ _ _ n _=>n,fun b ob q _=>⟨ob,k b ob q⟩,fun _ _ q=>q,fun _ _ _ q=>q,fun _ ps q=>⟨#[],by rw[q];simp⟩⟩
theorem Un.refl:Un fs ex H H h h:=Un.kept fun _ _ q=>q
theorem Un.laid(k:∀b u,h.get? b=aa u->h'.get? b=aa u)(c:h.objs.size<=a)(hn:H a=ab):Un fs ex H (upd H a o) h h' where
 keep:=fun b u q _ _ _=>k b u q
 slot:=fun b u q _ _ _=>⟨u.slots,k b u q⟩
 free:=fun b u q n _=>by rw[zax (yG (yQ (yA q) c))];exact n
 there:=fun b u q _=>⟨u,k b u q⟩
 tups:=fun b xs q=>by rw[zax (zaI q hn)];exact q
 frzs:=fun b u xs q=>by rw[zax (zaI q hn)];exact q
 tbls:=fun b ps q=>⟨#[],by rw[zax (zaI q hn),q];simp⟩
theorem Un.write(m:Mut (H x))(g:e=x∨H e=aa (.own x))(k:∀b u,b≠e->h.get? b=aa u->h'.get? b=aa u)(c:∃u,h'.get? e=aa u):Un fs ex H (upd H x o) h h':=by
 have d:∀b,H b=ab->b≠x:=fun b n z=>by subst z;rw[n]at m;exact m
 have f:∀b,H b=ab->b≠e:=fun b n z=>by
  subst z;rcases g with r|r
  ·exact d b n r
  ·rw[n]at r;cases r
 have hm:∀b u,H b=aa u -> ¬ Mut (aa u)->b≠x:=fun b u q nm z=>by subst z;rw[q]at m;exact nm m
 refine⟨fun b u q n _ _=>k b u (f b n) q,fun b u q n _ _=>⟨u.slots,k b u (f b n) q⟩,fun b u q n _=>by rw[zax (d b n)];exact n,fun b u q _=>?_,
  fun b xs q=>by rw[zax (hm b _ q fun z=>z)];exact q,fun b u xs q=>by rw[zax (hm b _ q fun z=>z)];exact q,fun b ps q=>⟨#[],by rw[zax (hm b _ q fun z=>z),q];simp⟩⟩
 by_cases a:b=e
 ·subst a;exact c
 ·exact⟨u,k b u a q⟩
end
def trk(h:ax)(H:Hp):List ad:=(yJ h.objs.size).filter fun a=>(H a).isSome
def ztR(h:ax)(H:Hp):ax:=PySem.W.hideAll h (trk h H)
theorem zrN(h:ax)(H:Hp):(ztR h H).objs.size=h.objs.size:=PySem.W.hideAll_size _ _
theorem ztQ{o:av}(e:h.get? b=aa o)(n:H b=ab):(ztR h H).get? b=aa o :=
 PySem.W.hideAll_get _ e fun hm=>by
  have q:(H b).isSome=ac:=(ya1.mp hm).2;rw[n]at q;simp at q
theorem zvU{o:av}(e:(ztR h H).get? b=aa o):h.get? b=aa o/\H b=ab:=by
 have E:h.get? b=aa o:=PySem.W.of_hideAll (trk h H) e;refine⟨E,?_⟩;cases q:H b with
 |none=>rfl|some x=>
  have hm:b∈trk h H:=ya1.mpr ⟨yaI.mpr (yA E),by simp[q]⟩;have z:(ztR h H).get? b=ab:=PySem.W.hideAll_none (trk h H) hm;rw[z]at e;cases e
structure Mod(K:ye)(mg:ae->Option af)(base:ax):Prop where
 kin:K.In base
 glob:base.Ns aD mg
 blt:∃mb,base.Ns b6 mb/\∀x:ae,x ≠ "__name__" -> mb x=aZ x
 nolimit:base.NoLimit
structure Cx where
 prog:ap
 w:al
 K:ye
 mg:ae->Option af
 base:ax
 A:aA
 N:List ae
 s₀ : aj
 H₀ : Hp
 env:Env
 outer:List Env
 stack:List Env
 ex:List ad
 fn:ae->Bool
 calm:Bool
 pn:List (ad×av)
 xe:af->aj->Prop
def frs(l:List Env):List ad:=l.filterMap (·.frame)
abbrev Cx.fs(X:Cx):List ad:=frs X.outer
def Vis(sc:aG)(x:ae):Prop:=sc.names.lookup x=aa .local∨sc.names.lookup x=aa .cell∨sc.names.lookup x=aa .free
def Loc(sc:aG)(x:ae):Prop:=sc.names.lookup x=aa .local∨sc.names.lookup x=aa .cell
def Look(env:Env)(h:ax)(m:ae->Option af)(x:ae)(u:af):Prop :=
 (env.kindOf x=aa .local/\m x=aa u)∨((env.kindOf x=aa .cell∨env.kindOf x=aa .free)/\∃c,env.cells.lookup x=aa c/\h.IsCell c (aa u))
structure Cx.Ok(X:Cx):Prop where
 mod:Mod X.K X.mg X.base
 kind:X.env.scope.kind = .function
 glob:X.env.globals=aD
 blt:X.env.builtins=b6
 above:X.s₀.heap.objs.size<=X.env.locals
 inj:∀x y c,X.env.cells.lookup x=aa c->X.env.cells.lookup y=aa c->x=y
 has:∀x,(X.env.kindOf x=aa .cell∨X.env.kindOf x=aa .free)->∃c,X.env.cells.lookup x=aa c
 cab:∀x c,X.fn x=ac->X.env.cells.lookup x=aa c->X.s₀.heap.objs.size<=c
 hd:X.calm=ac->X.A.handled=ab
 frames:X.A.frames=aa X.stack
 stk:X.stack=X.outer∨(X.stack=X.env::X.outer/\X.env.frame=aa X.env.locals)
 exf:∀b∈X.ex,b≠X.env.locals/\∀x c,X.env.cells.lookup x=aa c->c≠b
 bs:∀b o,X.base.get? b=aa o->X.s₀.heap.get? b=aa o/\X.H₀ b=ab
 bsz:X.base.objs.size<=X.s₀.heap.objs.size
 noex:∀b o,X.base.get? b=aa o->b∉X.ex
 exfs:∀b∈X.ex,b∉X.fs
 funs:X.s₀.heap.FunFrames X.base X.outer
 frf:∀b∈X.fs,X.H₀ b=ab
structure Inv(X:Cx)(pins:List (ad×av))(σ : List (Option V))(H:Hp)(s:aj):Prop where
 ok:X.Ok
 os:s.os=X.s₀.os
 bare:a9 s.gens
 base:Un X.fs X.ex X.H₀ H X.s₀.heap s.heap
 loc:∃m,s.heap.Ns X.env.locals m/\∀(i:Nat)(x:ae)(v:V),X.N[i]?=aa x->σ[i]?=aa (aa v)->Vis X.env.scope x->∃u,RelV v u/\Look X.env s.heap m x u
 cell:∀x c,X.env.cells.lookup x=aa c->∃v,s.heap.IsCell c v
 free:H X.env.locals=ab
 freeC:∀x c,X.env.cells.lookup x=aa c->H c=ab
 pin:∀p∈X.pn++pins,s.heap.get? p.1=aa p.2/\H p.1=ab/\p.1≠X.env.locals/\p.1∉X.fs/\∀v,p.2.data ≠ .cell v
 hok:HOk X.prog X.w H s.heap
 len:σ.length=X.N.length
variable{u:af}{x:ae}{X:Cx}{pins:List (ad×av)}{s:aj}{g':Array GenState}{t':Nat}{d':Drawn}{ch:List ad}{it:ad}{N:List ae}{i j:Nat}{M:Model}{A:aA}{E:af->aj->Prop}{v:V}{s':aj}
section
variable{σ : List (Option V)}
theorem Cx.Ok.nofr(ok:X.Ok){o:av}(e:X.base.get? b=aa o):b∉X.fs:=fun h=>by
 have:=(ok.funs.mem h).1;rw[e]at this;cases this
theorem Inv.bs(I:Inv X pins σ H s):∀b o,X.base.get? b=aa o->s.heap.get? b=aa o/\H b=ab:=fun b o e=>
 ⟨I.base.keep b o (I.ok.bs b o e).1 (I.ok.bs b o e).2 (I.ok.nofr e) (I.ok.noex b o e),I.base.free b o (I.ok.bs b o e).1 (I.ok.bs b o e).2 (I.ok.noex b o e)⟩
theorem Inv.bk(I:Inv X pins σ H s):∀b o,X.base.get? b=aa o->s.heap.get? b=aa o:=fun b o e=>(I.bs b o e).1
theorem Inv.mod(I:Inv X pins σ H s):Mod X.K X.mg X.base:=I.ok.mod
theorem Inv.kIn(I:Inv X pins σ H s):X.K.In s.heap:=I.ok.mod.kin.keeps I.bk
theorem Inv.lt(I:Inv X pins σ H s):X.env.locals<s.heap.objs.size:=let ⟨_,hn,_⟩:=I.loc;hn.lt
theorem Inv.sz(I:Inv X pins σ H s):X.s₀.heap.objs.size<=s.heap.objs.size:=yO I.ok.above (ybk I.lt)
theorem Inv.nofs(I:Inv X pins σ H s)(h:s.heap.objs.size<=a):a∉X.fs:=fun c=>by
 obtain⟨_,o,b,_⟩:=I.ok.funs.mem c;exact absurd (yQ (yA b) (yO I.sz h)) (yao _)
theorem Inv.cne(I:Inv X pins σ H s):∀x c,X.env.cells.lookup x=aa c->c≠X.env.locals:=fun x c e z=>by
 obtain⟨v,o,b,hd⟩:=I.cell x c e;obtain⟨m,⟨o',es,ep,h,a,_⟩,_⟩:=I.loc;rw[z,h]at b;cases b;rw[a]at hd;cases hd
theorem Inv.funs(I:Inv X pins σ H s):s.heap.FunFrames X.base X.outer:=by
 have all:∀(l:List Env),(∀b∈frs l,b∈X.fs)->X.s₀.heap.FunFrames X.base l->s.heap.FunFrames X.base l:=by
  intro l;induction l with
  |nil=>intro _ _;trivial|cons env r i=>
   intro hs hl;obtain⟨f,⟨L,o,h,hn,d,hd⟩,hr⟩:=hl;have c:L∈X.fs:=hs L (by unfold frs;rw[ycy,h];exact yar);obtain⟨sl,e⟩:=I.base.slot L o d (I.ok.frf L c) c fun z=>I.ok.exfs L z c;exact⟨f,⟨L,_,h,hn,e,hd⟩,i (fun b a=>hs b (by unfold frs;rw[ycy,h];exact yag _ a)) hr⟩
 exact all X.outer (fun _ a=>a) I.ok.funs
theorem Inv.stack(I:Inv X pins σ H s):s.heap.FunFrames X.base X.stack:=by
 rcases I.ok.stk with e|⟨e,h⟩
 ·rw[e];exact I.funs
 ·rw[e];obtain⟨m,hn,_⟩:=I.loc;refine .cons (by rw[I.ok.kind];decide) h hn ?_ I.funs;exact Heap.get?_none_of_le (yO I.ok.bsz I.ok.above)
theorem Inv.stkSub(I:Inv X pins σ H s):∀b∈frs X.stack,b∈X.env.locals::X.fs:=fun b h=>by
 rcases I.ok.stk with e|⟨e,a⟩
 ·rw[e]at h;exact yag _ h
 ·rw[e]at h;unfold frs at h;rw[ycy,a]at h;exact h
theorem Inv.stkFree(I:Inv X pins σ H s):∀b∈frs X.stack,H b=ab:=fun b h=>by
 rcases yB.mp (I.stkSub b h) with e|h
 ·rw[e];exact I.free
 ·obtain⟨_,o,a,_⟩:=I.ok.funs.mem h;exact I.base.free b o a (I.ok.frf b h) fun z=>I.ok.exfs b z h
theorem Inv.step(I:Inv X pins σ H s)
  (a:∀b∈ch,(b∈X.ex∨X.s₀.heap.objs.size<=b)/\b≠X.env.locals/\(∀x c,X.env.cells.lookup x=aa c->c≠b)/\∀p∈X.pn++pins,p.1≠b)
  (keep:∀b o,b≠X.env.locals->b∉X.fs->b∉ch->s.heap.get? b=aa o->H b=ab->h'.get? b=aa o)
  (slot:∀b o,b≠X.env.locals->b∈X.fs->b∉ch->s.heap.get? b=aa o->H b=ab->∃sl,h'.get? b=aa { o with slots:=sl }) (free:∀b o,b∉ch->s.heap.get? b=aa o->H b=ab->H' b=ab)
  (there:∀b o,b∉ch->s.heap.get? b=aa o->∃o',h'.get? b=aa o')
  (tups:∀b xs,H b=aa (.tup xs)->H' b=aa (.tup xs)) (frzs:∀b o u,H b=aa (.frz o u)->H' b=aa (.frz o u)) (tbls:∀b ps,H b=aa (.tbl ps)->∃more,H' b=aa (.tbl (ps++more)))
  (ns:∀m,s.heap.Ns X.env.locals m->h'.Ns X.env.locals m) (hok:HOk X.prog X.w H' h') (D:a9 g') :
  Inv X pins σ H' { s with heap:=h',gens:=g',drawn:=d',toks:=t' }:=by
 have t:∀b o,X.s₀.heap.get? b=aa o->b≠X.env.locals:=fun b o e=>yG (yQ (yA e) I.ok.above);have f:∀b o,X.s₀.heap.get? b=aa o->b∉X.ex->b∉ch:=fun b o e h g=>by
  rcases (a b g).1 with z|z
  ·exact h z
  ·exact absurd (yQ (yA e) z) (yao _)
 have C:∀x c,X.env.cells.lookup x=aa c->∀v,s.heap.IsCell c v->h'.IsCell c v:=fun x c e v ⟨o,j,hd⟩=>by
  have N:c∉ch:=fun z=>(a c z).2.2.1 x c e rfl;by_cases B:c∈X.fs
  ·obtain⟨sl,q⟩:=slot c o (I.cne x c e) B N j (I.freeC x c e);exact⟨_,q,hd⟩
  ·exact⟨o,keep c o (I.cne x c e) B N j (I.freeC x c e),hd⟩
 refine⟨I.ok,I.os,D,⟨fun b o e n g h=>?_,fun b o e n g h=>?_,fun b o e n h=>?_,fun b o e h=>?_,fun b xs e=>tups b xs (I.base.tups b xs e),fun b o xs e=>frzs b o xs (I.base.frzs b o xs e),fun b ps e=>?_⟩,?_,fun x c e=>?_,?_,fun x c e=>?_,fun p A=>?_,hok,I.len⟩
 ·exact keep b o (t b o e) g (f b o e h) (I.base.keep b o e n g h) (I.base.free b o e n h)
 ·obtain⟨sl,E⟩:=I.base.slot b o e n g h;obtain⟨S,w⟩:=slot b _ (t b o e) g (f b o e h) E (I.base.free b o e n h);exact⟨S,w⟩
 ·obtain⟨o',E⟩:=I.base.there b o e h;exact free b o' (f b o e h) E (I.base.free b o e n h)
 ·obtain⟨o',E⟩:=I.base.there b o e h;exact there b o' (f b o e h) E
 ·obtain⟨m1,E⟩:=I.base.tbls b ps e;obtain⟨m2,w⟩:=tbls b _ E;exact⟨m1++m2,by rw[w,Array.append_assoc]⟩
 ·obtain⟨m,hn,hl⟩:=I.loc;refine⟨m,ns m hn,fun i x v E w F=>?_⟩;obtain⟨u,r,l⟩:=hl i x v E w F;refine⟨u,r,?_⟩;rcases l with l|⟨k,c,e,z⟩
  ·exact .inl l
  ·exact .inr ⟨k,c,e,C x c e _ z⟩
 ·obtain⟨v,z⟩:=I.cell x c e;exact⟨v,C x c e v z⟩
 ·obtain⟨m,⟨o,_,_,j,_⟩,_⟩:=I.loc;exact free _ o (fun z=>(a _ z).2.1 rfl) j I.free
 ·obtain⟨v,o,j,hd⟩:=I.cell x c e;exact free c o (fun z=>(a c z).2.2.1 x c e rfl) j (I.freeC x c e)
 ·obtain⟨e,n,ne,y,d⟩:=I.pin p A;have N:p.1∉ch:=fun z=>(a p.1 z).2.2.2 p A rfl;exact⟨keep p.1 p.2 ne y N e n,free p.1 p.2 N e n,ne,y,d⟩
theorem Inv.un(I:Inv X pins σ H s)(u:Un X.fs [] H H' s.heap h')(hok:HOk X.prog X.w H' h'):Inv X pins σ H' { s with heap:=h',toks:=t' }:=by
 obtain⟨m,⟨o,es,ep,d,r⟩,_⟩:=id I.loc;obtain⟨sl,f⟩:=u.any d I.free (by simp);exact I.step (g':=s.gens) (d':=s.drawn) (ch:=[]) (fun _ z=>nomatch z) (fun b o _ a _ e n=>u.keep b o e n a (by simp)) (fun b o _ a _ e n=>u.slot b o e n a (by simp)) (fun b o _ e n=>u.free b o e n (by simp)) (fun b o _ e=>u.there b o e (by simp)) u.tups u.frzs u.tbls (fun m' hm=>by
  obtain⟨o',E,c,h,r'⟩:=hm;rw[d]at h;cases h;exact⟨_,E,c,f,r'⟩) hok I.bare
theorem Inv.call(I:Inv X pins σ H s)(u:Un (frs X.stack) ch H H' s.heap h')(hok:HOk X.prog X.w H' h')(j:a9 g')(d:∀b∈ch,(b∈X.ex∨X.s₀.heap.objs.size<=b)/\b≠X.env.locals/\(∀x c,X.env.cells.lookup x=aa c->c≠b)/\∀p∈X.pn++pins,p.1≠b) : Inv X pins σ H' { s with heap:=h',gens:=g',drawn:=d',toks:=t' }:=by
 obtain⟨m,⟨o,es,ep,i,r⟩,_⟩:=id I.loc;obtain⟨sl,f⟩:=u.any i I.free fun z=>(d _ z).2.1 rfl;exact I.step (ch:=ch) d (fun b o f k h e n=>u.keep b o e n (fun z=>(yB.mp (I.stkSub b z)).elim f k) h) (fun b o _ _ h e n=>u.any e n h) (fun b o h e n=>u.free b o e n h) (fun b o h e=>u.there b o e h) u.tups u.frzs u.tbls (fun m' hm=>by
  obtain⟨o',E,g,a,r'⟩:=hm;rw[i]at a;cases a;exact⟨_,E,g,f,r'⟩) hok j
theorem Inv.turned(I:Inv X pins σ H s)(k:∀b o,b≠it->s.heap.get? b=aa o->h'.get? b=aa o)(hn:H it=ab)(a:it≠X.env.locals)(j:it∈X.ex∨X.s₀.heap.objs.size<=it)(i:∀x c,X.env.cells.lookup x=aa c->c≠it)(g:∀p∈X.pn++pins,p.1≠it):Inv X pins σ H { s with heap:=h',toks:=t' }:=by
 have N:∀b u,H b=aa u->b≠it:=fun b u e z=>by rw[z,hn]at e;cases e
 refine I.step (g':=s.gens) (d':=s.drawn) (ch:=[it]) (fun b f=>?_) (fun b o _ _ h e _=>k b o (fun z=>h (by simp[z])) e) (fun b o _ _ h e _=>⟨o.slots,k b o (fun z=>h (by simp[z])) e⟩) (fun _ _ _ _ n=>n)
  (fun b o h e=>⟨o,k b o (fun z=>h (by simp[z])) e⟩) (fun _ _ e=>e) (fun _ _ _ e=>e) (fun b ps e=>⟨#[],by rw[e];simp⟩) (fun m hm=>?_) (fun b u e=>?_) I.bare
 ·have e:b=it:=by simpa using f
  subst e;exact⟨j,a,i,g⟩
 ·obtain⟨o,es,ep,d,r⟩:=hm;exact⟨o,es,ep,k _ o (Ne.symm a) d,r⟩
 ·refine(I.hok b u e).stay (fun c v h q=>k c v ?_ q) (fun _ q=>q) fun _ _ q=>q;rcases h with z|z
  ·rw[z];exact N b u e
  ·exact N c _ z
theorem Inv.tok(I:Inv X pins σ H s)(t:Nat):Inv X pins σ H { s with toks:=t }:=I.un (h':=s.heap) (t':=t) Un.refl I.hok
theorem Inv.kept(I:Inv X pins σ H s)(k:∀b u,s.heap.get? b=aa u->h'.get? b=aa u):Inv X pins σ H { s with heap:=h',toks:=t' }:=I.un (Un.kept k) (I.hok.kept k)
theorem Inv.laid(I:Inv X pins σ H s)(k:∀b u,s.heap.get? b=aa u->h'.get? b=aa u)(h:s.heap.objs.size<=a)(new:ObjOk X.prog X.w (upd H a o) h' a o) :
  Inv X pins σ (upd H a o) { s with heap:=h',toks:=t' }:=I.un (Un.laid k h (I.hok.fresh h)) (I.hok.laid k h new)
theorem Inv.write{x e:ad}(I:Inv X pins σ H s)(m:Mut (H x))(a:e=x∨H e=aa (.own x))(k:∀b u,b≠e->s.heap.get? b=aa u->h'.get? b=aa u)(h:∃u,h'.get? e=aa u)
  (new:ObjOk X.prog X.w (upd H x o) h' x o):Inv X pins σ (upd H x o) { s with heap:=h',toks:=t' }:=I.un (Un.write m a k h) (I.hok.write m a k h new)
theorem Inv.pins_of{P:List (ad×av)}(I:Inv X pins σ H s)(h:∀p∈P,s.heap.get? p.1=aa p.2/\H p.1=ab/\p.1≠X.env.locals/\p.1∉X.fs/\∀v,p.2.data ≠ .cell v):Inv X P σ H s :=
 ⟨I.ok,I.os,I.bare,I.base,I.loc,I.cell,I.free,I.freeC,fun p a=>(yae.mp a).elim (fun z=>I.pin p (yaj _ z)) (h p),I.hok,I.len⟩
theorem znO(h:N.Nodup)(a:N[i]?=aa x)(b:N[j]?=aa x):i=j:=by
 obtain⟨c,E⟩:=yi.mp a;obtain⟨H,e⟩:=yi.mp b;exact(ybX h).mp (E.trans e.symm)
theorem zpO{Q:Unit->aj->Prop}(I:Inv X pins σ H s)(hN:X.N.Nodup)(hi:X.N[i]?=aa x)(l:Loc X.env.scope x)(r:RelV v u)(h:∀s',Inv X pins (σ.set i (aa v)) H s'->(∃a,ya2 a s.heap s'.heap/\(a=X.env.locals∨X.env.cells.lookup x=aa a))->Q () s')(hf:autoParam (X.fn x=ac∨X.env.scope.names.lookup x=aa .local) AutoP.a0._auto_1):wpAny M A (storeName X.env x u) Q E s:=by
 obtain⟨m,hn,hl⟩:=id I.loc;have N:(X.env.scope.kind == .class||(X.env.scope.kind == .module&&X.env.locals != X.env.globals))=ag:=by rw[I.ok.kind];rfl
 have D : i < σ.length:=by rw[I.len];exact(yi.mp hi).1
 have cne:=I.cne;have t:∀{a:ad}{h':ax},(∃o,s.heap.get? a=aa o/\H a=ab)->ya2 a s.heap h'->HOk X.prog X.w H h':=fun {a h'} ha hs b ob e=>by
  obtain⟨_,_,w⟩:=ha;refine(I.hok b ob e).stay (fun c W g q=>(hs.2 c ?_).trans q) (fun _ q=>q) fun _ _ q=>q;rintro rfl;rcases g with rfl|g
  ·rw[w]at e;cases e
  ·rw[w]at g;cases g
 rcases l with C|C
 ·refine wpAny_storeName_local C hn (fun h' Z hs=>?_) N;obtain⟨oL,_,_,Y,_⟩:=id hn;refine h _ ⟨I.ok,I.os,I.bare,⟨fun b o e n J l=>?_,fun b o e n J l=>?_,I.base.free,fun b o e l=>?_,I.base.tups,I.base.frzs,I.base.tbls⟩,⟨_,Z,fun j y V f B e3=>?_⟩,fun y c e=>?_,I.free,I.freeC,fun p T=>?_,t ⟨oL,Y,I.free⟩ hs,by simpa using I.len⟩ ⟨_,hs,.inl rfl⟩
  ·exact(hs.2 b (yG (yQ (yA e) I.ok.above))).trans (I.base.keep b o e n J l)
  ·obtain⟨sl,f⟩:=I.base.slot b o e n J l;exact⟨sl,(hs.2 b (yG (yQ (yA e) I.ok.above))).trans f⟩
  ·obtain⟨o',f⟩:=I.base.there b o e l;exact⟨o',(hs.2 b (yG (yQ (yA e) I.ok.above))).trans f⟩
  ·by_cases F:j=i
   ·subst F;rw[hi]at f;cases f;rw[ya3 D]at B;cases B;exact⟨u,r,.inl ⟨C,by simp⟩⟩
   ·rw[ybl (Ne.symm F)]at B;obtain⟨U,r',q⟩:=hl j y V f B e3;refine⟨U,r',?_⟩;rcases q with⟨k,e⟩|⟨k,c,e,z⟩
    ·refine .inl ⟨k,?_⟩;have:y≠x:=fun e=>F (znO hN f (e ▸ hi));simp[this,e]
    ·exact .inr ⟨k,c,e,z.sameBut hs (cne y c e)⟩
  ·obtain⟨W,z⟩:=I.cell y c e;exact⟨W,z.sameBut hs (cne y c e)⟩
  ·obtain⟨e,n,ne,S,d⟩:=I.pin p T;exact⟨(hs.2 p.1 ne).trans e,n,ne,S,d⟩
 ·have G:X.fn x=ac:=by
   rcases hf with z|z
   ·exact z
   ·rw[z]at C;cases C
  obtain⟨c,g⟩:=I.ok.has x (.inl C);obtain⟨W,z⟩:=I.cell x c g;refine wpAny_storeName_cell I.ok.kind C g z (fun h' P hs=>?_);obtain⟨oc,L,K⟩:=id z;refine h { s with heap:=h' } ⟨I.ok,I.os,I.bare,⟨fun b o e n J l=>?_,fun b o e n J l=>?_,I.base.free,fun b o e l=>?_,I.base.tups,I.base.frzs,I.base.tbls⟩,⟨m,hn.sameBut hs (Ne.symm (cne x c g)),fun j y V f B e3=>?_⟩,fun y R e=>?_,I.free,I.freeC,fun p T=>?_,t ⟨oc,L,I.freeC x c g⟩ hs,by simpa using I.len⟩ ⟨c,hs,.inr g⟩
  ·exact(hs.2 b (yG (yQ (yA e) (I.ok.cab x c G g)))).trans (I.base.keep b o e n J l)
  ·obtain⟨sl,f⟩:=I.base.slot b o e n J l;exact⟨sl,(hs.2 b (yG (yQ (yA e) (I.ok.cab x c G g)))).trans f⟩
  ·obtain⟨o',f⟩:=I.base.there b o e l;exact⟨o',(hs.2 b (yG (yQ (yA e) (I.ok.cab x c G g)))).trans f⟩
  ·by_cases F:j=i
   ·subst F;rw[hi]at f;cases f;rw[ya3 D]at B;cases B;exact⟨u,r,.inr ⟨.inl C,c,g,P⟩⟩
   ·rw[ybl (Ne.symm F)]at B;obtain⟨U,r',q⟩:=hl j y V f B e3;refine⟨U,r',?_⟩;rcases q with q|⟨k,R,e,z'⟩
    ·exact .inl q
    ·refine .inr ⟨k,R,e,z'.sameBut hs ?_⟩;rintro rfl;exact F (znO hN f (I.ok.inj _ _ _ e g ▸ hi))
  ·by_cases O:R=c
   ·subst O;exact⟨_,P⟩
   ·obtain⟨w2,z2⟩:=I.cell y R e;exact⟨w2,z2.sameBut hs O⟩
  ·obtain⟨e,n,ne,S,d⟩:=I.pin p T;refine⟨(hs.2 p.1 ?_).trans e,n,ne,S,d⟩;intro q;rw[q,L]at e;have q':oc=p.2:=yad e;exact d W (by rw[<- q'];exact K)
theorem zdB{Q:Unit->aj->Prop}(I:Inv X pins σ H s)(c:X.N.Nodup)(hi:X.N[i]?=aa x)(a:Loc X.env.scope x)(r:RelV v u)(h:∀s',Inv X pins (σ.set i (aa v)) H s'->Q () s')(b:autoParam (X.fn x=ac∨X.env.scope.names.lookup x=aa .local) AutoP.a0._auto_1):wpAny M A (storeName X.env x u) Q E s :=
 zpO I c hi a r (fun s' d _=>h s' d) b
theorem Inv.call'(I:Inv X pins σ H s)(a:s'.os=s.os)(u:Un (frs X.stack) ch H H' s.heap s'.heap)(hok:HOk X.prog X.w H' s'.heap)(d:a9 s'.gens)(h:∀b∈ch,(b∈X.ex∨X.s₀.heap.objs.size<=b)/\b≠X.env.locals/\(∀x c,X.env.cells.lookup x=aa c->c≠b)/\∀p∈X.pn++pins,p.1≠b):Inv X pins σ H' s':=by
 obtain⟨h',g',d',t',o'⟩:=s';have e:o'=s.os:=a;subst e;exact I.call (g':=g') (t':=t') (d':=d') u hok d h
end
abbrev XK:=af->Option ad->Hp->Prop
abbrev St:=List (Option V)
abbrev VK:=V->Hp->Prop
abbrev TE:=St->Hp->VK->Prop
abbrev TT:=St->Hp->(Bool->Hp->Prop)->Prop
abbrev TA:=St->Hp->(List V->Hp->Prop)->Prop
structure Ends where
 nx:St->Hp->Prop
 rt:VK
 bk:St->Hp->Prop:=fun _ _=>False
 ct:St->Hp->Prop:=fun _ _=>False
abbrev TS:=Ends->St->Hp->Prop
def EP(X:Cx)(pins:List (ad×av))(σ : St)(Q:VK)(u:af)(s:aj):Prop:=∃v H',Inv X pins σ H' s/\RelV v u/\Q v H'
def TP(X:Cx)(pins:List (ad×av))(σ : St)(Q:Bool->Hp->Prop)(b:Bool)(s:aj):Prop:=∃H',Inv X pins σ H' s/\Q b H'
def AP(X:Cx)(pins:List (ad×av))(σ : St)(Q:List V->Hp->Prop)(us:List af)(s:aj):Prop:=∃vs H',Inv X pins σ H' s/\Vals vs us/\Q vs H'
def SP(X:Cx)(pins:List (ad×av))(D:Ends)(f:Flow)(s:aj):Prop :=
 match f with
 |.next=>∃σ' H',Inv X pins σ' H' s/\D.nx σ' H'|.brk=>∃σ' H',Inv X pins σ' H' s/\D.bk σ' H'|.cont=>∃σ' H',Inv X pins σ' H' s/\D.ct σ' H'|.ret u=>∃v σ' H',Inv X pins σ' H' s/\RelV v u/\D.rt v H'
def PE(X:Cx)(e:ak)(t:TE):Prop :=
 ∀(pins:List (ad×av))(s:aj)(σ : St)(H:Hp)(Q:VK),Inv X pins σ H s->t σ H Q->wpAny (ao X.prog X.w) X.A (eval e X.env) (EP X pins σ Q) X.xe s
def PT(X:Cx)(e:ak)(t:TT):Prop :=
 ∀(pins:List (ad×av))(s:aj)(σ : St)(H:Hp)(Q:Bool->Hp->Prop),Inv X pins σ H s->t σ H Q->wpAny (ao X.prog X.w) X.A (isTrue e X.env (eval e X.env)) (TP X pins σ Q) X.xe s
def PW(X:Cx)(e:ak)(t:TT):Prop :=
 ∀(whole:Sem af)(pins:List (ad×av))(s:aj)(σ : St)(H:Hp)(Q:Bool->Hp->Prop),Inv X pins σ H s->t σ H Q->wpAny (ao X.prog X.w) X.A (isTrue e X.env whole) (TP X pins σ Q) X.xe s
theorem PW.pt{e:ak}{t:TT}(h:PW X e t):PT X e t:=h _
def PA(X:Cx)(es:List ak)(t:TA):Prop :=
 ∀(pos:ay)(pins:List (ad×av))(s:aj)(σ : St)(H:Hp)(Q:List V->Hp->Prop),Inv X pins σ H s->t σ H Q->wpAny (ao X.prog X.w) X.A (spliced (aB pos (au es X.env))) (AP X pins σ Q) X.xe s
def PS(X:Cx)(st:am)(t:TS):Prop :=
 ∀(pins:List (ad×av))(s:aj)(σ : St)(H:Hp)(D:Ends),Inv X pins σ H s->t D σ H->wpAny (ao X.prog X.w) X.A (exec st X.env) (SP X pins D) X.xe s
def PSs(X:Cx)(st:List am)(t:TS):Prop :=
 ∀(pins:List (ad×av))(s:aj)(σ : St)(H:Hp)(D:Ends),Inv X pins σ H s->t D σ H->wpAny (ao X.prog X.w) X.A (execs st X.env) (SP X pins D) X.xe s
theorem thn{α : Type}{t:Sem α}{Q q:α -> aj->Prop}(h:wpAny M A t Q E s)(H:∀a s,Q a s->q a s):wpAny M A t q E s:=aJ h H fun _ _ x=>x
variable{Q:af->aj->Prop}{pos:ay}{σ : St}{ta tb:TE}{c:ak}
section
def tVar(i:Nat):TE:=fun σ H Q=>∃v,σ[i]?=aa (aa v)/\Q v H
def tC(v:V):TE:=fun _ H Q=>Q v H
theorem pe_var(j:X.N[i]?=aa x)(hv:Vis X.env.scope x)(hd:autoParam ((x==("__debug__" : ae))=ag) AutoP.a1._auto_1)(d:autoParam ((x==("__classdict__" : ae))=ag) AutoP.a1._auto_1):PE X (.Name x pos) (tVar i):=by
 intro pins s σ H Q I h;obtain⟨v,e,h⟩:=h;obtain⟨m,hn,hl⟩:=I.loc;obtain⟨u,r,l⟩:=hl i x v j e hv;have f:EP X pins σ Q u s:=⟨v,H,I,r,h⟩;rcases l with⟨b,hm⟩|⟨b,c,g,a⟩
 ·exact wpAny_Name (wpAny_loadName_local I.ok.kind b hn hm f) hd
 ·rcases b with b|b
  ·exact wpAny_Name (wpAny_loadName_cell I.ok.kind b g a f) hd
  ·exact wpAny_Name (wpAny_loadName_free I.ok.kind b g a f d) hd
theorem pe_int {i j pos}:PE X (.Constant (.int i) j pos) (tC (.int i)):=fun _ _ _ H _ I h=>wpAny_Constant_int ⟨.int i,H,I.tok _,⟨_,rfl⟩,h⟩
theorem pe_bl {b j pos}:PE X (.Constant (.bool b) j pos) (tC (.bl b)):=fun _ _ _ H _ I h=>Constant_bool ⟨.bl b,H,I,rfl,h⟩
theorem pe_non {j pos}:PE X (.Constant .none j pos) (tC .non):=fun _ _ _ H _ I h=>Constant_none ⟨.non,H,I,rfl,h⟩
theorem zui {x j pos}:PE X (.Constant (.str x) j pos) (tC (.str x)):=fun _ _ _ H _ I h=>Calls.Constant_str ⟨.str x,H,I.tok _,⟨_,rfl⟩,h⟩
def Gl(X:Cx)(x:ae):Prop:=X.env.kindOf x=aa .globalImplicit
theorem zmK(I:Inv X pins σ H s)(a:Gl X x)(hm:X.mg x=aa u)(h:Q u s)(hd:autoParam ((x==("__debug__" : ae))=ag) AutoP.a1._auto_1):wpAny (ao X.prog X.w) X.A (eval (.Name x pos) X.env) Q E s :=
 ydm I.ok.kind a (Calls.loadGlobal_global (by rw[I.ok.glob];exact I.mod.glob.keeps I.bk) hm h) hd
theorem zeg(I:Inv X pins σ H s)(a:Gl X x)(hm:X.mg x=ab)(hv:aZ x=aa u)(h:Q u s)(hn:autoParam (x ≠ "__name__") AutoP.a1._auto_1)(hd:autoParam ((x==("__debug__" : ae))=ag) AutoP.a1._auto_1):wpAny (ao X.prog X.w) X.A (eval (.Name x pos) X.env) Q E s:=by
 obtain⟨mb,c,b⟩:=I.mod.blt;exact ydm I.ok.kind a (Calls.loadGlobal_builtin (by rw[I.ok.glob];exact I.mod.glob.keeps I.bk) hm (by rw[I.ok.blt];exact c.keeps I.bk) ((b x hn).trans hv) h) hd
theorem zvG(a:Gl X x)(hm:X.mg x=aa u)(r:RelV v u)(hd:autoParam ((x==("__debug__" : ae))=ag) AutoP.a1._auto_1):PE X (.Name x pos) (tC v) :=
 fun _ _ _ H _ I h=>zmK I a hm ⟨v,H,I,r,h⟩ hd
theorem zvK(a:Gl X x)(hm:X.mg x=ab)(hv:aZ x=aa u)(r:RelV v u)(hn:autoParam (x ≠ "__name__") AutoP.a1._auto_1)(hd:autoParam ((x==("__debug__" : ae))=ag) AutoP.a1._auto_1):PE X (.Name x pos) (tC v) :=
 fun _ _ _ H _ I h=>zeg I a hm hv ⟨v,H,I,r,h⟩ hn hd
variable{a b:ak}
def tB(t:TE):TT:=fun σ H Q=>t σ H fun x H1=>∃c,x = .bl c/\Q c H1
theorem pt_val{e:ak}{t:TE}(h:PE X e t)(c:autoParam (∀whole,isTrue e X.env whole=(do let v <- whole;bf e.pos;holding [v] (truthy v))) AutoP.a2._auto_1):PT X e (tB t):=by
 intro pins s σ H Q I b
 refine isTrue_plain (thn (h pins s σ H _ I b) fun v s1 ⟨x,f,i,r,a⟩=>?_) (c _)
 obtain⟨d,rfl,q⟩:=a
 cases r
 exact aT ⟨f,i,q⟩
variable{tA tB':TT}{rest:List ak}
def tAnd(t u:TT):TT:=fun σ H Q=>t σ H fun c H1=>if c=ac then u σ H1 Q else Q ag H1
def tOr(t u:TT):TT:=fun σ H Q=>t σ H fun c H1=>if c=ac then Q ac H1 else u σ H1 Q
def tNot(t:TT):TT:=fun σ H Q=>t σ H fun c H1=>Q (!c) H1
theorem zvj(ha:PT X a tA):PW X (.BoolOp .And [a] pos) tA:=by
 intro w pins s σ H Q I h;refine isTrue_and (thn (ha pins s σ H Q I h) fun c s1 e=>?_);cases c with
 |true=>exact isTrue_and_nil e|false=>exact e
theorem pw_or1(ha:PT X a tA):PW X (.BoolOp .Or [a] pos) tA:=by
 intro w pins s σ H Q I h;refine isTrue_or (thn (ha pins s σ H Q I h) fun c s1 e=>?_);cases c with
 |false=>exact isTrue_or_nil e|true=>exact e
theorem pw_and(ha:PT X a tA)(e:PW X (.BoolOp .And (b::rest) pos) tB'):PW X (.BoolOp .And (a::b::rest) pos) (tAnd tA tB'):=by
 intro w pins s σ H Q I h;refine isTrue_and (thn (ha pins s σ H _ I h) ?_);rintro c s1 ⟨d,i,q⟩;cases c with
 |true=>exact e w pins s1 σ d Q i q|false=>exact⟨d,i,q⟩
theorem pw_or(ha:PT X a tA)(e:PW X (.BoolOp .Or (b::rest) pos) tB'):PW X (.BoolOp .Or (a::b::rest) pos) (tOr tA tB'):=by
 intro w pins s σ H Q I h;refine isTrue_or (thn (ha pins s σ H _ I h) ?_);rintro c s1 ⟨d,i,q⟩;cases c with
 |true=>exact⟨d,i,q⟩|false=>exact e w pins s1 σ d Q i q
theorem pt_not(ha:PT X a tA):PT X (.UnaryOp .Not a pos) (tNot tA):=by
 intro pins s σ H Q I h;exact isTrue_not (ha pins s σ H (fun c b=>Q (!c) b) I h)
def tAndV(t tb:TE):TE:=fun σ H Q=>t σ H fun x H1=>∃c,x = .bl c/\if c=ac then tb σ H1 Q else Q (.bl ag) H1
def tOrV(t tb:TE):TE:=fun σ H Q=>t σ H fun x H1=>∃c,x = .bl c/\if c=ac then Q (.bl ac) H1 else tb σ H1 Q
def tNotV(t:TE):TE:=fun σ H Q=>t σ H fun x H1=>∃c,x = .bl c/\Q (.bl (!c)) H1
theorem pe_one {op} {t:TE} (h:PE X a t):PE X (.BoolOp op [a] pos) t:=fun pins s σ H Q I b=>BoolOp_one (h pins s σ H Q I b)
theorem pe_and(ha:PE X a ta)(e:PE X (.BoolOp .And (b::rest) pos) tb):PE X (.BoolOp .And (a::b::rest) pos) (tAndV ta tb):=by
 intro pins s σ H Q I h;refine BoolOp_and (thn (ha pins s σ H _ I h) ?_);rintro v s1 ⟨x,d,i,r,q⟩;obtain⟨c,rfl,q⟩:=q;cases r;refine aT ?_;cases c with
 |true=>exact e pins s1 σ d Q i q|false=>exact⟨.bl ag,d,i,rfl,q⟩
theorem pe_or(ha:PE X a ta)(e:PE X (.BoolOp .Or (b::rest) pos) tb):PE X (.BoolOp .Or (a::b::rest) pos) (tOrV ta tb):=by
 intro pins s σ H Q I h;refine BoolOp_or (thn (ha pins s σ H _ I h) ?_);rintro v s1 ⟨x,d,i,r,q⟩;obtain⟨c,rfl,q⟩:=q;cases r;refine aT ?_;cases c with
 |false=>exact e pins s1 σ d Q i q|true=>exact⟨.bl ac,d,i,rfl,q⟩
theorem pe_not(ha:PE X a ta):PE X (.UnaryOp .Not a pos) (tNotV ta):=by
 intro pins s σ H Q I h;refine UnaryOp_ (thn (ha pins s σ H _ I h) ?_);rintro v s1 ⟨x,b,i,r,q⟩;obtain⟨c,rfl,q⟩:=q;cases r;exact not_of (aT ⟨.bl (!c),b,i,rfl,q⟩)
def tIf(t:TT)(T tb:TE):TE:=fun σ H Q=>t σ H fun c H1=>if c=ac then T σ H1 Q else tb σ H1 Q
theorem zto(f:PT X c tA)(ha:PE X a ta)(g:PE X b tb):PE X (.IfExp c a b pos) (tIf tA ta tb):=by
 intro pins s σ H Q I h;refine wpAny_IfExp (thn (f pins s σ H _ I h) ?_);rintro d s1 ⟨e,i,q⟩;cases d with
 |true=>exact ha pins s1 σ e Q i q|false=>exact g pins s1 σ e Q i q
end
def SqL(K:ye)(H:Hp)(a:ad)(xs:List V):Prop :=
 Rd H a (.lst xs) ∨
  ∃(o:av)(its:Array af)(n:Nat),K.lookup a=aa o/\o.cls = .type "list" /\ o.dict=ab/\o.data = .seq its n/\its.size<=sizeLine/\Vals xs its.toList
def SqT(K:ye)(H:Hp)(a:ad)(xs:List V):Prop :=
 Rd H a (.tup xs) ∨
  ∃(o:av)(its:Array af)(n:Nat),K.lookup a=aa o/\o.cls = .type "tuple" /\ o.data = .seq its n/\its.size<=sizeLine/\Vals xs its.toList
def absV:af->Option V
 |.none=>aa .non|.bool b=>aa (.bl b)|.int i _=>aa (.int i)|.str x _=>aa (.str x)|.bytes b _=>aa (.byt b)|.float b _=>aa (.flt b)|.ref a=>aa (.ref a)|.type n=>aa (.ty n)|_=>ab
theorem RelV.abs{x:V}(r:RelV x u):absV u=aa x:=by
 cases x with
 |non=>cases r;rfl|bl _=>cases r;rfl|int _=>obtain⟨t,rfl⟩:=r;rfl
 |str _=>obtain⟨t,rfl⟩:=r;rfl
 |byt _=>obtain⟨t,rfl⟩:=r;rfl
 |flt _=>obtain⟨t,rfl⟩:=r;rfl
 |ref _=>cases r;rfl|ty _=>cases r;rfl
variable{y:V}
theorem RelV.inj{x:V}(r:RelV x u)(q:RelV y u):x=y:=yad (r.abs.symm.trans q.abs)
theorem Vals.inj:∀{xs ys:List V}{us:List af},Vals xs us->Vals ys us->xs=ys
 |_,_,_,.nil,.nil=>rfl|_,_,_,.cons r t,.cons r' t'=>by rw[r.inj r',Vals.inj t t']
variable{K:ye}
section
variable{ys:List V}
theorem SqL.of(h:H a=aa (.lst xs)):SqL K H a xs := .inl (.inl h)
theorem SqT.of(h:H a=aa (.tup xs)):SqT K H a xs := .inl (.inl h)
theorem Inv.list(I:Inv X pins σ H s)(h:SqL X.K H a xs):∃its:List af,Vals xs its/\PlainL s.heap a its.toArray/\xs.length<=sizeLine:=by
 rcases h with h|⟨o,its,n,b,c,hd,hs,d,r⟩
 ·obtain⟨z,its,n,r,e⟩:=h.ok I.hok;exact⟨its,r,⟨_,n,e,rfl,rfl,rfl⟩,z⟩
 ·refine⟨its.toList,r,⟨o,n,I.kIn a o b,c,hd,by simpa using hs⟩,?_⟩;have e:=r.length;simp only[ybC]at e;omega
theorem Inv.tuple(I:Inv X pins σ H s)(h:SqT X.K H a xs):∃its:List af,Vals xs its/\IsTup s.heap a its.toArray/\xs.length<=sizeLine:=by
 rcases h with h|⟨o,its,n,b,c,hs,d,r⟩
 ·obtain⟨z,its,r,p,_⟩:=h.ok I.hok;exact⟨its,r,p,z⟩
 ·refine⟨its.toList,r,⟨o,I.kIn a o b,c,n,by simpa using hs⟩,?_⟩;have e:=r.length;simp only[ybC]at e;omega
theorem Inv.list_inj(I:Inv X pins σ H s)(h:SqL X.K H a xs)(h':SqL X.K H a ys):xs=ys:=by
 obtain⟨its,r,⟨o,n,e,_,_,d⟩,_⟩:=I.list h;obtain⟨its',r',⟨o',N,E,_,_,d'⟩,_⟩:=I.list h';rw[e]at E;cases E;rw[d]at d';injection d' with D _
 have:its=its':=by simpa using congrArg ycz D
 subst this;exact r.inj r'
theorem Inv.tuple_inj(I:Inv X pins σ H s)(h:SqT X.K H a xs)(h':SqT X.K H a ys):xs=ys:=by
 obtain⟨its,r,⟨o,e,_,n,d⟩,_⟩:=I.tuple h;obtain⟨its',r',⟨o',E,_,N,d'⟩,_⟩:=I.tuple h';rw[e]at E;cases E;rw[d]at d';injection d' with D _
 have:its=its':=by simpa using congrArg ycz D
 subst this;exact r.inj r'
end
abbrev Cx.wish(X:Cx)(E:af->aj->Prop):Cx:={ X with xe:=E }
abbrev Cx.nox(X:Cx):Cx:=X.wish fun _ _=>False
theorem Cx.Ok.wish(ok:X.Ok)(E:af->aj->Prop):(X.wish E).Ok :=
 ⟨ok.mod,ok.kind,ok.glob,ok.blt,ok.above,ok.inj,ok.has,ok.cab,ok.hd,ok.frames,ok.stk,ok.exf,ok.bs,ok.bsz,ok.noex,ok.exfs,ok.funs,ok.frf⟩
theorem Cx.Ok.unwish(ok:(X.wish E).Ok):X.Ok :=
 ⟨ok.mod,ok.kind,ok.glob,ok.blt,ok.above,ok.inj,ok.has,ok.cab,ok.hd,ok.frames,ok.stk,ok.exf,ok.bs,ok.bsz,ok.noex,ok.exfs,ok.funs,ok.frf⟩
section
theorem Inv.wish(I:Inv X pins σ H s)(E:af->aj->Prop):Inv (X.wish E) pins σ H s:=⟨I.ok.wish E,I.os,I.bare,I.base,I.loc,I.cell,I.free,I.freeC,I.pin,I.hok,I.len⟩
theorem Inv.unwish(I:Inv (X.wish E) pins σ H s):Inv X pins σ H s:=⟨I.ok.unwish,I.os,I.bare,I.base,I.loc,I.cell,I.free,I.freeC,I.pin,I.hok,I.len⟩
theorem SP.unwish{D:Ends}{f:Flow}(h:SP (X.wish E) pins D f s'):SP X pins D f s':=by
 cases f with
 |next=>obtain⟨a,H',I,q⟩:=h;exact⟨a,H',I.unwish,q⟩
 |brk=>obtain⟨a,H',I,q⟩:=h;exact⟨a,H',I.unwish,q⟩
 |cont=>obtain⟨a,H',I,q⟩:=h;exact⟨a,H',I.unwish,q⟩
 |ret u=>obtain⟨v,a,H',I,r,q⟩:=h;exact⟨v,a,H',I.unwish,r,q⟩
theorem PSs.nox{st:List am}{t:TS}(h:PSs X.nox st t):PSs X st t:=fun pins s σ H D I a=>
 aJ (h pins s σ H D (I.wish _) a) (fun _ _ q=>q.unwish) fun _ _ z=>False.elim z
end
variable{te:TE}{tc:TT}
section
variable{st:am}{rest:List am}{t u:TS}{e:ak}
def tNext:TS:=fun D σ H=>D.nx σ H
def tSeq(t u:TS):TS:=fun D σ H=>t { D with nx:=u D } σ H
theorem zvo:PSs X [] tNext:=fun _ _ σ H _ I h=>b7 ⟨σ,H,I,h⟩
theorem zth(c:PS X st t)(b:PSs X rest u):PSs X (st::rest) (tSeq t u):=by
 intro pins s σ H D I h;refine wpAny_execs_cons (thn (c pins s σ H { D with nx:=u D } I h) fun f s1 q=>?_);cases f with
 |next=>
  obtain⟨a,H',i,q⟩:=q;exact b pins s1 a H' D i q
 |ret v=>exact q|brk=>exact q|cont=>exact q
theorem zvn(a:PS X st t):PSs X [st] t:=by
 intro pins s σ H D I h;refine wpAny_execs_cons (thn (a pins s σ H D I h) fun f s1 q=>?_);cases f with
 |next=>exact b7 q|ret v=>exact q|brk=>exact q|cont=>exact q
theorem Inv.quiet(I:Inv X pins σ H s):interactive X.env=ag:=by simp[interactive,I.ok.kind]
def tDrop(te:TE):TS:=fun D σ H=>te σ H fun _ H1=>D.nx σ H1
theorem zvq(a:PE X e te)(hs:autoParam (bo e ab pos.line X.env=pure ag) AutoP.a3._auto_1):PS X (.Expr e pos) (tDrop te):=by
 intro pins s σ H D I h;exact wpAny_Expr_any (thn (a pins s σ H _ I h) fun v s1 ⟨x,b,i,r,q⟩=>⟨σ,b,i,q⟩) I.quiet hs
def tRet(te:TE):TS:=fun D σ H=>te σ H D.rt
theorem ps_ret(a:PE X e te):PS X (.Return (aa e) pos) (tRet te):=by
 intro pins s σ H D I h;refine wpAny_Return_some (thn (a pins s σ H _ I h) ?_);rintro v s1 ⟨x,b,i,r,q⟩;exact⟨x,σ,b,i,r,q⟩
def tIfS(c:TT)(t u:TS):TS:=fun D σ H=>c σ H fun b H1=>if b=ac then t D σ H1 else u D σ H1
theorem ps_if{a b:List am}(f:PT X c tc)(ha:PSs X a t)(g:PSs X b u):PS X (.If c a b pos) (tIfS tc t u):=by
 intro pins s σ H D I h;refine wpAny_If (thn (f pins s σ H _ I h) ?_);rintro d s1 ⟨e,i,q⟩;cases d with
 |true=>exact ha pins s1 σ e D i q|false=>exact g pins s1 σ e D i q
def tNever:TS:=fun _ _ _=>False
theorem ztj:PS X st tNever:=fun _ _ _ _ _ _ h=>h.elim
end
abbrev TG:=V->St->Hp->(St->Hp->Prop)->Prop
abbrev TGs:=List V->St->Hp->(St->Hp->Prop)->Prop
def PG(X:Cx)(T:ak)(t:TG):Prop :=
 ∀(pins:List (ad×av))(s:aj)(σ : St)(H:Hp)(v:V)(u:af)(Q:St->Hp->Prop),Inv X pins σ H s->RelV v u->t v σ H Q →
  wpAny (ao X.prog X.w) X.A (bg T X.env u) (fun _ s'=>∃σ' H',Inv X pins σ' H' s'/\Q σ' H') X.xe s
def PGs(X:Cx)(T:List ak)(t:TGs):Prop :=
 ∀(pins:List (ad×av))(s:aj)(σ : St)(H:Hp)(vs:List V)(us:List af)(Q:St->Hp->Prop),Inv X pins σ H s->Vals vs us->t vs σ H Q →
  wpAny (ao X.prog X.w) X.A (bR ((aU T X.env).map (·.2)) us) (fun _ s'=>∃σ' H',Inv X pins σ' H' s'/\Q σ' H') X.xe s
abbrev TSet:=V->V->V->Hp->(Hp->Prop)->Prop
def PSet(X:Cx)(t:TSet):Prop :=
 ∀(pins:List (ad×av))(s:aj)(σ : St)(H:Hp)(o i v:V)(O I u:af)(Q:Hp->Prop),Inv X pins σ H s->RelV o O->RelV i I->RelV v u->t o i v H Q →
  wpAny (ao X.prog X.w) X.A (setItem O I u) (fun _ s'=>∃H',Inv X pins σ H' s'/\Q H') X.xe s
variable{es:List ak}{n:Nat}{tg:ak}{pos':ay}
section
def gName(i:Nat):TG:=fun v σ H Q=>Q (σ.set i (aa v)) H
theorem zvD(c:X.N.Nodup)(hi:X.N[i]?=aa x)(a:Loc X.env.scope x)(b:autoParam (X.fn x=ac∨X.env.scope.names.lookup x=aa .local) AutoP.a0._auto_1):PG X (.Name x pos) (gName i):=by
 intro pins s σ H v u Q I r h;exact wpAny_assign_Name (zdB I c hi a r (fun S d=>⟨_,H,d,h⟩) b)
def gNil:TGs:=fun vs σ H Q=>vs=[]/\Q σ H
def gCons(t:TG)(u:TGs):TGs:=fun vs σ H Q=>∃v r,vs=v::r/\t v σ H fun σ' H'=>u r σ' H' Q
theorem zvC:PGs X [] gNil:=by
 intro pins s σ H vs us Q I r h;obtain⟨e,h⟩:=h;subst e;cases r;exact cd ⟨σ,H,I,h⟩
theorem ztm{e:ak}{t:TG}{u:TGs}(c:PG X e t)(b:PGs X es u)(hs:autoParam ((aU (e::es) X.env).map (·.2)=bg e X.env::(aU es X.env).map (·.2)) AutoP.a3._auto_1):PGs X (e::es) (gCons t u):=by
 intro pins s σ H vs us Q I r h;obtain⟨v,vr,E,h⟩:=h;subst E;cases r with
 |cons r R=>
  rw[hs];refine bI (thn (c pins s σ H _ _ _ I r h) ?_);rintro _ s1 ⟨a,d,i,q⟩;exact b pins s1 a d _ _ Q i R q
def zbr(K:ye)(n:Nat)(t:TGs):TG:=fun v σ H Q=>∃a xs,v = .ref a/\SqT K H a xs/\xs.length=n/\t xs σ H Q
theorem pg_tup{k:Nat}{t:TGs}(j:X.calm=ac)(h:PGs X es t)(hn:autoParam ((aU es X.env).length=n) AutoP.a3._auto_1)(d:autoParam ((aU es X.env).findIdx? (·.1)=ab) AutoP.a3._auto_1):PG X (.Tuple es k pos) (zbr X.K n t):=by
 intro pins s σ H v u Q I r c;obtain⟨a,xs,E,i,hl,c⟩:=c;subst E;cases r;obtain⟨its,R,g,m⟩:=I.tuple i;refine assign_Tuple_tuple (I.ok.hd j) g (by simp[hn,<- hl,R.length]) d fun h' f=>?_;have l:Inv X pins σ H { s with heap:=h' }:=I.kept (t':=s.toks) fun b o e=>f b o (yG (yA e)) e;exact h pins _ σ H xs _ Q l (by simpa using R) c
def gSub(T a:TE)(t:TSet):TG:=fun v σ H Q=>T σ H fun o H1=>a σ H1 fun i H2=>t o i v H2 fun h=>Q σ h
theorem pg_sub{o i:ak}{T b:TE}{t:TSet}(e:PE X o T)(hi:PE X i b)(hs:PSet X t)
  (ha:autoParam (∀v,bg (.Subscript o i pos) X.env v=(do
   let O <- holding [v] (eval o X.env)
   let a <- holding [v,O] (eval i X.env)
   bf pos
   holding [v,O,a] (setItem O a v)
   release [v,O,a] [])) AutoP.a2._auto_1):PG X (.Subscript o i pos) (gSub T b t):=by
 intro pins s σ H v u Q I r h
 rw[ha]
 refine ai (ba (thn (e pins s σ H _ I h) ?_))
 rintro O s1 ⟨x,m,j,R,d⟩
 refine ai (ba (thn (hi pins s1 σ m _ j d) ?_))
 rintro a s2 ⟨y,l,g,r2,c⟩
 refine ai (bx (ai (ba (thn (hs pins s2 σ l x y v O a u _ g R r2 r c) ?_))))
 rintro _ S ⟨k,f,q⟩
 exact wpAny_release ⟨σ,k,f,q⟩
def tAsg(te:TE)(g:TG):TS:=fun D σ H=>te σ H fun x H1=>g x σ H1 D.nx
theorem ps_asg{e:ak}{g:TG}(c:PE X e te)(b:PG X tg g)(hs:autoParam (bJ [tg] e pos.line X.env=pure ag) AutoP.a3._auto_1)(a:autoParam (bK [tg] e X.env=pure ab) AutoP.a3._auto_1)(d:autoParam ((aU [tg] X.env).map (·.2)=[bg tg X.env]) AutoP.a3._auto_1):PS X (.Assign [tg] e pos) (tAsg te g):=by
 intro pins s σ H D I h;refine wpAny_Assign_stores (thn (c pins s σ H _ I h) fun v s1 ⟨x,f,i,r,Q⟩=>?_) hs a;rw[d];exact thn (b pins s1 σ f x v _ i r Q) fun _ s2 q=>q
theorem ps_set{e:ak}(d:X.N.Nodup)(hi:X.N[i]?=aa x)(a:Loc X.env.scope x)(c:PE X e te)(hs:autoParam (bo e (aa (.Name x pos')) pos.line X.env=pure ag) AutoP.a3._auto_1)(b:autoParam (X.fn x=ac∨X.env.scope.names.lookup x=aa .local) AutoP.a0._auto_1) : PS X (.Assign [.Name x pos'] e pos) (tAsg te (gName i)):=by
 intro pins s σ H D I h;refine wpAny_Assign_Name (thn (c pins s σ H _ I h) fun v s1 ⟨y,j,g,r,q⟩=>?_) hs;exact zdB g d hi a r (fun s2 f=>⟨_,j,f,q⟩) b
def tPar(i j:Nat)(t:TA):TS:=fun D σ H=>t σ H fun vs H1=>∃v w,vs=[v,w]/\D.nx ((σ.set i (aa v)).set j (aa w)) H1
theorem ps_par{y:ae}{a b:ak}{t:TA}{P py pt:ay} {kt k2 pt2} (E:X.calm=ac) (k:X.N.Nodup) (hi:X.N[i]?=aa x) (C:X.N[j]?=aa y) (d:i≠j) (g:X.env.scope.names.lookup x=aa .local) (f:X.env.scope.names.lookup y=aa .local) (ha:PA X [a,b] t) (B:bK [.Tuple [.Name x P,.Name y py] kt pt] (.Tuple [a,b] k2 pt2) X.env=pure (aa [x,y])) (hs:autoParam (bJ [.Tuple [.Name x P,.Name y py] kt pt] (.Tuple [a,b] k2 pt2) pos.line X.env=pure ag) AutoP.a3._auto_1) : PS X (.Assign [.Tuple [.Name x P,.Name y py] kt pt] (.Tuple [a,b] k2 pt2) pos) (tPar i j t):=by
 intro pins s σ H D I h
 rw[exec_Assign_arm]
 refine ai (bx ?_)
 rw[hs]
 refine ai (aw ?_)
 rw[if_neg (by decide)]
 refine ai (Tuple_ (thn (ha _ pins s σ H _ I h) ?_))
 rintro us s1 ⟨vs,m,L,n,Q⟩
 obtain⟨v,w,F,Q⟩:=Q
 subst F
 obtain⟨U,u,rfl,R,r⟩:∃U u,us=[U,u]/\RelV v U/\RelV w u:=by
  cases n with
  |cons p q=>
   cases q with
   |cons A z=>
    cases z
    exact⟨_,_,rfl,p,A⟩
 refine aQ ?_ (by show 2<=sizeLine;decide)
 have K:Inv X pins σ m { s1 with heap:=s1.heap.push { cls := .type "tuple", data := .seq [U,u].toArray } }:=L.kept (t':=s1.toks) fun b o e=>yt _ e
 rw[B]
 refine ai (aw ?_)
 show wpAny (ao X.prog X.w) X.A (do rule "assign.swapped-stores"; let items <- unpackItems (.ref s1.heap.objs.size) 2 ab;bR [fun v=>bd X.env y v,fun v=>bd X.env x v] items.reverse;pure Flow.next) _ _ _
 refine ai (bp (ai (unpackItems_tuple (items := #[U,u]) (I.ok.hd E) (IsTup.new s1.heap _) fun h' c=>?_)))
 have J:=K.kept (h':=h') (t':=s1.toks) fun b o e=>c b o (yG (yA e)) e
 show wpAny _ _ (bR [fun v=>bd X.env y v,fun v=>bd X.env x v] [u,U] >>= fun _=>pure Flow.next) _ _ _
 refine ai (bI (bS (zdB J k C (.inl f) r (fun s2 G=>?_) (.inr f))))
 refine bI (bS (zdB G k hi (.inl g) R (fun S l=>cd (aw ?_)) (.inr g)))
 rw[ybY _ _ (Ne.symm d)]at l
 exact⟨_,m,l,Q⟩
end
variable{body:List am}
section
def tWhile(c:TT)(tb:TS):TS:=fun D σ H=>∃W:Nat->St->Hp->Prop,(∃m,W m σ H)/\∀m σ H,W m σ H →
 c σ H fun b H1=>if b=ac then ∃N:St->Hp->Prop,(∀σ' H',N σ' H'->∃m',m'<m/\W m' σ' H')/\tb { D with nx:=N,ct:=N,bk:=D.nx } σ H1 else D.nx σ H1
theorem zti{tb:TS}(j:PassesOwn (ao X.prog X.w) X.A X.env X.xe)(p:PT X c tc)(r:PSs X body tb):PS X (.While c body [] pos) (tWhile tc tb):=by
 intro pins s σ H D I h;obtain⟨W,⟨m0,w0⟩,turn⟩:=h;refine wpAny_While (codeAny_whileLoop (fun n S=>∃σ' H',Inv X pins σ' H' S/\W n σ' H') ?_ m0 ⟨σ,H,I,w0⟩);rintro n s1 ⟨d,o,t,w1⟩;refine bz j (thn (p pins s1 d o _ t (turn n d o w1)) ?_);rintro b s2 ⟨m,l,Q⟩;cases b with
 |true=>
  obtain⟨N,k,Q⟩:=Q;rw[if_pos rfl];refine bz j (thn (r pins s2 d m _ l Q) fun f u q=>?_);cases f with
  |next=>
   obtain⟨a,e,i,g⟩:=q;obtain⟨m',hm,w⟩:=k a e g;exact⟨m',hm,a,e,i,w⟩
  |cont=>
   obtain⟨a,e,i,g⟩:=q;obtain⟨m',hm,w⟩:=k a e g;exact⟨m',hm,a,e,i,w⟩
  |brk=>exact q|ret v=>exact q
 |false=>
  rw[if_neg yR];exact b7 ⟨d,m,l,Q⟩
end
structure It where
 go:Nat->Hp->Prop
 yld:Nat->Hp->V->Hp->Prop
 stop:Nat->Hp->Prop
def zfT(X:Cx)(pins:List (ad×av))(H:Hp)(b:ad):Prop :=
 H b=ab/\b≠X.env.locals/\b∉X.fs/\(b∈X.ex∨X.s₀.heap.objs.size<=b)/\(∀x c,X.env.cells.lookup x=aa c->c≠b)/\∀p∈X.pn++pins,p.1≠b
theorem Inv.fpOk(I:Inv X pins σ H s)(h:s.heap.objs.size<=b)(hn:H' b=ab):zfT X pins H' b:=by
 refine⟨hn,yaJ (yQ I.lt h),I.nofs h,.inr (yO I.sz h),fun x c e z=>?_,fun p a z=>?_⟩
 ·obtain⟨v,q⟩:=I.cell x c e;exact absurd (yQ q.lt (by rw[z];exact h)) (yao _)
 ·exact absurd (yQ (yA (I.pin p a).1) (by rw[z];exact h)) (yao _)
structure Turn(P:ap)(w:al)(K:ye)(tg:ak)(J:It)(fp:List ad)(it:ad)(tn:Nat->ax->Prop):Prop where
 mem:it∈fp
 obj:∀i h,tn i h->∀b∈fp,∃o,h.get? b=aa o/\∀v,o.data ≠ .cell v
 keep:∀i h h',tn i h->(∀b∈fp,∀o,h.get? b=aa o->h'.get? b=aa o)->tn i h'
 item:∀(X:Cx),X.prog=P->X.w=w->X.K=K->X.calm=ac->∀(i:Nat)(pins:List (ad×av))(s:aj)(σ : St)(H:Hp)(E:af->aj->Prop),Inv X pins σ H s->(∀b∈fp,zfT X pins H b)->tn i s.heap->J.go i H →
  wpAny (ao P w) X.A (bh (.ref it)) (fun r s1=>∃u,r=aa u ∧
   wpAny (ao P w) X.A (bT tg (.ref it) u) (fun _ s2=>∃x H',Inv X pins σ H' s2/\RelV x u/\J.yld i H x H'/\tn (i+1) s2.heap/\∀b∈fp,H' b=ab) E s1) E s
 done:∀(X:Cx),X.prog=P->X.w=w->X.K=K->X.calm=ac->∀(i:Nat)(pins:List (ad×av))(s:aj)(σ : St)(H:Hp)(E:af->aj->Prop),Inv X pins σ H s->(∀b∈fp,zfT X pins H b)->tn i s.heap->J.stop i H →
  wpAny (ao P w) X.A (bh (.ref it)) (fun r s1=>r=ab/\Inv X pins σ H s1) E s
 self:∀(A:aA)(i:Nat)(s:aj)(Q:af->aj->Prop)(E:af->aj->Prop),tn i s.heap->Q (.ref it) s->wpAny (ao P w) A (pyIter (.ref it)) Q E s
abbrev TI:=St->Hp->(It->Hp->Prop)->Prop
def PIE(X:Cx)(pins:List (ad×av))(σ : St)(tg:ak)(R:It->Hp->Prop)(i:af)(s2:aj):Prop :=
 ∃(it:ad)(fp:List ad)(tn:Nat->ax->Prop)(J:It)(H':Hp),i = .ref it/\Inv X pins σ H' s2/\Turn X.prog X.w X.K tg J fp it tn/\tn 0 s2.heap/\(∀b∈fp,zfT X pins H' b)/\R J H'
def PI(X:Cx)(tg iter:ak)(w:TI):Prop :=
 ∀(pins:List (ad×av))(s:aj)(σ : St)(H:Hp)(R:It->Hp->Prop),Inv X pins σ H s->w σ H R →
  wpAny (ao X.prog X.w) X.A (eval iter X.env) (fun v s1=>wpAny (ao X.prog X.w) X.A (pyIter v) (PIE X pins σ tg R) X.xe s1) X.xe s
theorem zrP{o:av}{n:String}{vs:Array af}{Q:Unit->aj->Prop}(a:s.heap.get? it=aa o)(b:o.cls = .type n)(hd:o.data = .fields vs)(hn:["enumerate", "zip", "dict_itemiterator", "dict_reverseitemiterator", "odict_iterator", "itertools.zip_longest", "itertools.pairwise"].contains n=ag)(H:Q () s):wpAny M A (bT tg (.ref it) u) Q E s:=by
  unfold bT;cases tg <;> first
    |exact aw H
    | (cases u <;> first
        |exact aw H
        | (refine ai (wpAny_load a ?_)
           rw[b,hd];show wpAny M A (if (["enumerate", "zip", "dict_itemiterator", "dict_reverseitemiterator", "odict_iterator", "itertools.zip_longest", "itertools.pairwise"].contains n&&vs[0]? == aa (be _))=ac then _ else _) Q E s;rw[if_neg (by intro h;rw[hn,Bool.false_and]at h;cases h)];exact aw H))
def Itl(K:ye)(a:ad):It :=
 ⟨fun i H=>∃xs x,SqL K H a xs/\xs[i]?=aa x,fun i H x H'=>H'=H/\∀xs,SqL K H a xs->xs[i]?=aa x,fun i H=>∃xs,SqL K H a xs/\xs.length<=i⟩
def Itt(K:ye)(a:ad):It :=
 ⟨fun i H=>∃xs x,SqT K H a xs/\xs[i]?=aa x,fun i H x H'=>H'=H/\∀xs,SqT K H a xs->xs[i]?=aa x,fun i H=>∃xs,SqT K H a xs/\xs.length<=i⟩
def Itr(lo:Int)(n:Nat):It:=⟨fun i _=>i<n,fun i H x H'=>H'=H/\x = .int (lo+i),fun i _=>n<=i⟩
theorem zpE{w:al}(a it:ad):Turn P w K tg (Itl K a) [it] it (fun i h=>h.IsListIter it a i) where
 mem:=by simp
 obj:=fun i h st b f=>by
  have e:b=it:=by simpa using f
  subst e
  obtain⟨o,e,c,d⟩:=st
  exact⟨o,e,fun v z=>by rw[d]at z;cases z⟩
 keep:=fun i h h' st k=>st.at fun o e=>k it (by simp) o e
 item:=by
  intro X q m t y i pins s σ H E I j st n
  subst q m t
  obtain⟨xs,x,g,l⟩:=n
  obtain⟨its,r,p,B⟩:=I.list g
  obtain⟨u,D,R⟩:=r.get l
  obtain⟨f0,f1,f2,f3,f4,F⟩:=j it (by simp)
  refine wpAny_pyNext_list_item st p.isList (x:=u) (by simpa using D) fun h' S A=>?_
  have J:Inv X pins σ H { s with heap:=h' }:=I.turned (t':=s.toks) (fun b o f e=>(A.2 b f).trans e) f0 f1 f3 f4 F
  obtain⟨o,e,c,d⟩:=id S
  exact⟨u,rfl,zrP (s:={ s with heap:=h' }) e c d (by decide) ⟨x,H,J,R,⟨rfl,fun ys C=>by rw[I.list_inj C g];exact l⟩,S,fun b f=>(j b f).1⟩⟩
 done:=by
  intro X q m t y i pins s σ H E I j st n
  subst q m t
  obtain⟨xs,g,l⟩:=n
  obtain⟨its,r,p,B⟩:=I.list g
  obtain⟨f0,f1,f2,f3,f4,F⟩:=j it (by simp)
  have hl:=r.length
  exact wpAny_pyNext_list_end (I.ok.hd y) st p.isList (by simp;omega) fun h' G=>⟨rfl,I.turned (t':=s.toks) (fun b o f e=>G b o f e) f0 f1 f3 f4 F⟩
 self:=fun _ _ _ _ _ st h=>wpAny_pyIter_listiter st h
theorem zov{w:al}(a it:ad):Turn P w K tg (Itt K a) [it] it (fun i h=>h.IsTupleIter it a i) where
 mem:=by simp
 obj:=fun i h st b f=>by
  have e:b=it:=by simpa using f
  subst e
  obtain⟨o,e,c,d⟩:=st
  exact⟨o,e,fun v z=>by rw[d]at z;cases z⟩
 keep:=fun i h h' st k=>st.at fun o e=>k it (by simp) o e
 item:=by
  intro X q m t y i pins s σ H E I j st n
  subst q m t
  obtain⟨xs,x,g,l⟩:=n
  obtain⟨its,r,p,B⟩:=I.tuple g
  obtain⟨u,D,R⟩:=r.get l
  obtain⟨f0,f1,f2,f3,f4,F⟩:=j it (by simp)
  refine wpAny_pyNext_tuple_item st (show s.heap.IsTuple a its.toArray from p) (x:=u) (by simpa using D) fun h' S A=>?_
  have J:Inv X pins σ H { s with heap:=h' }:=I.turned (t':=s.toks) (fun b o f e=>(A.2 b f).trans e) f0 f1 f3 f4 F
  obtain⟨o,e,c,d⟩:=id S
  exact⟨u,rfl,zrP (s:={ s with heap:=h' }) e c d (by decide) ⟨x,H,J,R,⟨rfl,fun ys C=>by rw[I.tuple_inj C g];exact l⟩,S,fun b f=>(j b f).1⟩⟩
 done:=by
  intro X q m t y i pins s σ H E I j st n
  subst q m t
  obtain⟨xs,g,l⟩:=n
  obtain⟨its,r,p,B⟩:=I.tuple g
  obtain⟨f0,f1,f2,f3,f4,F⟩:=j it (by simp)
  have hl:=r.length
  exact wpAny_pyNext_tuple_end (I.ok.hd y) st (show s.heap.IsTuple a its.toArray from p) (by simp;omega) fun h' G=>⟨rfl,I.turned (t':=s.toks) (fun b o f e=>G b o f e) f0 f1 f3 f4 F⟩
 self:=fun _ _ _ _ _ st h=>wpAny_pyIter_tupleiter st h
theorem zow{w:al}(it:ad)(lo:Int)(n:Nat):Turn P w K tg (Itr lo n) [it] it (fun i h=>IsRangeIter h it (lo+(i:Nat)*1) ((n:Int)-(i:Nat)) 1) where
 mem:=by simp
 obj:=fun i h st b a=>by
  have e:b=it:=by simpa using a
  subst e
  exact⟨_,st,fun v z=>by
   have Z:Data.fields _=Data.cell v:=z
   cases Z⟩
 keep:=fun i h h' st k=>k it (by simp) _ st
 item:=by
  intro X j d l g i pins s σ H E I c st f
  subst j d l
  obtain⟨f0,f1,f2,f3,f4,F⟩:=c it (by simp)
  have W:=Walks.range (prog:=X.prog) (w:=X.w) (I.ok.hd g) it lo 1 n
  refine W.item i s _ _ f st fun v h' tk hv S m=>?_
  obtain⟨t,rfl⟩:=hv
  have q:Inv X pins σ H { s with heap:=h',toks:=tk }:=I.turned (fun b o a e=>m b o (by simpa using a) e) f0 f1 f3 f4 F
  refine⟨_,rfl,zrP (s:={ s with heap:=h',toks:=tk }) (n := "range_iterator") S rfl rfl (by decide) ⟨.int (lo+i),H,q,⟨t,?_⟩,⟨rfl,rfl⟩,S,fun b a=>(c b a).1⟩⟩
  rw[Int.mul_one]
 done:=by
  intro X j d l g i pins s σ H E I c st f
  subst j d l
  obtain⟨f0,f1,f2,f3,f4,F⟩:=c it (by simp)
  exact wpAny_pyNext_range_end (I.ok.hd g) st (by have:n<=i:=f;omega) fun h' p=>⟨rfl,I.turned (t':=s.toks) (fun b o a e=>p b o a e) f0 f1 f3 f4 F⟩
 self:=fun _ _ _ _ _ st h=>ce st h
variable{tl:TE}{p:ay}{fp:List ad}
section
def iList(K:ye)(t:TE):TI:=fun σ H R=>t σ H fun x H1=>∃a,x = .ref a/\(∃xs,SqL K H1 a xs)/\R (Itl K a) H1
def iTup(K:ye)(t:TE):TI:=fun σ H R=>t σ H fun x H1=>∃a,x = .ref a/\(∃xs,SqT K H1 a xs)/\R (Itt K a) H1
theorem zqu{l:ak}(hl:PE X l tl):PI X tg l (iList X.K tl):=by
 intro pins s σ H R I h;refine thn (hl pins s σ H _ I h) ?_;rintro v s1 ⟨x,f,i,r,Q⟩;obtain⟨a,e,⟨xs,c⟩,q⟩:=Q;subst e;cases r;obtain⟨its,g,p,j⟩:=i.list c;refine bU p.isList ?_;refine⟨s1.heap.objs.size,[s1.heap.objs.size],_,_,f,rfl,i.kept (t':=s1.toks) fun b o e=>yt _ e,zpE a _,⟨_,yC _ rfl,rfl,rfl⟩,fun b d=>?_,q⟩;have e:b=s1.heap.objs.size:=by simpa using d
 subst e;exact i.fpOk (yh _) (i.hok.fresh (yh _))
theorem pi_tup{l:ak}(hl:PE X l tl):PI X tg l (iTup X.K tl):=by
 intro pins s σ H R I h;refine thn (hl pins s σ H _ I h) ?_;rintro v s1 ⟨x,f,i,r,Q⟩;obtain⟨a,e,⟨xs,c⟩,q⟩:=Q;subst e;cases r;obtain⟨its,g,p,j⟩:=i.tuple c;refine bL (show s1.heap.IsTuple a its.toArray from p) ?_;refine⟨s1.heap.objs.size,[s1.heap.objs.size],_,_,f,rfl,i.kept (t':=s1.toks) fun b o e=>yt _ e,zov a _,⟨_,yC _ rfl,rfl,rfl⟩,fun b d=>?_,q⟩;have e:b=s1.heap.objs.size:=by simpa using d
 subst e;exact i.fpOk (yh _) (i.hok.fresh (yh _))
theorem znA{R:It->Hp->Prop}{lo hi:Int}{t u v:Tok}{tk:Nat}(I:Inv X pins σ H s)(f : -(2^62)<=lo)(d:lo<2^62)(c : -(2^62)<=hi)(a:hi<2^62)(q:R (Itr lo (hi-lo).toNat) H):wpAny (ao X.prog X.w) X.A (pyIter (.ref s.heap.objs.size)) (PIE X pins σ tg R) E { s with heap:=s.heap.push { cls := .type "range", data := .fields #[.int lo t,.int hi u,.int 1 v] },toks:=tk }:=by
 refine wpAny_pyIter_range (IsRange.new ..) (small_one f d c a) ?_;have i:Inv X pins σ H { s with heap:=s.heap.push { cls := .type "range", data := .fields #[.int lo t,.int hi u,.int 1 v] },toks:=tk }:=I.kept fun b o e=>yt _ e;refine⟨(s.heap.push { cls := .type "range", data := .fields #[.int lo t,.int hi u,.int 1 v] }).objs.size,[(s.heap.push { cls := .type "range", data := .fields #[.int lo t,.int hi u,.int 1 v] }).objs.size],_,_,H,rfl,
  i.kept (t':=tk) fun b o e=>yt _ e,zow _ lo (hi-lo).toNat,?_,fun b h=>?_,q⟩
 ·have j:lo+((0:Nat):Int)*1=lo:=by simp
  have g:(((hi-lo).toNat:Nat):Int)-((0:Nat):Int)=ycA lo hi 1:=by rw[rangeSize_one];split <;> omega
  show IsRangeIter _ _ (lo+((0:Nat):Int)*1) ((((hi-lo).toNat:Nat):Int)-((0:Nat):Int)) 1;rw[j,g];exact yC _ rfl
 ·have e:b=(s.heap.push { cls := .type "range", data := .fields #[.int lo t,.int hi u,.int 1 v] }).objs.size:=by simpa using h
  subst e;exact i.fpOk (yh _) (i.hok.fresh (yh _))
def iRng1(t:TA):TI:=fun σ H R=>t σ H fun vs H1=>∃j:Int,vs=[.int j] /\ -(2^62)<=j/\j<2^62/\R (Itr 0 j.toNat) H1
def iRng2(t:TA):TI:=fun σ H R=>t σ H fun vs H1=>∃i j:Int,vs=[.int i,.int j]/\(-(2^62)<=i/\i<2^62 /\ -(2^62)<=j/\j<2^62)/\R (Itr i (j-i).toNat) H1
theorem zqt{a:ak}{T:TA}(f:Gl X "range")(hm:X.mg "range" = ab)(ha:PA X [a] T)(hs:autoParam (au [a] X.env=[(ag,eval a X.env)]) AutoP.a3._auto_1):PI X tg (.Call (.Name "range" p) [a] [] pos) (iRng1 T):=by
 intro pins s σ H R I h;refine Call_ (zeg I f hm boot_range (PyProof.Rows.callWith_type1 (thn (ha pos pins s σ H _ I h) fun us s1 ⟨vs,g,i,c,Q⟩=>?_) hs rfl));obtain⟨j,e,Q,d,q⟩:=Q;subst e;cases c with
 |cons r b=>
  cases b;obtain⟨t,rfl⟩:=r;exact call_range_1 (znA i (by omega) (by omega) Q d (by simpa using q))
theorem zqs{a b:ak}{T:TA}(m:Gl X "range")(hm:X.mg "range" = ab)(ha:PA X [a,b] T)(hs:autoParam (au [a,b] X.env=[(ag,eval a X.env),(ag,eval b X.env)]) AutoP.a3._auto_1)(c:autoParam (au [b] X.env=[(ag,eval b X.env)]) AutoP.a3._auto_1) : PI X tg (.Call (.Name "range" p) [a,b] [] pos) (iRng2 T):=by
 intro pins s σ H R I h;refine Call_ (zeg I m hm boot_range (PyProof.Rows.callWith_type1 (thn (ha pos pins s σ H _ I h) fun us s1 ⟨vs,o,n,f,Q⟩=>?_) (by rw[hs,c]) (by rw[c];rfl)));obtain⟨i,j,e,⟨Q,l,k,g⟩,q⟩:=Q;subst e;cases f with
 |cons r d=>
  cases d with
  |cons r' d=>
   cases d;obtain⟨t,rfl⟩:=r;obtain⟨t',rfl⟩:=r';exact call_range_2 (znA n Q l k g q)
def tFor(w:TI)(g:TG)(tb:TS):TS:=fun D σ H=>w σ H fun J H1=>∃W:Nat->Nat->St->Hp->Prop,(∃m,W 0 m σ H1)/\∀i m σ H,W i m σ H →
 (J.stop i H/\D.nx σ H)∨(J.go i H/\∃N:St->Hp->Prop,(∀σ' H',N σ' H'->∃m',m'<m/\W (i+1) m' σ' H')/\∀x H',J.yld i H x H'->g x σ H' fun a H2=>tb { D with nx:=N,ct:=N,bk:=D.nx } a H2)
def zcS(fp:List ad)(h:ax):List (ad×av):=fp.filterMap fun b=>(h.get? b).map fun o=>(b,o)
theorem zcK{o:av}(H:b∈fp)(e:h.get? b=aa o):(b,o)∈zcS fp h:=ycB.mpr ⟨b,H,by rw[e];rfl⟩
theorem zhH{p:ad×av}(H:p∈zcS fp h):p.1∈fp/\h.get? p.1=aa p.2:=by
 obtain⟨b,a,e⟩:=ycB.mp H;cases q:h.get? b with
 |none=>rw[q]at e;cases e|some o=>
  rw[q]at e;have E:(b,o)=p:=yad e;subst E;exact⟨a,q⟩
theorem Inv.pinned(I:Inv X pins σ H s)(f:∀b∈fp,zfT X pins H b)(c:∀b∈fp,∃o,s.heap.get? b=aa o/\∀v,o.data ≠ .cell v):Inv X (pins++zcS fp s.heap) σ H s :=
 I.pins_of fun p a=>(yae.mp a).elim (fun z=>I.pin p (yZ _ z)) fun z=>by
  obtain⟨h,e⟩:=zhH z;obtain⟨f0,f1,f2,_⟩:=f p.1 h;obtain⟨o,E,d⟩:=c p.1 h;rw[e]at E;cases E;exact⟨e,f0,f1,f2,d⟩
theorem Inv.unpinned{pl:List (ad×av)}(I:Inv X (pins++pl) σ H s):Inv X pins σ H s:=I.pins_of fun p h=>I.pin p (yZ _ (yaj _ h))
theorem ps_for{iter:ak}{G:TI}{g:TG}{tb:TS}(y:PassesOwn (ao X.prog X.w) X.A X.env X.xe)(O:X.calm=ac)(hi:PI X tg iter G)(hg:PG X tg g)(j:PSs X body tb)(hs:autoParam (∀x,bi iter X.env x=pure x) AutoP.a2._auto_1):PS X (.For tg iter body [] pos) (tFor G g tb):=by
 intro pins s σ H D I h;refine wpAny_For (thn (hi pins s σ H _ I h) fun v s1 h1=>thn h1 fun itv s2 h2=>?_) hs;obtain⟨it,fp,tn,J,H2,e,I2,T,B,f2,W,⟨m0,w0⟩,turn⟩:=h2;subst e;have S:∀{H':Hp},(∀b∈fp,H' b=ab)->∀b∈fp,zfT X pins H' b:=fun hn b j=>⟨hn b j,(f2 b j).2⟩;refine codeAny_forLoop_any (fun n M=>∃i σ' H',Inv X pins σ' H' M/\tn i M.heap/\(∀b∈fp,H' b=ab)/\W i n σ' H') ?_ m0 ⟨0,σ,H2,I2,B,fun b j=>(f2 b j).1,w0⟩;rintro n L ⟨i,c,z,P,t,F,V⟩;rcases turn i n c z V with⟨stop,qn⟩|⟨go,N,hN,step⟩
 ·refine bz y (thn (T.done X rfl rfl rfl O i pins L c z X.xe P (S F) t stop) ?_);rintro r Z ⟨hr,I4⟩;subst hr;exact b7 ⟨c,z,I4,qn⟩
 ·refine bz y (thn (T.item X rfl rfl rfl O i pins L c z X.xe P (S F) t go) ?_);rintro r Z ⟨u,hr,h4⟩;subst hr;refine bz y (thn h4 ?_);rintro _ K ⟨x,Q,I5,r5,Y,p,C⟩;have E:=I5.pinned (S C) (T.obj _ _ p);refine bz y (thn (hg _ K c Q x u _ E r5 (step x Q Y)) ?_);rintro _ s6 ⟨A,H6,I6,q6⟩;refine bz y (thn (j _ s6 A H6 _ I6 q6) fun f s7 q=>?_);have again:∀{a:St}{l:Hp},Inv X (pins++zcS fp K.heap) a l s7->N a l->∃m,m<n/\∃i σ' H',Inv X pins σ' H' s7/\tn i s7.heap/\(∀b∈fp,H' b=ab)/\W i m σ' H':=fun {a l} k w=>by
   obtain⟨m',hm,U⟩:=hN a l w;refine⟨m',hm,i+1,a,l,k.unpinned,T.keep _ _ _ p fun b j o e=>(k.pin (b,o) (yZ _ (yZ _ (zcK j e)))).1,fun b j=>?_,U⟩;obtain⟨o,e,d⟩:=T.obj _ _ p b j;exact(k.pin (b,o) (yZ _ (yZ _ (zcK j e)))).2.1
  cases f with
  |next=>obtain⟨a,l,k,w⟩:=q;exact again k w
  |cont=>obtain⟨a,l,k,w⟩:=q;exact again k w
  |brk=>obtain⟨a,l,k,q⟩:=q;exact⟨a,l,k.unpinned,q⟩
  |ret v=>obtain⟨R,a,l,k,r7,q⟩:=q;exact⟨R,a,l,k.unpinned,r7,q⟩
end
abbrev R2:=V->V->Hp->VK->Prop
def OpR(X:Cx)(f:af->af->Sem af)(r:R2):Prop :=
 ∀(pins:List (ad×av))(s:aj)(σ : St)(H:Hp)(x y:V)(v u:af)(Q:VK),Inv X pins σ H s->RelV x v->RelV y u->r x y H Q →
  wpAny (ao X.prog X.w) X.A (f v u) (EP X pins σ Q) X.xe s
def UnR(X:Cx)(f:af->Sem af)(r:V->Hp->VK->Prop):Prop :=
 ∀(pins:List (ad×av))(s:aj)(σ : St)(H:Hp)(x:V)(v:af)(Q:VK),Inv X pins σ H s->RelV x v->r x H Q →
  wpAny (ao X.prog X.w) X.A (f v) (EP X pins σ Q) X.xe s
def CallR(X:Cx)(f:af)(r:List V->Hp->VK->Prop):Prop :=
 ∀(pins:List (ad×av))(s:aj)(σ : St)(H:Hp)(xs:List V)(us:List af)(Q:VK),Inv X pins σ H s->Vals xs us->r xs H Q →
  wpAny (ao X.prog X.w) X.A (call f us) (EP X pins σ Q) X.xe s
def tOp(r:R2)(t tb:TE):TE:=fun σ H Q=>t σ H fun x H1=>tb σ H1 fun y H2=>r x y H2 Q
def tUn(r:V->Hp->VK->Prop)(t:TE):TE:=fun σ H Q=>t σ H fun x H1=>r x H1 Q
def rI(C:Int->Int->Prop)(g:Int->Int->V):R2:=fun x y H Q=>∃i j,x = .int i/\y = .int j/\C i j/\Q (g i j) H
def rI0(g:Int->Int->V):R2:=fun x y H Q=>∃i j,x = .int i/\y = .int j/\Q (g i j) H
def rU(g:Int->V):V->Hp->VK->Prop:=fun x H Q=>∃i,x = .int i/\Q (g i) H
variable{g:Int->Int->Int}{f:af->af->Sem af}{r:R2}
section
variable{a b:ak}{tc:TE}
theorem binT(ha:PE X a ta)(g:PE X b tb){R:V->V->Hp->Prop}(I:Inv X pins σ H s)(h:ta σ H fun x H1=>tb σ H1 fun y H2=>R x y H2)(e:∀v u s2 x y H2,Inv X pins σ H2 s2->RelV x v->RelV y u->R x y H2->wpAny (ao X.prog X.w) X.A (f v u) Q X.xe s2) : wpAny (ao X.prog X.w) X.A (eval a X.env) (fun v c=>wpAny (ao X.prog X.w) X.A (eval b X.env) (fun u S=>wpAny (ao X.prog X.w) X.A (f v u) Q X.xe S) X.xe c) X.xe s:=by
 refine thn (ha pins s σ H _ I h) ?_;rintro v s1 ⟨x,H1,j,r,d⟩;refine thn (g pins s1 σ H1 _ j d) ?_;rintro u s2 ⟨y,H2,i,r2,q⟩;exact e v u s2 x y H2 i r r2 q
theorem pe_op{o:Operator}(d:OpR X (aE o) r)(ha:PE X a ta)(e:PE X b tb):PE X (.BinOp a o b pos) (tOp r ta tb):=by
 intro pins s σ H Q I h;exact wpAny_BinOp (binT ha e I h fun v u s2 x y f i c R q=>d pins s2 σ f x y v u Q i c R q)
theorem pe_un{o:UnaryOp}{r:V->Hp->VK->Prop}(b:UnR X (unaryOp o) r)(ha:PE X a ta):PE X (.UnaryOp o a pos) (tUn r ta):=by
 intro pins s σ H Q I h;refine UnaryOp_ (thn (ha pins s σ H _ I h) ?_);rintro v s1 ⟨x,c,i,R,q⟩;exact b pins s1 σ c x v Q i R q
theorem opI{C:Int->Int->Prop}
  (rule:∀(i j:Int)(t u:Tok)(s:aj)(Q:af->aj->Prop)(E:af->aj->Prop),C i j->Q (.int (g i j) s.toks) { s with toks:=s.toks+1 }->wpAny (ao X.prog X.w) X.A (f (.int i t) (.int j u)) Q E s) :
  OpR X f (rI C fun i j=>.int (g i j)):=by
 intro pins s σ H x y v u Q I R r h;obtain⟨i,j,rfl,rfl,a,q⟩:=h;obtain⟨t,rfl⟩:=R;obtain⟨t',rfl⟩:=r;exact rule i j t t' s _ _ a ⟨.int (g i j),H,I.tok _,⟨_,rfl⟩,q⟩
theorem opI0
  (rule:∀(i j:Int)(t u:Tok)(s:aj)(Q:af->aj->Prop)(E:af->aj->Prop),Q (.int (g i j) s.toks) { s with toks:=s.toks+1 }->wpAny (ao X.prog X.w) X.A (f (.int i t) (.int j u)) Q E s) :
  OpR X f (rI0 fun i j=>.int (g i j)):=by
 intro pins s σ H x y v u Q I R r h;obtain⟨i,j,rfl,rfl,q⟩:=h;obtain⟨t,rfl⟩:=R;obtain⟨t',rfl⟩:=r;exact rule i j t t' s _ _ ⟨.int (g i j),H,I.tok _,⟨_,rfl⟩,q⟩
theorem opB0{g:Int->Int->Bool}(rule:∀(i j:Int)(t u:Tok)(s:aj)(Q:af->aj->Prop)(E:af->aj->Prop),Q (.bool (g i j)) s->wpAny (ao X.prog X.w) X.A (f (.int i t) (.int j u)) Q E s) : OpR X f (rI0 fun i j=>.bl (g i j)):=by
 intro pins s σ H x y v u Q I R r h;obtain⟨i,j,rfl,rfl,q⟩:=h;obtain⟨t,rfl⟩:=R;obtain⟨t',rfl⟩:=r;exact rule i j t t' s _ _ ⟨.bl (g i j),H,I,rfl,q⟩
def CPow(i j:Int):Prop:=0<=j/\j<=1000000/\i.natAbs<2^64
def CMul(i j:Int):Prop:=(-(2^64)<i/\i<2^64)∨(-(2^64)<j/\j<2^64)
theorem CMul.ok{i j:Int}(h:CMul i j):IntMulOk i j:=by
 rcases h with⟨a,H⟩|⟨a,H⟩
 ·exact .of_left (intBits_le_64 a H)
 ·exact .of_right (intBits_le_64 a H)
theorem zot(k:Nat):(0:Int)<=2^k:=by
 rw[two_pow_cast];exact Int.natCast_nonneg _
theorem op_add:OpR X (aE .Add) (rI0 fun i j=>.int (i+j)):=opI0 fun _ _ _ _ _ _ _ q=>add_int q
theorem zbf:OpR X (aE .Sub) (rI0 fun i j=>.int (i-j)):=opI0 fun _ _ _ _ _ _ _ q=>sub_int q
theorem op_mul:OpR X (aE .Mult) (rI CMul fun i j=>.int (i*j)):=opI fun _ _ _ _ _ _ _ h q=>mul_int q h.ok
theorem zb1:OpR X (aE .Mod) (rI (fun _ j=>0<j) fun i j=>.int (i%j)):=opI fun i j _ _ _ _ _ h q=>by
 have H:(0:Int)<j:=h;exact mod_int' (by omega) (by rw[Int.fmod_eq_emod_of_nonneg i (by omega)];exact q)
theorem zgB:OpR X (aE .Pow) (rI CPow fun i j=>.int (i^j.toNat)):=opI fun _ _ _ _ _ _ _ h q=>pow_int_small h.1 h.2.1 h.2.2 q
theorem zda:OpR X (aE .LShift) (rI CPow fun i j=>.int (i*2^j.toNat)):=opI fun _ _ _ _ _ _ _ h q=>lshift_int_small h.1 h.2.1 h.2.2 q
theorem op_shr:OpR X (aE .RShift) (rI (fun _ j=>0<=j) fun i j=>.int (i/2^j.toNat)):=opI fun i j _ _ _ _ _ h q=>
 rshift_int h (by rw[ydn i (zot _)];exact q)
theorem op_and:OpR X (aE .BitAnd) (rI0 fun i j=>.int (ybD i j)):=opI0 fun _ _ _ _ _ _ _ q=>and_int q
theorem unI{f:af->Sem af}{g:Int->Int}
  (rule:∀(i:Int)(t:Tok)(s:aj)(Q:af->aj->Prop)(E:af->aj->Prop),Q (.int (g i) s.toks) { s with toks:=s.toks+1 }->wpAny (ao X.prog X.w) X.A (f (.int i t)) Q E s) :
  UnR X f (rU fun i=>.int (g i)):=by
 intro pins s σ H x v Q I r h;obtain⟨i,rfl,q⟩:=h;obtain⟨t,rfl⟩:=r;exact rule i t s _ _ ⟨.int (g i),H,I.tok _,⟨_,rfl⟩,q⟩
theorem znm:UnR X (unaryOp .USub) (rU fun i=>.int (-i)):=unI fun _ _ _ _ _ q=>neg_int q
end
def scal:V->V->Bool
 |.non,.non=>ac | .non,.int _=>ac | .int _,.non=>ac | .non,.bl _=>ac | .bl _,.non=>ac | .non,.str _=>ac | .str _,.non=>ac|.int _,.int _=>ac | .bl _,.bl _=>ac | .str _,.str _=>ac | .byt _,.byt _=>ac|.int _,.str _=>ac | .str _,.int _=>ac | .bl _,.str _=>ac | .str _,.bl _=>ac|_,_=>ag
def rEq:R2:=fun x y H Q=>scal x y=ac/\Q (.bl (decide (x=y))) H
def rNe:R2:=fun x y H Q=>scal x y=ac/\Q (.bl (!decide (x=y))) H
theorem zsc{i j:Int}:decide (V.int i=V.int j)=(i==j):=by
 rw[ybE];simp
theorem zuC{i j:Bool}:decide (V.bl i=V.bl j)=(i==j):=by
 rw[ybE];simp
theorem zsb{i j:ae}:decide (V.str i=V.str j)=(i==j):=by
 rw[ybE];simp
theorem zsd{i j:Array UInt8}:decide (V.byt i=V.byt j)=(i.toList==j.toList):=by
 rw[ybE];cases i;cases j;simp
variable{r':R2}{op op':CmpOp}
section
variable{a b:ak}{tc:TE}
theorem zaN{Q:VK}{k K:Bool}(I:Inv X pins σ H s)(q:Q (.bl k) H)(e:k=K):EP X pins σ Q (.bool K) s:=by
 subst e;exact⟨.bl k,H,I,rfl,q⟩
theorem op_eq:OpR X (az .Eq) rEq:=by
 intro pins s σ H x y v u Q I R r h;obtain⟨hs,q⟩:=h;cases x with
 |non=>
  cases R;cases y with
  |non=>cases r;exact PySem.EqNone.eq_none_none (zaN I q (by simp))|bl j=>cases r;exact PySem.EqNone.eq_none_bool (zaN I q (by simp))|int j=>obtain⟨t',rfl⟩:=r;exact PySem.EqNone.eq_none_int (zaN I q (by simp))
  |str j=>obtain⟨t',rfl⟩:=r;exact PySem.EqNone.eq_none_str (zaN I q (by simp))
  |_=>exact absurd (show ag=ac from hs) yR
 |bl i=>
  cases R;cases y with
  |non=>cases r;exact PySem.EqNone.eq_bool_none (zaN I q (by simp))|bl j=>cases r;exact eq_bool (zaN I q zuC)|str j=>obtain⟨t',rfl⟩:=r;exact PySem.EqMixed.eq_bool_str (zaN I q (by simp))
  |_=>exact absurd (show ag=ac from hs) yR
 |int i=>
  obtain⟨t,rfl⟩:=R;cases y with
  |non=>cases r;exact PySem.EqNone.eq_int_none (zaN I q (by simp))|int j=>obtain⟨t',rfl⟩:=r;exact eq_int (zaN I q zsc)
  |str j=>obtain⟨t',rfl⟩:=r;exact PySem.EqMixed.eq_int_str (zaN I q (by simp))
  |_=>exact absurd (show ag=ac from hs) yR
 |str i=>
  obtain⟨t,rfl⟩:=R;cases y with
  |non=>cases r;exact PySem.EqNone.eq_str_none (zaN I q (by simp))|bl j=>cases r;exact PySem.EqMixed.eq_str_bool (zaN I q (by simp))|int j=>obtain⟨t',rfl⟩:=r;exact PySem.EqMixed.eq_str_int (zaN I q (by simp))
  |str j=>obtain⟨t',rfl⟩:=r;exact eq_str (zaN I q zsb)
  |_=>exact absurd (show ag=ac from hs) yR
 |byt i=>
  obtain⟨t,rfl⟩:=R;cases y with
  |byt j=>obtain⟨t',rfl⟩:=r;exact PySem.W.eq_bytes (zaN I q zsd)
  |_=>exact absurd (show ag=ac from hs) yR
 |_=>cases y <;> exact absurd (show ag=ac from hs) yR
theorem op_ne:OpR X (az .NotEq) rNe:=by
 intro pins s σ H x y v u Q I R r h;obtain⟨hs,q⟩:=h;cases x with
 |non=>
  cases R;cases y with
  |non=>cases r;exact PySem.EqNone.ne_none_none (zaN I q (by simp))|bl j=>cases r;exact PySem.EqNone.ne_none_bool (zaN I q (by simp))|int j=>obtain⟨t',rfl⟩:=r;exact PySem.EqNone.ne_none_int (zaN I q (by simp))
  |str j=>obtain⟨t',rfl⟩:=r;exact PySem.EqNone.ne_none_str (zaN I q (by simp))
  |_=>exact absurd (show ag=ac from hs) yR
 |bl i=>
  cases R;cases y with
  |non=>cases r;exact PySem.EqNone.ne_bool_none (zaN I q (by simp))|bl j=>cases r;exact ne_bool (zaN I q (congrArg not zuC))|str j=>obtain⟨t',rfl⟩:=r;exact PySem.EqMixed.ne_bool_str (zaN I q (by simp))
  |_=>exact absurd (show ag=ac from hs) yR
 |int i=>
  obtain⟨t,rfl⟩:=R;cases y with
  |non=>cases r;exact PySem.EqNone.ne_int_none (zaN I q (by simp))|int j=>obtain⟨t',rfl⟩:=r;exact ne_int (zaN I q (congrArg not zsc))
  |str j=>obtain⟨t',rfl⟩:=r;exact PySem.EqMixed.ne_int_str (zaN I q (by simp))
  |_=>exact absurd (show ag=ac from hs) yR
 |str i=>
  obtain⟨t,rfl⟩:=R;cases y with
  |non=>cases r;exact PySem.EqNone.ne_str_none (zaN I q (by simp))|bl j=>cases r;exact PySem.EqMixed.ne_str_bool (zaN I q (by simp))|int j=>obtain⟨t',rfl⟩:=r;exact PySem.EqMixed.ne_str_int (zaN I q (by simp))
  |str j=>obtain⟨t',rfl⟩:=r;exact ne_str (zaN I q (congrArg not zsb))
  |_=>exact absurd (show ag=ac from hs) yR
 |byt i=>
  obtain⟨t,rfl⟩:=R;cases y with
  |byt j=>obtain⟨t',rfl⟩:=r;exact PySem.W.ne_bytes (zaN I q (congrArg not zsd))
  |_=>exact absurd (show ag=ac from hs) yR
 |_=>cases y <;> exact absurd (show ag=ac from hs) yR
theorem op_lt:OpR X (az .Lt) (rI0 fun i j=>.bl (decide (i<j))):=opB0 fun _ _ _ _ _ _ _ q=>lt_int q
theorem op_le:OpR X (az .LtE) (rI0 fun i j=>.bl (decide (i<=j))):=opB0 fun _ _ _ _ _ _ _ q=>le_int q
theorem zkL:OpR X (az .Gt) (rI0 fun i j=>.bl (decide (j<i))):=opB0 fun _ _ _ _ _ _ _ q=>gt_int q
theorem zjP:OpR X (az .GtE) (rI0 fun i j=>.bl (decide (j<=i))):=opB0 fun _ _ _ _ _ _ _ q=>ge_int q
theorem zqH:OpR X (az .Lt) (fun x y H Q=>∃i j,x = .str i/\y = .str j/\Q (.bl (decide (i.cps.toList<j.cps.toList))) H):=by
 intro pins s σ H x y v u Q I R r h;obtain⟨i,j,rfl,rfl,q⟩:=h;obtain⟨t,rfl⟩:=R;obtain⟨t',rfl⟩:=r;exact lt_str (zaN I q rfl)
theorem zqJ:OpR X (az .In) (fun x y H Q=>∃i j,x = .str i/\y = .str j/\Q (.bl (!(ybZ j i 0 j.length 1).isEmpty)) H):=by
 intro pins s σ H x y v u Q I R r h;obtain⟨i,j,rfl,rfl,q⟩:=h;obtain⟨t,rfl⟩:=R;obtain⟨t',rfl⟩:=r;exact in_str (zaN I q rfl)
theorem op_isN:OpR X (az .Is) (fun x y H Q=>y = .non/\Q (.bl (decide (x = .non))) H):=by
 intro pins s σ H x y v u Q I r R h;obtain⟨rfl,q⟩:=h;cases R;refine is_none_gen (zaN I q ?_);cases x <;> first
  | (cases r;rfl)
  | (obtain⟨t,rfl⟩:=r;rfl)
theorem zvO:OpR X (az .IsNot) (fun x y H Q=>y = .non/\Q (.bl (!decide (x = .non))) H):=by
 intro pins s σ H x y v u Q I r R h;obtain⟨rfl,q⟩:=h;cases R;refine isnot_none_gen (zaN I q ?_);cases x <;> first
  | (cases r;rfl)
  | (obtain⟨t,rfl⟩:=r;rfl)
theorem zkK:OpR X (az .NotIn) (fun x y H Q=>∃i j,x = .str i/\y = .str j/\Q (.bl (!(!(ybZ j i 0 j.length 1).isEmpty))) H):=by
 intro pins s σ H x y v u Q I R r h;obtain⟨i,j,rfl,rfl,q⟩:=h;obtain⟨t,rfl⟩:=R;obtain⟨t',rfl⟩:=r;exact notIn_str (zaN I q rfl)
theorem OpR.or(h:OpR X f r)(h':OpR X f r'):OpR X f (fun x y H Q=>r x y H Q∨r' x y H Q):=by
 intro pins s σ H x y v u Q I a R q;rcases q with q|q
 ·exact h pins s σ H x y v u Q I a R q
 ·exact h' pins s σ H x y v u Q I a R q
theorem zaq(b:ak)(h:autoParam (op ≠ .In) AutoP.a1._auto_1)(H:autoParam (op ≠ .NotIn) AutoP.a1._auto_1):bM op b=ag:=by
 have E:(op==CmpOp.In)=ag:=by cases op <;> first | rfl | exact absurd rfl h
 have e:(op==CmpOp.NotIn)=ag:=by cases op <;> first | rfl | exact absurd rfl H
 cases b <;> simp[bM,E,e]
theorem zvI(d:OpR X (az op) r)(ha:PE X a ta)(e:PE X b tb)(hm:bM op b=ag):PE X (.Compare a [op] [b] pos) (tOp r ta tb):=by
 intro pins s σ H Q I h;exact wpAny_Compare1 (binT ha e I h fun v u s2 x y f i c R q=>d pins s2 σ f x y v u Q i c R q) hm
def zuN(t:TE):TT:=fun σ H Q=>t σ H fun x H'=>∃k,x = .bl k/\Q k H'
theorem zvm(i:OpR X (az op) r)(ha:PE X a ta)(j:PE X b tb)(hm:bM op b=ag):PT X (.Compare a [op] [b] pos) (zuN (tOp r ta tb)):=by
 intro pins s σ H Q I h;refine wpAny_isTrue_Compare1 (thn (ha pins s σ H _ I h) fun v s1 ⟨x,t,n,d,g⟩=>thn (j pins s1 σ t _ n g) fun u s2 ⟨y,p,m,r2,f⟩=>
  thn (i pins s2 σ p x y v u _ m d r2 f) fun c S ⟨z,o,l,R,k,e,q⟩=>?_) hm
 subst e;cases R;exact aT ⟨o,l,q⟩
def zpM(r r':R2)(T tb t:TE):TE:=fun σ H Q=>T σ H fun x H1=>tb σ H1 fun y H2=>r x y H2 fun z h=>∃k,z = .bl k ∧
 (if k=ac then t σ h fun w a=>r' y w a Q else Q (.bl ag) h)
theorem zts(t:OpR X (az op) r)(f:OpR X (az op') r')(ha:PE X a ta)(B:PE X b tb)(A:PE X c tc)(hm:autoParam (lastMarks [op,op'] [b,c]=ag) AutoP.a4._auto_1):PE X (.Compare a [op,op'] [b,c] pos) (zpM r r' ta tb tc):=by
 intro pins s σ H Q I h;refine Compare_chain (thn (ha pins s σ H _ I h) fun v s1 ⟨x,J,E,m,p⟩=>chain_link (thn (B pins s1 σ J _ E p) fun u s2 ⟨y,G,D,r2,o⟩=>
  thn (t pins s2 σ G x y v u _ D m r2 o) fun d j ⟨z,g,i,l,k,e,q⟩=>?_)) hm
 subst e;cases l;refine aT ?_;cases k with
 |false=>exact ite_ff ⟨.bl ag,g,i,rfl,q⟩|true=>exact ite_tt (chain_last (thn (A pins j σ g _ i q) fun w S ⟨Z,F,C,R,n⟩=>f pins S σ F y Z u w Q C r2 R n))
theorem ztg(A:OpR X (az op) r)(f:OpR X (az op') r')(ha:PE X a ta)(C:PE X b tb)(B:PE X c tc)(hm:autoParam (lastMarks [op,op'] [b,c]=ag) AutoP.a4._auto_1):PT X (.Compare a [op,op'] [b,c] pos) (zuN (zpM r r' ta tb tc)):=by
 intro pins s σ H Q I h;refine isTrue_chain (thn (ha pins s σ H _ I h) fun v s1 ⟨x,O,K,m,p⟩=>test_link (thn (C pins s1 σ O _ K p) fun u s2 ⟨y,N,J,r2,o⟩=>
  thn (A pins s2 σ N x y v u _ J m r2 o) fun d j ⟨z,g,i,l,k,e,q⟩=>?_)) hm
 subst e;cases l;refine aT ?_;cases k with
 |false=>
  obtain⟨V,D,t⟩:=q;cases D;exact ite_ff ⟨g,i,t⟩
 |true=>
  refine ite_tt (test_last (thn (B pins j σ g _ i q) fun w S ⟨Z,M,G,R,n⟩=>thn (f pins S σ M y Z u w _ G r2 R n) ?_));rintro d' T ⟨P,L,F,r5,U,E,q5⟩;subst E;cases r5;exact aT ⟨L,F,q5⟩
theorem ziS:(sizeLine:Nat)<2^63:=by rw[bq];decide
theorem zoO:OpR X (aE .Add) (fun x y H Q=>∃i j,x = .str i/\y = .str j/\i.length+j.length<=sizeLine/\Q (.str (i++j)) H):=by
 intro pins s σ H x y v u Q I R r h;obtain⟨i,j,rfl,rfl,a,q⟩:=h;obtain⟨t,rfl⟩:=R;obtain⟨t',rfl⟩:=r;exact add_str (fun t' tk=>⟨.str (i++j),H,I.tok _,⟨_,rfl⟩,q⟩) a
theorem zcB{x:V}(r:Vals [x] us):∃u,us=[u]/\RelV x u:=by
 cases r with
 |cons R r2=>cases r2;exact⟨_,rfl,R⟩
theorem zpA{x:V}(r:Vals [x,y] us):∃u w',us=[u,w']/\RelV x u/\RelV y w':=by
 cases r with
 |cons b r2=>
  cases r2 with
  |cons a R=>cases R;exact⟨_,_,rfl,b,a⟩
theorem zoo:CallR X (.builtin "abs") (fun xs H Q=>∃i,xs=[.int i]/\Q (.int (if i<0 then -i else i)) H):=by
 intro pins s σ H xs us Q I r h;obtain⟨i,rfl,q⟩:=h;obtain⟨u,rfl,t,rfl⟩:=zcB r;exact call_abs_int fun u tk=>⟨.int (if i<0 then -i else i),H,I.tok _,⟨_,rfl⟩,q⟩
theorem zc4(b:X.calm=ac):CallR X (.builtin "max") (fun xs H Q=>∃i j,xs=[.int i,.int j]/\Q (.int (if j>i then j else i)) H):=by
 intro pins s σ H xs us Q I r h;obtain⟨i,j,rfl,q⟩:=h;obtain⟨u,w,rfl,⟨t,rfl⟩,⟨t',rfl⟩⟩:=zpA r;refine max_two_ints (I.ok.hd b) fun h' tk k=>⟨_,H,I.kept k,?_,q⟩;by_cases a:j>i
 ·rw[if_pos a,if_pos a];exact⟨_,rfl⟩
 ·rw[if_neg a,if_neg a];exact⟨_,rfl⟩
theorem zfP(b:X.calm=ac):CallR X (.builtin "min") (fun xs H Q=>∃i j,xs=[.int i,.int j]/\Q (.int (if j<i then j else i)) H):=by
 intro pins s σ H xs us Q I r h;obtain⟨i,j,rfl,q⟩:=h;obtain⟨u,w,rfl,⟨t,rfl⟩,⟨t',rfl⟩⟩:=zpA r;refine min_two_ints (I.ok.hd b) fun h' tk k=>⟨_,H,I.kept k,?_,q⟩;by_cases a:j<i
 ·rw[if_pos a,if_pos a];exact⟨_,rfl⟩
 ·rw[if_neg a,if_neg a];exact⟨_,rfl⟩
theorem zst:CallR X (.type "int") (fun xs H Q=>(∃i,xs=[.int i]/\Q (.int i) H)∨∃k,xs=[.bl k]/\Q (.int (if k then 1 else 0)) H):=by
 intro pins s σ H xs us Q I r h;rcases h with⟨i,rfl,q⟩|⟨k,rfl,q⟩
 ·obtain⟨u,rfl,t,rfl⟩:=zcB r;exact call_int_int ⟨.int i,H,I,⟨_,rfl⟩,q⟩
 ·obtain⟨u,rfl,R⟩:=zcB r;cases R;exact call_int_bool ⟨.int (if k then 1 else 0),H,I.tok _,⟨_,rfl⟩,q⟩
theorem zlD:CallR X (.type "str") (fun xs H Q=>∃i,xs=[.int i]/\i.natAbs.log2<1920/\Q (.str (toString i)) H):=by
 intro pins s σ H xs us Q I r h;obtain⟨i,rfl,a,q⟩:=h;obtain⟨u,rfl,t,rfl⟩:=zcB r;exact PySem.P.str_of_int a ⟨.str _,H,I.tok _,⟨_,rfl⟩,q⟩
end
structure ObjM(h:ax)(x dx C:ad)(mA:ae->Option af):Prop where
 obj:h.get? x=aa (yaU C dx)
 ns:h.Ns1 dx mA
 ne:dx≠x
variable{dx:ad}{mA:ae->Option af}
theorem zro(n:h.Ns1 dx mA):∃od,h.get? dx=aa od/\∀name,yb0 name od=aa (mA name):=by
 obtain⟨o,es,ep,c,hd,d,_,hm⟩:=n;refine⟨o,c,fun name=>?_⟩;have e:=hm name;unfold nsFind findBy at e;rw[<- Array.find?_toList]at e;unfold yb0;rw[hd];dsimp only;split
 ·rename_i y q;rw[q]at e;exact congrArg aa e
 ·rename_i q;rw[q]at e;have a:es.toList.any (·.refKey)=ag:=by
   rw[List.any_eq_false];intro y b;obtain⟨z,t,H⟩:=d y (Array.mem_toList_iff.mp b);simp[DictEntry.refKey,H]
  have A : ¬ es.toList.any (·.refKey)=ac:=by rw[a];exact yR
  rw[if_neg A];exact congrArg aa e
variable{C:ad}
theorem ObjM.look{x:ad}(I:ObjM h x dx C mA):∃od,PySem.W.InstAt h x (yaU C dx) C (aa od)/\∀name,yb0 name od=aa (mA name) :=
 let ⟨od,ho,hl⟩:=zro I.ns
 ⟨od,⟨I.obj,rfl,rfl,ho⟩,hl⟩
variable{prog:ap}{name:ae}{pl:Sem Bool}{kw:List (ae×af)}
section
variable{w:al}{x f:ad}{v:af}
theorem zwn{e:Bool}(X:K.In s.heap)(I:ObjM s.heap x dx C mA)(b:ya4 K C name=ac)(a:ybm K C=ac)
  (ha:yam K (.ref C) name=aa ab) (hv:mA name=aa v) (H:ydo v=ac) (h:Q v { s with toks:=s.toks+1 }) :
  wpAny (ao prog w) A (getAttr (.ref x) name e) Q E s:=by
 obtain⟨od,J,hl⟩:=I.look;exact PySem.W.get_value X J (ycC b).1 (PySem.W.findObj_own a ha rfl (by rw[hl,hv])) H h
theorem ztS{Q:af×List af->aj->Prop}(X:K.In s.heap)(I:ObjM s.heap x dx C mA)(H:ya4 K C name=ac)(b:yam K (.ref C) name=aa (aa (.ref f)))(a:yP K (.ref f)=ac)(hv:mA name=ab)(h:Q (.ref f,[.ref x]) s) : wpAny (ao prog w) A (getMethod (.ref x) name pl) Q E s:=by
 obtain⟨od,J,hl⟩:=I.look;exact PySem.W.method_fn X J (ycC H).1 (ycC H).2 b (beq_iff_eq.mp a) (by show (yb0 name od).map (·.isSome)=aa ag;rw[hl,hv];rfl) h
theorem zu1{ns:List ae}{Q:Unit->aj->Prop}(X:K.In s.heap)(I:ObjM s.heap x dx C mA)
  (hs:yam K (.ref C) "__setattr__" = aa (aa (.builtin "object.__setattr__"))) (l:ybF K C=ac) (k:ycD K C name=aa ab) (m:ybm K C=ac)
  (j:ycw mA ns) (hsz:ns.length<=sizeLine)
  (h:∀h',ObjM h' x dx C (fun y=>if y=name then aa v else mA y)->ya2 dx s.heap h'->Q () { s with heap:=h',toks:=s.toks+2 }) :
  wpAny (ao prog w) A (setAttr (.ref x) name v) Q E s:=by
 obtain⟨od,J,hl⟩:=I.look;refine PySem.W.set_plain X J hs (PySem.W.osa_open (s:={ s with toks:=s.toks+1 }) (r:=ab) X J l k fun b=>?_);obtain⟨q,n,f⟩:=PySem.W.any_some m;have i:s.heap.get? x=aa ⟨.ref C,aa dx,.plain,#[]⟩:=I.obj;refine ai (aw (ai (ai (wpAny_loadPart i (ai (PySem.W.Looks.here (s:={ s with toks:=s.toks+1 }) (PySem.W.looks_clsIn X n) ?_))))));rw[f];refine aw (a:=aa dx) (ai (aw (ai ?_)));refine wpAny_nsSet1 (s:={ s with toks:=s.toks+1 }) I.ns fun h' c H=>?_;obtain⟨O,o,p,d,e,g⟩:=c.count (PySem.Within.cons name v j);refine ai (wpAny_lookBehind d (by rw[e];exact pastItsLine_dict (yO g (by rw[yD];omega))) ?_);exact aw (h _ ⟨(H.2 _ (Ne.symm I.ne)).trans I.obj,c,I.ne⟩ H)
theorem ztF{R:bA->aj->Prop}{vs:List af}(X:K.In s.heap)(hm:ybG K C=ac)
  (hi:yam K (.ref C) "__init__" = aa (aa (.ref f))) (H:PySem.W.typeIn K (.ref f)=aa (.type "function"))
  (h:codeAny (ao prog w) (A.under (.builtin "type.__call__" ⟨.ref C::vs,kw⟩)) (.call (.ref f) ⟨.ref (s.heap.objs.size+1)::vs,kw⟩) (PySem.W.InitBack (s.heap.objs.size+1) R)
   { s with heap:=(s.heap.push yaN).push (yaU C s.heap.objs.size) }) :
  codeAny (ao prog w) A (.call (.ref C) ⟨vs,kw⟩) R s:=by
 obtain⟨a,g,d,t,os⟩:=s;exact PySem.W.make_core (PySem.W.makes_of X hm) (PySem.W.looks_findIn X hi) (fun self=>PySem.W.bind_fn X self H) (.inl rfl) h
end
def zim(f:ae)(v:V):List (ae×V)->List (ae×V)
 |[]=>[(f,v)]| (g,x)::r=>if g=f then (g,v)::r else (g,x)::zim f v r
theorem zhM(f g:ae)(v:V):∀fs:List (ae×V),(zim f v fs).lookup g=if g=f then aa v else fs.lookup g
 |[]=>by
  show ya5 g [(f,v)]=_;by_cases h:g=f
  ·have H:(g==f)=ac:=beq_iff_eq.mpr h;simp only[ya5,H,if_pos h]
  ·have H:(g==f)=ag:=beq_eq_false_iff_ne.mpr h;simp only[ya5,H,if_neg h]
 | (k,x)::r=>by
  have i:=zhM f g v r;rw[show zim f v ((k,x)::r)=(if k=f then (k,v)::r else (k,x)::zim f v r) from rfl];by_cases a:k=f
  ·rw[if_pos a];by_cases h:g=k
   ·have H:(g==k)=ac:=beq_iff_eq.mpr h;simp only[ya5,H,if_pos (h.trans a)]
   ·have H:(g==k)=ag:=beq_eq_false_iff_ne.mpr h;simp only[ya5,H,if_neg (fun e:g=f=>h (e.trans a.symm))]
  ·rw[if_neg a];by_cases h:g=k
   ·have H:(g==k)=ac:=beq_iff_eq.mpr h;simp only[ya5,H,if_neg (fun e:g=f=>a (h.symm.trans e))]
   ·have H:(g==k)=ag:=beq_eq_false_iff_ne.mpr h;simp only[ya5,H];exact i
theorem zhO(f:ae)(v:V):∀fs:List (ae×V),f∈(zim f v fs).map (·.1)/\∀g,g∈fs.map (·.1)->g∈(zim f v fs).map (·.1)
 |[]=>⟨by simp[zim],fun g h=>by simp at h⟩| (k,x)::r=>by
  obtain⟨i1,i2⟩:=zhO f v r;rw[show zim f v ((k,x)::r)=(if k=f then (k,v)::r else (k,x)::zim f v r) from rfl];by_cases H:k=f
  ·rw[if_pos H];subst H;exact⟨by simp,fun g h=>by simpa using h⟩
  ·rw[if_neg H];refine⟨?_,fun g h=>?_⟩
   ·rw[yE];exact yag _ i1
   ·rw[yE]at h ⊢;rcases yB.mp h with e|e
    ·exact yB.mpr (.inl e)
    ·exact yag _ (i2 g e)
theorem zhN(f:ae)(v:V):∀fs:List (ae×V),(zim f v fs).length<=fs.length+1
 |[]=>by simp[zim]| (k,x)::r=>by
  have i:=zhN f v r;rw[show zim f v ((k,x)::r)=(if k=f then (k,v)::r else (k,x)::zim f v r) from rfl];by_cases h:k=f
  ·rw[if_pos h,yD,yD];omega
  ·rw[if_neg h,yD,yD];omega
theorem RelO.some_of{o:Option af}(r:RelO (aa v) o):∃u,o=aa u/\RelV v u:=by
 cases o with
 |none=>exact(show False from r).elim|some u=>exact⟨u,rfl,r⟩
theorem RelO.none_of{o:Option af}(r:RelO ab o):o=ab:=by
 cases o with
 |none=>rfl|some u=>exact(show False from r).elim
theorem zrO(r:RelV v u):ydo u=ac:=by
 cases v with
 |non=>cases (show u=yaH from r);rfl|bl b=>cases (show u=ybB b from r);rfl|int i=>obtain⟨t,e⟩:=(show ∃t,u=ybz i t from r);cases e;rfl
 |str x=>obtain⟨t,e⟩:=(show ∃t,u=ybA x t from r);cases e;rfl
 |byt b=>obtain⟨t,e⟩:=(show ∃t,u=Value.bytes b t from r);cases e;rfl
 |flt b=>obtain⟨t,e⟩:=(show ∃t,u=ycv b t from r);cases e;rfl
 |ref a=>cases (show u=yN a from r);rfl|ty n=>cases (show u=yaM n from r);rfl
section
variable{w:al}{fs fs':List (ae×V)}
theorem zj9(hok:HOk P w H h)(e:H a=aa (.ins C dx fs)):∃mA,ObjM h a dx C mA/\(∀f,RelO (fs.lookup f) (mA f))/\ycw mA (fs.map (·.1))/\fs.length<=1000/\H dx=aa (.own a):=by
 obtain⟨d,z,ne,ob,mA,n,r,q⟩:=(show ObjOk P w H h a (.ins C dx fs) from hok a _ e);exact⟨mA,⟨ob,n,ne⟩,r,q,z,d⟩
end
structure Cls(K:ye)(C:ad):Prop where
 pg:ya4 K C yb1=ac
 hd:ybm K C=ac
 po:ybF K C=ac
 sa:yam K (.ref C) "__setattr__" = aa (aa (.builtin "object.__setattr__"))
theorem Cls.get(c:Cls K C)(f:ae):ya4 K C f=ac:=c.pg
def NoAttr(K:ye)(C:ad)(f:ae):Prop:=yam K (.ref C) f=aa ab
theorem NoAttr.taker{f:ae}(n:NoAttr K C f):ycD K C f=aa ab:=by
 unfold ycD;rw[show yam K (.ref C) f=aa ab from n];rfl
structure Meth(K:ye)(C:ad)(m:ae)(f:ad):Prop where
 at_:yam K (.ref C) m=aa (aa (.ref f))
 fn:yP K (.ref f)=ac
 kp:yaK K (.ref f)=ac
variable{m:ae}
section
variable{fs:List (ae×V)}{f:ae}
theorem zpd{b:Bool}(I:Inv X pins σ H s)(e:H a=aa (.ins C dx fs))(c:Cls X.K C)(n:NoAttr X.K C f)(l:fs.lookup f=aa v)(h:∀u s',Inv X pins σ H s'->RelV v u->Q u s'):wpAny (ao X.prog X.w) A (getAttr (.ref a) f b) Q E s:=by
 obtain⟨mA,O,r,_,_,_⟩:=zj9 I.hok e;obtain⟨u,d,R⟩:=RelO.some_of (v:=v) (o:=mA f) (by rw[<- l];exact r f);exact zwn I.kIn O (c.get f) c.hd n d (zrO R) (h u _ (I.tok _) R)
theorem ziV{g:ad}{Q:af×List af->aj->Prop}(I:Inv X pins σ H s)(e:H a=aa (.ins C dx fs))(c:Cls X.K C)(k:Meth X.K C m g)(l:fs.lookup m=ab)(h:Q (.ref g,[.ref a]) s):wpAny (ao X.prog X.w) A (getMethod (.ref a) m pl) Q E s:=by
 obtain⟨mA,O,r,_,_,_⟩:=zj9 I.hok e;have hn:mA m=ab:=RelO.none_of (by rw[<- l];exact r m);exact ztS I.kIn O (c.get m) k.at_ k.fn hn h
theorem zoD{Q:Unit->aj->Prop}(I:Inv X pins σ H s)(e:H a=aa (.ins C dx fs))(c:Cls X.K C)(n:NoAttr X.K C f)(hl:fs.length<1000)(R:RelV y u)(h:∀s',Inv X pins σ (upd H a (.ins C dx (zim f y fs))) s'->Q () s'):wpAny (ao X.prog X.w) A (setAttr (.ref a) f u) Q E s:=by
 obtain⟨mA,O,r,w,_,i⟩:=zj9 I.hok e;have j:(fs.map (·.1)).length<=sizeLine:=by rw[yj,bq];omega
 refine zu1 I.kIn O c.sa c.po n.taker c.hd w j fun h' d S=>h _ ?_;have hd:∃o,h'.get? dx=aa o:=let ⟨o,_,_,e',_⟩:=d.ns;⟨o,e'⟩;refine I.write (x:=a) (e:=dx) (by rw[e];exact True.intro) (.inr i) (fun b q l z=>(S.2 b l).trans z) hd ?_;refine⟨by rw[zax O.ne];exact i,?_,O.ne,d.obj,_,d.ns,fun g=>?_,fun g k=>?_⟩
 ·have:=zhN f y fs;omega
 ·show RelO ((zim f y fs).lookup g) (if g=f then aa u else mA g);rw[zhM];by_cases q:g=f
  ·rw[if_pos q,if_pos q];exact R
  ·rw[if_neg q,if_neg q];exact r g
 ·by_cases q:g=f
  ·rw[q];exact(zhO f y fs).1
  ·refine(zhO f y fs).2 g (w g fun z=>k ?_);show (if g=f then aa u else mA g)=ab;rw[if_neg q];exact z
theorem Inv.made(I:Inv X pins σ H s):Inv X pins σ (upd (upd H s.heap.objs.size (.own (s.heap.objs.size+1))) (s.heap.objs.size+1) (.ins C s.heap.objs.size [])) { s with heap:=(s.heap.push yaN).push (yaU C s.heap.objs.size) }:=by
 have E:(s.heap.push yaN).get? s.heap.objs.size=aa yaN:=yC s.heap rfl;have f:((s.heap.push yaN).push (yaU C s.heap.objs.size)).get? (s.heap.objs.size+1)=aa (yaU C s.heap.objs.size):=by
  have:=yC (s.heap.push yaN) (o:=yaU C s.heap.objs.size) rfl
  rwa [yap]at this
 have d:(s.heap.push yaN).Ns s.heap.objs.size (fun _=>ab):=⟨yaN,#[],_,E,rfl,(fun e c=>absurd c (by simp)),fun _=>rfl⟩;have i:=I.laid (a:=s.heap.objs.size) (o := .own (s.heap.objs.size+1)) (h':=s.heap.push yaN) (t':=s.toks) (fun b u q=>yt _ q) (yh _) ⟨_,E⟩;refine i.laid (a:=s.heap.objs.size+1) (o := .ins C s.heap.objs.size []) (t':=s.toks) (fun b u q=>yt _ q) (yb2 (yap _ _)) ?_;have ne:s.heap.objs.size≠s.heap.objs.size+1:=yG (ya6 _);refine⟨by rw[zax ne,zaD],yav _,ne,f,fun _=>ab,(Heap.Ns1.of_empty d).at fun o q=>yt _ q,fun _=>True.intro,fun y h=>absurd rfl h⟩
theorem zwy{w:al}{env:Env}{e:ak}{f:ae}(H:bB e f env (eval e env)=eval e env)(h:wpAny (ao prog w) A (eval e env) (fun o S=>wpAny (ao prog w) A (getAttr o f ac) Q E S) E s):wpAny (ao prog w) A (eval (.Attribute e f pos) env) Q E s :=
 Attribute_any_ h (by rw[arm_eval_Attribute,H])
end
def tFld(K:ye)(t:TE)(f:ae):TE:=fun σ H Q=>t σ H fun x H1=>∃a C dx fs v,x = .ref a/\H1 a=aa (.ins C dx fs)/\Cls K C/\NoAttr K C f/\fs.lookup f=aa v/\Q v H1
def sFld(K:ye)(t tv:TE)(f:ae):TS:=fun D σ H=>tv σ H fun y H1=>t σ H1 fun x H2=>∃a C dx fs,x = .ref a/\H2 a=aa (.ins C dx fs)/\Cls K C/\NoAttr K C f/\fs.length<1000 ∧
 D.nx σ (upd H2 a (.ins C dx (zim f y fs)))
section
variable{o e value:ak}{f:ae}{tpos:ay}{tv:TE}
theorem pe_fld(b:PE X e ta)(d:bB e f X.env (eval e X.env)=eval e X.env):PE X (.Attribute e f pos) (tFld X.K ta f):=by
 intro pins s σ H Q I h;refine zwy d (thn (b pins s σ H _ I h) ?_);rintro u s1 ⟨x,j,g,r,a,C,dx,fs,v,ex,E,c,n,l,q⟩;subst ex;obtain rfl:u=yN a:=r;exact zpd g E c n l fun U s2 i R=>⟨v,j,i,R,q⟩
theorem ps_fld(ha:PE X o ta)(hv:PE X value tv)(hs:bo value (aa (.Attribute o f pos')) pos.line X.env=pure ag):PS X (.Assign [.Attribute o f pos'] value pos) (sFld X.K ta tv f):=by
 intro pins s σ H D I h;refine plainObj_wpAny_Assign_Attribute (thn (hv pins s σ H _ I h) fun u s1 ⟨y,g,d,r,q⟩=>thn (ha pins s1 σ g _ d q) fun O s2 ⟨x,j,b,R,a,C,dx,fs,ex,e,c,n,l,Q⟩=>?_) hs;subst ex;obtain rfl:O=yN a:=R;exact zoD b e c n l r fun S i=>⟨σ,_,i,Q⟩
end
section
variable{c:af}{b:Bool}
inductive TyOf(K:ye)(H:Hp):V->af->Prop where
 |non:TyOf K H .non (.type "NoneType")
 |bl (x:Bool):TyOf K H (.bl x) (.type "bool")
 |int (i:Int):TyOf K H (.int i) (.type "int")
 |str (x:ae):TyOf K H (.str x) (.type "str")
 |flt (x:UInt64):TyOf K H (.flt x) (.type "float")
 |lst {a:ad} {xs:List V} (e:H a=aa (.lst xs)):TyOf K H (.ref a) (.type "list")
 |frz {a:ad} {o:av} {xs:List V} (e:H a=aa (.frz o (.lst xs))):TyOf K H (.ref a) (.type "list")
 |tup {a:ad} {xs:List V} (e:H a=aa (.tup xs)):TyOf K H (.ref a) (.type "tuple")
 |dK {a:ad} {kvs:List (Key×V)} (e:H a=aa (.dK kvs)):TyOf K H (.ref a) (.type "dict")
 |dT {a:ad} {kvs:List (List Key×V)} (e:H a=aa (.dT kvs)):TyOf K H (.ref a) (.type "dict")
 |ins {a C dx:ad} {fs:List (ae×V)} (e:H a=aa (.ins C dx fs)) (cl:Cls K C) (ha:yam K (.ref C) "__class__" = aa (aa (.builtin "object.__class__")))
   (hn:PySem.W.specialIn K (.builtin "object.__class__") "__get__" = aa (aa (.builtin "getset_descriptor.__get__"))) (htk:PySem.W.takesIn K (.builtin "object.__class__")=aa ac)
   (hm:PySem.W.mroIn K C (.type "object")=aa ac):TyOf K H (.ref a) (.ref C)
theorem zrG{x:V}{t:af}(I:Inv X pins σ H s)(r:RelV x u)(ty:TyOf X.K H x t)(e:ydp X.K t c=aa b)(h:∀tk,Q (.bool b) { s with toks:=tk }) :
  wpAny (ao X.prog X.w) A (call (.builtin "isinstance") [u,c]) Q E s:=by
 cases ty with
 |non=>cases (show u=yaH from r);exact yaz PySem.W.kitx_none I.kIn True.intro e (fun z=>nomatch z) h|bl y=>cases (show u=ybB y from r);exact yaz PySem.W.kitx_bool I.kIn True.intro e (fun z=>nomatch z) h|int i=>obtain⟨t,q⟩:=(show ∃t,u=ybz i t from r);cases q;exact yaz PySem.W.kitx_int I.kIn True.intro e (fun z=>nomatch z) h
 |str y=>obtain⟨t,q⟩:=(show ∃t,u=ybA y t from r);cases q;exact yaz PySem.W.kitx_str I.kIn True.intro e (fun z=>nomatch z) h
 |flt y=>obtain⟨t,q⟩:=(show ∃t,u=ycv y t from r);cases q;exact yaz PySem.W.kitx_float I.kIn True.intro e (fun z=>nomatch z) h
 |@lst a xs d=>
  cases (show u=yN a from r);obtain⟨_,_,n,_,f⟩:=(show ObjOk X.prog X.w H s.heap a (.lst xs) from I.hok a _ d);exact yaz ydq I.kIn ⟨_,f,rfl⟩ e (fun z=>nomatch z) h
 |@frz a ob xs d=>
  cases (show u=yN a from r);obtain⟨_,_,_,n,_,f⟩:=(show ObjOk X.prog X.w H s.heap a (.frz ob (.lst xs)) from I.hok a _ d);exact yaz ydq I.kIn ⟨_,f,rfl⟩ e (fun z=>nomatch z) h
 |@tup a xs d=>
  cases (show u=yN a from r);obtain⟨_,_,_,p,_⟩:=(show ObjOk X.prog X.w H s.heap a (.tup xs) from I.hok a _ d);obtain⟨o,f,g,_⟩:=p;exact yaz ydr I.kIn ⟨o,f,g⟩ e (fun z=>nomatch z) h
 |@dK a kvs d=>
  cases (show u=yN a from r);obtain⟨_,_,vs,_,p⟩:=(show ObjOk X.prog X.w H s.heap a (.dK kvs) from I.hok a _ d);obtain⟨o,es,ep,f,g,_⟩:=p;exact yaz yds I.kIn ⟨o,f,g.1⟩ e (fun z=>nomatch z) h
 |@dT a kvs d=>
  cases (show u=yN a from r);obtain⟨_,_,xs,_,o,es,ep,f,g,_⟩:=(show ObjOk X.prog X.w H s.heap a (.dT kvs) from I.hok a _ d);exact yaz yds I.kIn ⟨o,f,g.1⟩ e (fun z=>nomatch z) h
 |@ins a C dx fs d cl ha hn htk hm=>
  cases (show u=yN a from r);obtain⟨mA,O,_⟩:=zj9 I.hok d;obtain⟨od,J,_⟩:=O.look;exact yaz (PySem.W.kitx_own (cl.get _) cl.hd ha hn htk hm) I.kIn J e (fun z=>nomatch z) h
end
structure Room(k:Nat)(A:aA):Prop where
 hd:A.handled=ab
 dp:A.depth+3*k+5<recursionLimit
 un:A.units+16*k+200<aF
 gd:A.guards=aa []
theorem Room.mono{k:Nat}(r:Room k A)(h:j<=k):Room j A:=⟨r.hd,by have:=r.dp;omega,by have:=r.un;omega,r.gd⟩
theorem Room.deeper{k:Nat}(r:Room (k+1) A)(env:Env):Room k (A.deeper env) :=
 ⟨r.hd,by have:=r.dp;show A.depth+1+3*k+5<_;omega,by have:=r.un;show A.units+3+16*k+200<_;omega,r.gd⟩
theorem zo7:(A.under (.builtin "type.__call__" ⟨.ref C::us,kw⟩)).depth=A.depth+1:=by
 first | rfl | simp[ycE,Code.weight,Code.isCreation,Code.isGuard,Code.isCaller,Code.frames,Code.isFrame,guardIds]
theorem zo6:(A.under (.builtin "type.__call__" ⟨.ref C::us,kw⟩)).units=A.units+1:=by
 first | rfl | simp[ycE,Code.cUnits,Code.frames,Code.isFrame]
theorem Room.make{k:Nat}(r:Room (k+1) A)(C:ad)(us:List af)(K:List (ae×af)):Room k (A.under (.builtin "type.__call__" ⟨.ref C::us,K⟩)) :=
 ⟨r.hd,by have:=r.dp;rw[zo7];omega,by have:=r.un;rw[zo6];omega,r.gd⟩
theorem Room.depth{k:Nat}(r:Room k A):A.depth<recursionLimit:=by have:=r.dp;omega
theorem Room.units{k:Nat}(r:Room k A):A.units+64<aF:=by have:=r.un;omega
def tNil:TA:=fun _ H Q=>Q [] H
def tCons(T:TE)(t:TA):TA:=fun σ H Q=>T σ H fun x H1=>t σ H1 fun xs H2=>Q (x::xs) H2
variable{t:TA}
section
variable{e:ak}
theorem zgA:PA X [] tNil:=fun _ _ _ _ H Q I h=>Calls.spliced_nil ⟨[],H,I,.nil,h⟩
theorem zcT(ha:PE X e te)(hr:PA X es t)(hs:autoParam (au (e::es) X.env=(ag,eval e X.env)::au es X.env) AutoP.a3._auto_1):PA X (e::es) (tCons te t):=by
 intro p pins s σ H Q I h;rw[hs];show wpAny _ _ (spliced ((ag,eval e X.env)::aB p (au es X.env))) _ _ s;refine Calls.spliced_cons (thn (ha pins s σ H _ I h) ?_);rintro u s1 ⟨x,d,b,r,a⟩;refine thn (hr p pins s1 σ d _ b a) ?_;rintro us s2 ⟨xs,c,i,r2,q⟩;exact⟨x::xs,c,i,.cons r r2,q⟩
def tTup(t:TA):TE:=fun σ H Q=>t σ H fun xs H1=>xs.length<=sizeLine/\∀p,H1 p=ab->Q (.ref p) (upd H1 p (.tup xs))
def tLst(t:TA):TE:=fun σ H Q=>t σ H fun xs H1=>xs.length<=sizeLine/\∀p,H1 p=ab->Q (.ref p) (upd H1 p (.lst xs))
theorem pe_tup {x1} (h:PA X es t):PE X (.Tuple es x1 pos) (tTup t):=by
 intro pins s σ H Q I c;refine wpAny_Tuple_spliced (thn (h pos pins s σ H _ I c) fun us s1 ⟨xs,a,i,r,z,q⟩=>⟨by rw[<- r.length];exact z,?_⟩);have d:a s1.heap.objs.size=ab:=i.hok.fresh (yh _);refine⟨.ref s1.heap.objs.size,upd a s1.heap.objs.size (.tup xs),i.laid (t':=s1.toks) (fun b u e=>yt _ e) (yh _) ?_,rfl,q _ d⟩;exact⟨z,us,r,⟨_,yC _ rfl,rfl,_,rfl⟩,_,yC _ rfl,rfl⟩
theorem zuj(h:PA X es t):PE X (.List es pos) (tLst t):=by
 intro pins s σ H Q I c;refine wpAny_List_spliced (thn (h pos pins s σ H _ I c) fun us s1 ⟨xs,a,i,r,z,q⟩=>⟨by rw[<- r.length];exact z,?_⟩);have d:a s1.heap.objs.size=ab:=i.hok.fresh (yh _);refine⟨.ref s1.heap.objs.size,upd a s1.heap.objs.size (.lst xs),i.laid (t':=s1.toks) (fun b u e=>yt _ e) (yh _) ?_,rfl,q _ d⟩;exact⟨z,us,0,r,yC _ rfl⟩
end
abbrev Sp:=List V->Hp->VK->XK->Prop
abbrev CXT:=List Env->Hp->aj->XK->af->aj->Prop
structure Env0(P:ap)(w:al)(K:ye)(mg:ae->Option af)(base:ax)(A:aA)(outer:List Env)(s:aj)(H:Hp):Prop where
 frames:A.frames=aa outer
 mod:Mod K mg base
 bs:∀b o,base.get? b=aa o->s.heap.get? b=aa o/\H b=ab
 bsz:base.objs.size<=s.heap.objs.size
 funs:s.heap.FunFrames base outer
 frf:∀b∈frs outer,H b=ab
 hok:HOk P w H s.heap
 bare:a9 s.gens
def CE(outer:List Env)(P:ap)(w:al)(H:Hp)(s:aj)(Q:VK)(u:af)(S:aj):Prop :=
 ∃v H',S.os=s.os/\a9 S.gens/\Un (frs outer) [] H H' s.heap S.heap/\HOk P w H' S.heap/\RelV v u/\Q v H'
def CR(CX:CXT)(outer:List Env)(P:ap)(w:al)(H:Hp)(s:aj)(Q:VK)(E:XK)(r:bA)(S:aj):Prop :=
 match r with
 |.ok (.ret u)=>CE outer P w H s Q u S|.ok _=>False|.error e=>CX outer H s E e S
structure FnOk(P:ap)(w:al)(K:ye)(mg:ae->Option af)(base:ax)(CX:CXT)(k:Nat)(f:ad)(fd:aH)(ps:List ae)(sp:Sp):Prop where
 len:∀vs H Q E,sp vs H Q E->vs.length=ps.length
 run:∀(A:aA)(outer:List Env)(s:aj)(H:Hp)(args:Args)(us:List af)(vs:List V)(Q:VK)(E:XK),Room k A->Env0 P w K mg base A outer s H->bC s fd args (ps.zip us)->Vals vs us->sp vs H Q E →
  codeAny (ao P w) A (.call (.ref f) args) (CR CX outer P w H s Q E) s
variable{mg:ae->Option af}{base:ax}{CX:CXT}{fd:aH}{ps:List ae}{sp:Sp}
theorem FnOk.imp{w:al}{k:Nat}{f:ad}{S:Sp}(F:FnOk P w K mg base CX k f fd ps sp)(h:∀vs H Q E,S vs H Q E->sp vs H Q E):FnOk P w K mg base CX k f fd ps S :=
 ⟨fun vs H Q E q=>F.len vs H Q E (h _ _ _ _ q),fun A outer s H args us vs Q E hr a b hv hs=>F.run A outer s H args us vs Q E hr a b hv (h _ _ _ _ hs)⟩
variable{outer:List Env}
theorem Env0.make{w:al}(e:Env0 P w K mg base A outer s H)(C:ad)(us:List af)(k:List (ae×af)) :
  Env0 P w K mg base (A.under (.builtin "type.__call__" ⟨.ref C::us,k⟩)) outer s H:=⟨by first | exact e.frames | (simpa [ycE,Code.envs,Code.isFrame,pushEnvs] using e.frames),e.mod,e.bs,e.bsz,e.funs,e.frf,e.hok,e.bare⟩
section
theorem Inv.env0(I:Inv X pins σ H s):Env0 X.prog X.w X.K X.mg X.base X.A X.stack s H :=
 ⟨I.ok.frames,I.ok.mod,I.bs,yO I.ok.bsz I.sz,I.stack,I.stkFree,I.hok,I.bare⟩
theorem Inv.after{Q:VK}(I:Inv X pins σ H s)(h:CE X.stack X.prog X.w H s Q u s'):EP X pins σ Q u s':=by
 obtain⟨v,H',os,bare,un,hok,r,q⟩:=h;obtain⟨a,g,d,t,o⟩:=s';obtain rfl:o=s.os:=os;exact⟨v,H',I.call (h':=a) (g':=g) (d':=d) (t':=t) (ch:=[]) un hok bare (fun b z=>absurd z (by simp)),r,q⟩
end
def tCall(sp:Sp)(d:List V)(E:XK)(t:TA):TE:=fun σ H Q=>t σ H fun vs H1=>sp (vs++d) H1 Q E
def tMeth(C:ad)(m:ae)(sp:Sp)(d:List V)(E:XK)(T:TE)(t:TA):TE:=fun σ H Q=>T σ H fun x H1=>∃a dx fs,x = .ref a/\H1 a=aa (.ins C dx fs)/\fs.lookup m=ab ∧
 t σ H1 fun vs H2=>sp (x::(vs++d)) H2 Q E
def tMake(C:ad)(sp:Sp)(d:List V)(E:XK)(t:TA):TE:=fun σ H Q=>t σ H fun vs H1=>∀x dx,H1 x=ab->H1 dx=ab->dx≠x →
 sp (.ref x::(vs++d)) (upd (upd H1 dx (.own x)) x (.ins C dx [])) (fun v H2=>v = .non/\Q (.ref x) H2) E
def Binds(K:ye)(fd:aH)(ps:List ae)(ds:List af):Prop :=
 ∀(s:aj)(us:List af),K.In s.heap->(us++ds).length=ps.length->bC s fd ⟨us,[]⟩ (ps.zip (us++ds))
theorem Binds.all(h:∀us:List af,us.length=ps.length->bindArgs fd ⟨us,[]⟩=pure (ps.zip us)):Binds K fd ps []:=fun s us _ hl=>by
 rw[yas]at hl ⊢;exact .of_eq (h us hl)
def zif(CX:CXT)(X:Cx)(E:XK):Prop:=∀(pins:List (ad×av))(σ : St)(H:Hp)(s:aj)(e:af)(s':aj),Inv X pins σ H s->CX X.stack H s E e s'->X.xe e s'
variable{apos:ay}{vs:List V}
section
variable{k:Nat}{f:ad}{dvs:List V}{ds:List af}{E:XK}{e o:ak}
theorem zp4{Q:VK}(F:FnOk X.prog X.w X.K X.mg X.base CX k f fd ps sp)(hr:Room k X.A)(c:Binds X.K fd ps ds)(hd:Vals dvs ds)(b:zif CX X E)(I:Inv X pins σ H s)(r:Vals vs us)(h:sp (vs++dvs) H Q E):wpAny (ao X.prog X.w) X.A (call (.ref f) us) (EP X pins σ Q) X.xe s:=by
 have r2:Vals (vs++dvs) (us++ds):=r.append hd;have hl:(us++ds).length=ps.length:=by rw[<- r2.length];exact F.len _ _ _ _ h
 refine wpAny_call (b8 (F.run X.A X.stack s H ⟨us,[]⟩ (us++ds) (vs++dvs) Q E hr I.env0 (c s us I.kIn hl) r2 h) fun r S a=>?_);cases r with
 |error e=>exact b pins σ H s e S I a|ok d=>
  cases d with
  |ret u=>exact I.after a|next=>exact False.elim a|brk=>exact False.elim a|cont=>exact False.elim a
theorem zvJ(F:FnOk X.prog X.w X.K X.mg X.base CX k f fd ps sp)(hr:Room k X.A)(g:Gl X x)(hm:X.mg x=aa (.ref f))(d:yaK X.K (.ref f)=ac)(l:Binds X.K fd ps ds)(hd:Vals dvs ds)(c:zif CX X E)(ha:PA X (e::es) t)(b:autoParam ((x==("__debug__" : ae))=ag) AutoP.a1._auto_1)(j:autoParam (au (e::es) X.env=(ag,eval e X.env)::au es X.env) AutoP.a3._auto_1)(a:autoParam ((aB pos (au es X.env)).any (·.1)=ag) AutoP.a3._auto_1) : PE X (.Call (.Name x p) (e::es) [] pos) (tCall sp dvs E t):=by
 intro pins s σ H Q I h;refine bV (zmK I g hm ?_ b);refine ycF (h₀ := X.base) I.ok.mod.kin d (thn (ha pos pins s σ H _ I h) fun us s1 ⟨vs,m,i,r,q⟩=>⟨i.kIn,?_⟩) j a;exact zp4 F hr l hd c i r q
theorem zvE(v:PE X o ta)(c:Cls X.K C)(hm:Meth X.K C m f)(F:FnOk X.prog X.w X.K X.mg X.base CX k f fd ps sp)(hr:Room k X.A)(w:Binds X.K fd ps ds)(hd:Vals dvs ds)(n:zif CX X E)(ha:PA X (e::es) t)
  (b:autoParam (au (e::es) X.env=(ag,eval e X.env)::au es X.env) AutoP.a3._auto_1) (d:autoParam ((aB pos (au es X.env)).any (·.1)=ag) AutoP.a3._auto_1)
  (p:autoParam (eval (.Call (.Attribute o m apos) (e::es) [] pos) X.env=(do
   let O <- eval o X.env
   bf apos.atName
   let (f,first) <- holding [O] (getMethod O m pl)
   callWith pos f first (aB pos (au (e::es) X.env)) (aL pos (aM [] X.env)))) AutoP.a3._auto_1) :
  PE X (.Call (.Attribute o m apos) (e::es) [] pos) (tMeth C m sp dvs E ta t):=by
 intro pins s σ H Q I h
 refine ydt (pl:=pl) (thn (v pins s σ H _ I h) fun u s1 ⟨x,z,g,R,a,dx,fs,ex,y,l,q⟩=>?_) p
 subst ex
 obtain rfl:u=yN a:=R
 refine ziV g y c hm l ?_
 refine ycF (first:=[.ref a]) (h₀ := X.base) I.ok.mod.kin hm.kp (thn (ha pos pins s1 σ z _ g q) fun us s2 ⟨vs,A,i,r,j⟩=>⟨i.kIn,?_⟩) b d
 exact zp4 (us := .ref a::us) (vs := .ref a::vs) F hr w hd n i (.cons rfl r) j
theorem ztn(e:PE X o ta)(c:Cls X.K C)(hm:Meth X.K C m f)(F:FnOk X.prog X.w X.K X.mg X.base CX k f fd ps sp)(hr:Room k X.A)(g:Binds X.K fd ps ds)(hd:Vals dvs ds)(b:zif CX X E)
  (d:autoParam (eval (.Call (.Attribute o m apos) [] [] pos) X.env=(do
   let O <- eval o X.env
   bf apos.atName
   let (f,first) <- holding [O] (getMethod O m pl)
   callWith pos f first (aB pos (au [] X.env)) (aL pos (aM [] X.env)))) AutoP.a3._auto_1) :
  PE X (.Call (.Attribute o m apos) [] [] pos) (tMeth C m sp dvs E ta tNil):=by
 intro pins s σ H Q I h
 refine ydt (pl:=pl) (thn (e pins s σ H _ I h) fun u s1 ⟨x,n,i,r,a,dx,fs,ex,j,l,q⟩=>?_) d
 subst ex
 obtain rfl:u=yN a:=r
 refine ziV i j c hm l ?_
 exact PySem.W.callWith_K0 (first:=[.ref a]) i.kIn hm.kp (zp4 (us:=[.ref a]) (vs:=[.ref a]) F hr g hd b i (.cons rfl .nil) q)
structure Mk(K:ye)(C f:ad):Prop where
 makes:ybG K C=ac
 init:yam K (.ref C) "__init__" = aa (aa (.ref f))
 fn:yP K (.ref f)=ac
 kp:yaK K (.ref C)=ac
theorem zs4{Q:VK}(M:Mk X.K C f)(F:FnOk X.prog X.w X.K X.mg X.base CX k f fd ps sp)(hr:Room (k+1) X.A)(d:Binds X.K fd ps ds)(hd:Vals dvs ds)(c:zif CX X E)(I:Inv X pins σ H s)(r:Vals vs us)(h:∀x dx,H x=ab->H dx=ab->dx≠x->sp (.ref x::(vs++dvs)) (upd (upd H dx (.own x)) x (.ins C dx [])) (fun v H2=>v = .non/\Q (.ref x) H2) E) : wpAny (ao X.prog X.w) X.A (call (.ref C) us) (EP X pins σ Q) X.xe s:=by
 have b:=h (s.heap.objs.size+1) s.heap.objs.size (I.hok.fresh (ybn _)) (I.hok.fresh (yh _)) (yG (ya6 _));have i:=Inv.made (C:=C) I;have r2:Vals (V.ref (s.heap.objs.size+1)::(vs++dvs)) (yN (s.heap.objs.size+1)::(us++ds)) := .cons rfl (r.append hd);have hl:(yN (s.heap.objs.size+1)::us++ds).length=ps.length:=by
  have e:=r2.length;rw[F.len _ _ _ _ b]at e;exact e.symm
 refine wpAny_call (ztF (f:=f) I.kIn M.makes M.init (beq_iff_eq.mp M.fn) (b8 (F.run _ X.stack _ _ ⟨yN (s.heap.objs.size+1)::us,[]⟩ (yN (s.heap.objs.size+1)::(us++ds)) _ _ E (hr.make C us [])
  (i.env0.make C us []) (d _ (yN (s.heap.objs.size+1)::us) i.kIn hl) r2 b) fun r S a=>?_))
 cases r with
 |error e=>exact c pins σ _ _ e S i a|ok g=>
  cases g with
  |ret u=>
   obtain⟨v,H',l,R,j,q⟩:=i.after a;subst j;exact⟨R,⟨V.ref (s.heap.objs.size+1),H',l,rfl,q⟩⟩
  |next=>exact False.elim a|brk=>exact False.elim a|cont=>exact False.elim a
theorem zvF(M:Mk X.K C f)(F:FnOk X.prog X.w X.K X.mg X.base CX k f fd ps sp)(hr:Room (k+1) X.A)(d:Gl X x)(hm:X.mg x=aa (.ref C))(j:Binds X.K fd ps ds)(hd:Vals dvs ds)(c:zif CX X E)(ha:PA X (e::es) t)(b:autoParam ((x==("__debug__" : ae))=ag) AutoP.a1._auto_1)(g:autoParam (au (e::es) X.env=(ag,eval e X.env)::au es X.env) AutoP.a3._auto_1)(a:autoParam ((aB pos (au es X.env)).any (·.1)=ag) AutoP.a3._auto_1) : PE X (.Call (.Name x p) (e::es) [] pos) (tMake C sp dvs E t):=by
 intro pins s σ H Q I h;refine bV (zmK I d hm ?_ b);refine ycF (h₀ := X.base) I.ok.mod.kin M.kp (thn (ha pos pins s σ H _ I h) fun us s1 ⟨vs,l,i,r,q⟩=>⟨i.kIn,?_⟩) g a;exact zs4 M F hr j hd c i r q
end
def PK(X:Cx)(k:List aV)(t:TA):Prop :=
 ∀(pos:ay)(pins:List (ad×av))(s:aj)(σ : St)(H:Hp)(Q:List V->Hp->Prop),Inv X pins σ H s->t σ H Q->wpAny (ao X.prog X.w) X.A (evalAll ((aL pos (aM k X.env)).map (·.2))) (AP X pins σ Q) X.xe s
section
variable{k:Nat}{f:ad}{ks:List ae}{E:XK}{kpos:ay}{e o:ak}{kws:List aV}{tk:TA}{nm:Option ae}
theorem pk_nil:PK X [] tNil:=fun _ _ _ _ H Q I h=>wpAny_evalAll_nil ⟨[],H,I,.nil,h⟩
theorem zvy(ha:PE X e te)(hr:PK X kws t):PK X (⟨nm,e,kpos⟩::kws) (tCons te t):=by
 intro p pins s σ H Q I h
 show wpAny _ _ (evalAll ((do let v <- eval e X.env;bf p;pure v)::(aL p (aM kws X.env)).map (·.2))) _ _ s
 refine wpAny_evalAll_cons (ai (thn (ha pins s σ H _ I h) fun u s1 ⟨x,d,b,r,a⟩=>ai (bx (aw ?_))))
 refine thn (hr p pins s1 σ d _ b a) ?_
 rintro us s2 ⟨xs,c,i,r2,q⟩
 exact⟨x::xs,c,i,.cons r r2,q⟩
variable{g:List af->List af->List af}{gV:List V->List V->List V}
end
structure FnScope(N P:List ae)(sc:aG):Prop where
 kind:sc.kind = .function
 co:sc.isCoroutine=ag
 gen:sc.isGenerator=ag
 nd:N.Nodup
 pre:N.take P.length=P
 par:∀x∈P,sc.names.lookup x=aa .local∨sc.names.lookup x=aa .cell
 nofree:∀y∈sc.names,y.2 ≠ .free
theorem zlM{kindOf:ae->Option bD}{x:ae}:∀{binds:List (ae×af)}{m:ae->Option af},(∀v,(x,v)∉binds)->bindL kindOf binds m x=m x
 |[],_,_=>rfl| (n,v)::r,m,h=>by
  unfold bindL;rw[zlM fun w H=>h w (yag _ H)];split
  ·have:x≠n:=by rintro rfl;exact h v yar
   simp[this]
  ·rfl
theorem zlO{kindOf:ae->Option bD}{x:ae}:∀{binds:List (ae×af)}{m:ae->Option af},(∀v,(x,v)∉binds)->bindC kindOf binds m x=m x
 |[],_,_=>rfl| (n,v)::r,m,h=>by
  unfold bindC;rw[zlO fun w H=>h w (yag _ H)];split
  ·rfl
  ·have:x≠n:=by rintro rfl;exact h v yar
   simp[this]
theorem zlN{kindOf:ae->Option bD}{x:ae}{v:af}:∀{P:List ae}{vs:List af}{i:Nat}{m:ae->Option af},P.Nodup->P[i]?=aa x->vs[i]?=aa v->kindOf x=aa .local →
  bindL kindOf (P.zip vs) m x=aa v
 |[],_,_,_,_,h,_,_=>by simp at h|_::_,[],_,_,_,_,h,_=>by simp at h|p::P,w::vs,0,m,nd,h1,h2,H=>by
  simp at h1 h2;subst h1;subst h2;show bindL kindOf ((p,w)::P.zip vs) m p=_;unfold bindL;rw[zlM fun v hv=>(ya7.mp nd).1 (ycG hv).1,if_pos H];simp
 |p::P,w::vs,i+1,m,nd,h1,h2,H=>by
  show bindL kindOf ((p,w)::P.zip vs) m x=_;unfold bindL;exact zlN (i:=i) (ya7.mp nd).2 (by simpa using h1) (by simpa using h2) H
theorem zlP{kindOf:ae->Option bD}{x:ae}{v:af}:∀{P:List ae}{vs:List af}{i:Nat}{m:ae->Option af},P.Nodup->P[i]?=aa x->vs[i]?=aa v->kindOf x≠aa .local →
  bindC kindOf (P.zip vs) m x=aa v
 |[],_,_,_,_,h,_,_=>by simp at h|_::_,[],_,_,_,_,h,_=>by simp at h|p::P,w::vs,0,m,nd,h1,h2,H=>by
  simp at h1 h2;subst h1;subst h2;show bindC kindOf ((p,w)::P.zip vs) m p=_;unfold bindC;rw[zlO fun v hv=>(ya7.mp nd).1 (ycG hv).1,if_neg H];simp
 |p::P,w::vs,i+1,m,nd,h1,h2,H=>by
  show bindC kindOf ((p,w)::P.zip vs) m x=_;unfold bindC;exact zlP (i:=i) (ya7.mp nd).2 (by simpa using h1) (by simpa using h2) H
def start(N:List ae)(vs:List V):St:=vs.map aa++yn (N.length-vs.length) ab
def zpu(CX:CXT)(P:ap)(w:al)(K:ye)(mg:ae->Option af)(base:ax)(N:List ae)(qual:ae)(scope:aG)(f:ad)(c:af)(A:aA)(outer:List Env)(s:aj)(H:Hp)(E:XK):Cx where
 prog:=P
 w:=w
 K:=K
 mg:=mg
 base:=base
 A:=A.deeper (aN qual scope s.heap.objs.size f c)
 N:=N
 s₀ := s
 H₀ := H
 env:=aN qual scope s.heap.objs.size f c
 outer:=outer
 stack:=aN qual scope s.heap.objs.size f c::outer
 ex:=[]
 calm:=ac
 fn:=fun _=>ac
 pn:=[]
 xe:=fun e s'=>wpAny (ao P w) (A.deeper (aN qual scope s.heap.objs.size f c)) (leaving (aN qual scope s.heap.objs.size f c) e) (fun _ S=>CX outer H s E e S) (fun a S=>CX outer H s E a S) s'
theorem zon{sc:aG}(h:sc.names.lookup x=aa .cell):∃c,(cellsFrom n sc.names []).lookup x=aa c:=by
 have q:=ydu sc.names n [] (.inl h);exact ydv.mp q
variable{qual:ae}{scope:aG}
theorem zrK{w:al}{f:ad}{C:af}{s1:aj}{E:XK}(S:FnScope N ps scope)(hd:A.handled=ab)(g:Env0 P w K mg base A outer s H)(hl:vs.length=ps.length)(r:Vals vs us)(x:InCallC s s.heap.objs.size (bindL (aN qual scope s.heap.objs.size f C).kindOf (ps.zip us) fun _=>ab) (cellsFrom (s.heap.objs.size+1) scope.names []) (bindC (aN qual scope s.heap.objs.size f C).kindOf (ps.zip us) fun _=>ab) s1) : Inv (zpu CX P w K mg base N qual scope f C A outer s H E) [] (start N vs) H s1:=by
 have F:ps.length<=N.length:=by have:=congrArg ya8 S.pre;rw[ya9]at this;omega
 obtain⟨t,tk,rfl,D⟩:=x.done;have j:∀b:ad,b∉(zpu CX P w K mg base N qual scope f C A outer s H E).ex:=fun b z=>absurd (show b∈([]:List ad) from z) (by simp);refine⟨⟨g.mod,S.kind,rfl,rfl,yh _,fun y z c t d=>?_,fun y l=>?_,fun y c _ h=>?_,fun _=>hd,Around.frames_deeper g.frames,.inr ⟨rfl,rfl⟩,fun b z=>absurd z (j b),g.bs,g.bsz,fun b _ _=>j b,fun b z=>absurd z (j b),g.funs,g.frf⟩,
  rfl,g.bare,Un.kept D,⟨_,x.toInCall.ns,fun i y v t d G=>?_⟩,fun y c h=>⟨_,x.cell y c h⟩,g.hok.fresh (yh _),fun y c h=>?_,fun p o=>absurd (show p∈([]:List (ad×av)) from o) (by simp),g.hok.kept D,?_⟩
 ·exact name_of_addr x.apart (ybH t) (ybH d)
 ·have l:scope.names.lookup y=aa .cell∨scope.names.lookup y=aa .free:=l;rcases l with l|l
  ·exact zon l
  ·exact absurd rfl (S.nofree _ (ybH l))
 ·exact ybk (x.above y c (ybH h))
 ·have hi:i<vs.length:=by
   unfold start at d;by_cases hi:i<vs.length
   ·exact hi
   ·rw[yan (by simpa using hi)]at d;rw[ycH]at d;split at d <;> cases d
  have ha:vs[i]?=aa v:=by
   unfold start at d;rw[yab (by simpa using hi),yW]at d;cases e:vs[i]? with
   |none=>rw[e]at d;cases d|some a=>rw[e]at d;cases d;rfl
  obtain⟨u,B,R⟩:=r.get ha;have o:ps[i]?=aa y:=by
   rw[<- S.pre,ydw (by omega)];exact t
  have m:ps.Nodup:=by rw[<- S.pre];exact S.nd.sublist (List.take_sublist _ _)
  refine⟨u,R,?_⟩;rcases S.par y (yai o) with k|k
  ·exact .inl ⟨k,zlN m o B k⟩
  ·obtain⟨c,e⟩:=zon (n:=s.heap.objs.size+1) k;refine .inr ⟨.inl k,c,e,?_⟩;have q:=x.cell y c e;rw[zlP m o B (by show scope.names.lookup y≠_;rw[k];decide)]at q;exact q
 ·exact g.hok.fresh (ybk (x.above y c (ybH h)))
 ·unfold start;show _=N.length;rw[yI,yj,ybo];omega
theorem fn_of{w:al}{k:Nat}{f:ad}{p:Arguments}{D kV doc pm cdv ct oc:af}{an od:Option ad}
  {osl:Array (Option af)} (L:K.lookup f=aa ⟨oc,od,.func (ybp name qual p body scope D kV doc pm an cdv ct),osl⟩) (j:ycI K cdv qual=ac) (S:FnScope N ps scope)
  (len:∀vs H Q E,sp vs H Q E->vs.length=ps.length)
  (c:∀(A:aA)(outer:List Env)(s:aj)(H:Hp)(vs:List V)(Q:VK)(E:XK),Room k (A.deeper (aN qual scope s.heap.objs.size f cdv))->sp vs H Q E →
   ∃t,PSs (zpu CX P w K mg base N qual scope f cdv A outer s H E) body t/\t { nx:=fun _ H'=>Q .non H',rt:=Q } (start N vs) H) :
  FnOk P w K mg base CX (k+1) f (ybp name qual p body scope D kV doc pm an cdv ct) ps sp:=by
 refine⟨len,fun A outer s H args us vs Q E hr g M r d=>?_⟩;have hl:=len _ _ _ _ d;have m:K.In s.heap:=g.mod.kin.keeps fun b o e=>(g.bs b o e).1;have l:s.heap.NoLimit:=g.mod.nolimit.keeps fun b o e=>(g.bs b o e).1;have h:∀y∈ps.zip us,scope.names.lookup y.1=aa .local∨(scope.names.lookup y.1=aa .cell/\((cellsFrom (s.heap.objs.size+1) scope.names []).lookup y.1).isSome=ac):=fun⟨n,v⟩ z=>by
  rcases S.par n (ycG z).1 with q|q
  ·exact .inl q
  ·exact .inr ⟨q,ydu _ _ _ (.inl q)⟩
 refine codeAny_call_function hr.depth (m _ _ L) rfl S.co S.gen rfl (PySem.W.codeRec_of m j) (M _ _ _ _ ?_);refine wpAny_newFunctionEnv_cells S.kind h fun env G s1 x=>?_;subst G;refine⟨l.keeps x.toInCall.keep,codeAny_func ?_⟩;obtain⟨t,B,C⟩:=c A outer s H vs Q E (hr.deeper _) d;have I:Inv (zpu CX P w K mg base N qual scope f cdv A outer s H E) [] (start N vs) H s1:=zrK S hr.hd g hl r x;refine aJ (B [] s1 (start N vs) H _ I C) (fun O i hs=>?_) fun e i hs=>hs;have F:∀{a:St}{H':Hp}{v:V}{u:af},Inv (zpu CX P w K mg base N qual scope f cdv A outer s H E) [] a H' i->RelV v u->Q v H'->CE outer P w H s Q u i :=
  fun {a H' v u} J R q=>⟨v,H',J.os,J.bare,J.base,J.hok,R,q⟩
 cases O with
 |ret u=>
  obtain⟨v,a,H',J,R,q⟩:=hs;exact F J R q
 |next=>
  obtain⟨a,H',J,q⟩:=hs;exact F (v:=V.non) (u:=yaH) J rfl q
 |brk=>
  obtain⟨_,_,_,q⟩:=hs;exact False.elim q
 |cont=>
  obtain⟨_,_,_,q⟩:=hs;exact False.elim q
section
variable{e:ak}{id T:String}{r:List V->Hp->VK->Prop}
def tCB(r:List V->Hp->VK->Prop)(t:TA):TE:=fun σ H Q=>t σ H fun vs H1=>r vs H1 Q
theorem znK(f:CallR X (.builtin id) r)(c:Gl X x)(hm:X.mg x=ab)(hv:aZ x=aa (.builtin id))(ha:PA X (e::es) t)(hn:autoParam (x ≠ "__name__") AutoP.a1._auto_1)(b:autoParam ((x==("__debug__" : ae))=ag) AutoP.a1._auto_1)(d:autoParam (au (e::es) X.env=(ag,eval e X.env)::au es X.env) AutoP.a3._auto_1)(a:autoParam ((aB pos (au es X.env)).any (·.1)=ag) AutoP.a3._auto_1):PE X (.Call (.Name x p) (e::es) [] pos) (tCB r t):=by
 intro pins s σ H Q I h;refine bV (zeg I c hm hv ?_ hn b);exact PyProof.Rows.callWith_builtin1 (thn (ha pos pins s σ H _ I h) fun us s1 ⟨vs,g,i,R,q⟩=>f pins s1 σ g vs us Q i R q) d a
theorem zkJ(f:CallR X (.type T) r)(c:Gl X x)(hm:X.mg x=ab)(hv:aZ x=aa (.type T))(ha:PA X (e::es) t)(hn:autoParam (x ≠ "__name__") AutoP.a1._auto_1)(b:autoParam ((x==("__debug__" : ae))=ag) AutoP.a1._auto_1)(d:autoParam (au (e::es) X.env=(ag,eval e X.env)::au es X.env) AutoP.a3._auto_1)(a:autoParam ((aB pos (au es X.env)).any (·.1)=ag) AutoP.a3._auto_1):PE X (.Call (.Name x p) (e::es) [] pos) (tCB r t):=by
 intro pins s σ H Q I h;refine bV (zeg I c hm hv ?_ hn b);exact PyProof.Rows.callWith_type1 (thn (ha pos pins s σ H _ I h) fun us s1 ⟨vs,g,i,R,q⟩=>f pins s1 σ g vs us Q i R q) d a
end
end L2
namespace HT
open PySem PyProof.Rows
section
open PySem.SeqAt
open PySem.AutoSeq1 (wpAny_loadPart')
open PySem.MeetsSeq PySem.MeetsSeq2 PySem.MeetsSeq3
end
variable{t:ad}{Q:af->aj->Prop}{sl:ad}{vl vu:af}{hi:Option Int}
section
variable{prog:ap}{w:al}{A:aA}{E:af->aj->Prop}{s:aj}
theorem cat_tup{b:ad}{vs ws:List af}(i:IsTup s.heap t vs.toArray)(j:IsTup s.heap b ws.toArray)(hv:vs≠[])
  (l:ws=[]->Q (.ref t) s) (k:ws≠[]->Q (.ref s.heap.objs.size) { s with heap:=s.heap.push { cls := .type "tuple", data := .seq (vs++ws).toArray } })
  (hsz:vs.length+ws.length<=sizeLine):wpAny (ao prog w) A (aE .Add (.ref t) (.ref b)) Q E s:=by
 obtain⟨⟨cls,D,data,sl⟩,f,g,n,hd⟩:=id i;obtain⟨⟨C,d,data2,S⟩,h,a,N,H⟩:=id j;simp only at g hd a H;subst g hd a H;have e:vs.toArray++ws.toArray=(vs++ws).toArray:=by simp
 by_cases c:ws=[]
 ·exact concat_meets ⟨_,f,rfl⟩ ⟨_,h,rfl⟩ cf cg ycJ ycK (ycL _ _)
   (tuple_addW1 t b vs.toArray ws.toArray n N D d sl S (by simpa using hv) (by simp[c])) ⟨f,h,l c⟩
 ·refine concat_meets ⟨_,f,rfl⟩ ⟨_,h,rfl⟩ cf cg ycJ ycK (ycL _ _)
   (tuple_addW2 t b vs.toArray ws.toArray n N D d sl S (by simpa using hv) (by simpa using c) (by rw[yM,yM];exact hsz)) ⟨f,h,?_⟩
  rw[e];exact k c
def sIx(n d:Nat):Option Int->Nat
 |none=>d|some v=>if v<0 then (v+(n:Int)).toNat else min v.toNat n
theorem sIx_none(n d:Nat):sIx n d ab=d:=rfl
theorem sIx_nat(n d k:Nat):sIx n d (aa (k:Int))=min k n:=by
 show (if (k:Int)<0 then ((k:Int)+(n:Int)).toNat else min (k:Int).toNat n)=min k n;rw[if_neg (by omega),yaA]
theorem sIx_le(n d:Nat)(hd:d<=n)(o:Option Int):sIx n d o<=n:=by
 cases o with
 |none=>exact hd|some v=>
  show (if v<0 then (v+(n:Int)).toNat else min v.toNat n)<=n;by_cases hv:v<0
  ·rw[if_pos hv];omega
  ·rw[if_neg hv];exact Nat.min_le_right _ _
theorem zsl(v:Int)(n d:Nat):(if v<0 then max (v+(n:Int)) 0 else min v (n:Int))=((sIx n d (aa v):Nat):Int):=by
 show (if v<0 then max (v+(n:Int)) 0 else min v (n:Int))=(((if v<0 then (v+(n:Int)).toNat else min v.toNat n):Nat):Int);by_cases hv:v<0
 ·simp only[if_pos hv];omega
 ·simp only[if_neg hv];omega
theorem zpm(lo hi:Option Int)(n:Nat):ycM lo hi 1 (n:Int)=(((sIx n 0 lo:Nat):Int),((sIx n n hi:Nat):Int)):=by
 have h : ¬ ((1:Int)<0):=by omega
 unfold ycM;simp only[h,if_false];refine Prod.ext ?_ ?_
 ·cases lo with
  |none=>rfl|some v=>exact zsl v n 0
 ·cases hi with
  |none=>rfl|some v=>exact zsl v n n
theorem zoM(i j:Nat):yb3 (i:Int) (j:Int) 1=j-i:=by
 unfold yb3;have h:(1:Int)>0:=by omega
 simp only[h,if_true,Int.ediv_one];split <;> omega
theorem ziK{v:af}{o:Option Int}{Q:Option Int->aj->Prop}(p:aW v o)(h:Q o s):wpAny (ao prog w) A (Builtin.Slice.slicePartIndex v) Q E s:=by
 cases p with
 |none=>exact slicePart_none h|int i t=>exact slicePart_int h
theorem zdQ{lo:Option Int}{n:Nat}{Q:Int×Int×Nat->aj->Prop}(hs:s.heap.IsSliceOf sl vl vu .none)(pl:aW vl lo)(p:aW vu hi)(h:Q (((sIx n 0 lo:Nat):Int),1,sIx n n hi-sIx n 0 lo) s):wpAny (ao prog w) A (ydx (.ref sl) (pure (n:Int))) Q E s:=by
 obtain⟨os,H,b,a⟩:=id hs;unfold ydx Builtin.Slice.sliceFields;refine ai (ai (aI H a (x:=vl) rfl (ai (aI H a (x:=vu) rfl (ai (aI H a (x := .none) rfl (aw ?_)))))));refine ai (slicePart_none ?_);show wpAny _ _ (if ((1:Int)==0)=ac then _ else _) _ _ s;rw[if_neg (by decide)];refine ai (ziK pl (ai (ziK p (ai (aw ?_)))));show wpAny _ _ (match ycM lo hi 1 (n:Int) with | (lo,hi)=>pure (lo,(1:Int),yb3 lo hi 1)) _ _ s;rw[zpm lo hi n];show wpAny _ _ (pure (((sIx n 0 lo:Nat):Int),(1:Int),yb3 ((sIx n 0 lo:Nat):Int) ((sIx n n hi:Nat):Int) 1)) _ _ s;rw[zoM];exact aw h
theorem ztl(xs:Array af)(i k:Nat):((yJ k).filterMap fun(m:Nat)=>xs[((i:Int)+(m:Int)*1).toNat]?).toArray=((xs.toList.drop i).take k).toArray:=by
 have e:(fun(m:Nat)=>xs[((i:Int)+(m:Int)*1).toNat]?)=fun m=>xs[i+m]?:=by
  funext m;have:((i:Int)+(m:Int)*1).toNat=i+m:=by omega
  rw[this]
 rw[e];have:=pick_run xs i k;rw[List.filterMap_map]at this;have E:((fun x=>xs[x]?)∘fun x=>i+x)=fun m=>xs[i+m]?:=rfl;rw[E]at this;rw[this]
theorem getItem_tuple_cut{items:Array af}{lo:Option Int}(a:IsTup s.heap t items)(hs:s.heap.IsSliceOf sl vl vu .none)(pl:aW vl lo)(p:aW vu hi)
  (f : ¬ (sIx items.size 0 lo=0/\sIx items.size items.size hi=items.size))
  (h:Q (.ref s.heap.objs.size) { s with heap:=s.heap.push { cls := .type "tuple", data := .seq ((items.toList.drop (sIx items.size 0 lo)).take (sIx items.size items.size hi-sIx items.size 0 lo)).toArray } })
  (hsz:items.size<=sizeLine):wpAny (ao prog w) A (br (.ref t) (.ref sl)) Q E s:=by
 have H:sizeOk (.seq ((items.toList.drop (sIx items.size 0 lo)).take (sIx items.size items.size hi-sIx items.size 0 lo)).toArray):=by
  show ((items.toList.drop (sIx items.size 0 lo)).take (sIx items.size items.size hi-sIx items.size 0 lo)).toArray.size<=sizeLine;rw[yM,ya9,ydy,ybC];omega
 have k:sIx items.size items.size hi<=items.size:=sIx_le _ _ (yh _) hi;obtain⟨os,b,d,g⟩:=id hs;have e:s.TypeIs (.ref sl) "slice" := ⟨os,b,d⟩;unfold br;try with_reducible refine ba ?_
 first | refine ai (aw ?_) | skip
 refine ai (wpAny_sequenceKey a.typeIs (by decide) ?_);refine ai (bN (name:=yaa "__getitem__") a.typeIs PyProof.Rows.slot_tuple_getitem
  (bu PyProof.Rows.slot_tuple_getitem a.typeIs entry_tuple_getitem ?_ (args_tuple_getitem _ _)))
 show wpAny _ _ (ycN (.ref t) >>= _) _ _ s;refine ai (tupleItemsOf_ a ?_);refine ai (wpAny_typeOf e ?_);rw[if_pos (by decide)];refine ai (zdQ hs pl p ?_);have c : ¬ ((((sIx items.size 0 lo:Nat):Int)==0&&(1:Int)==1&&(sIx items.size items.size hi-sIx items.size 0 lo)==items.size)=ac):=by
  intro q;rw[yac,yac]at q;have j:((sIx items.size 0 lo:Nat):Int)=0:=eq_of_beq q.1.1;have i:sIx items.size items.size hi-sIx items.size 0 lo=items.size:=eq_of_beq q.2;exact f ⟨by omega,by omega⟩
 show wpAny _ _ (if (((sIx items.size 0 lo:Nat):Int)==0&&(1:Int)==1&&(sIx items.size items.size hi-sIx items.size 0 lo)==items.size)=ac then _ else _) _ _ s;rw[if_neg c,ztl]
 first
  |exact ai (m:=ybI _) (aQ (aw ⟨_,rfl,aw h⟩) H)
  |exact ai (m:=ybI _) (aQ (ai (aw (aw ⟨_,rfl,aw h⟩))) H)
  |exact ai (ai (m:=ybI _) (aQ (aw (aw ⟨_,rfl,aw h⟩)) H))
  |exact ai (ai (m:=ybI _) (aQ (aw ⟨_,rfl,aw h⟩) H))
end
end HT
namespace L2
open PySem PySem.Spec PyProof.Rows
abbrev TO:=St->Hp->(Option Int->Hp->Prop)->Prop
def PO(X:Cx)(e:Option ak)(t:TO):Prop :=
 ∀(pins:List (ad×av))(s:aj)(σ : St)(H:Hp)(Q:Option Int->Hp->Prop),Inv X pins σ H s->t σ H Q →
  wpAny (ao X.prog X.w) X.A (evalPart e X.env) (fun u s'=>∃o H',Inv X pins σ H' s'/\aW u o/\Q o H') X.xe s
def zuO:TO:=fun _ H Q=>Q ab H
def tPart(t:TE):TO:=fun σ H Q=>t σ H fun x H1=>∃i,x = .int i/\Q (aa i) H1
variable{X:Cx}{pos:ay}{r:V->Option Int->Option Int->Hp->VK->Prop}{xs:List V}
section
variable{e:ak}{te:TE}{lo hi:Option ak}{tl th:TO}{p2:ay}
theorem zvx:PO X ab zuO:=by
 intro pins s σ H Q I h;rw[evalPart_none];exact aw ⟨ab,H,I,.none,h⟩
theorem zvw(h:PE X e te):PO X (aa e) (tPart te):=by
 intro pins s σ H Q I b;rw[evalPart_some];refine thn (h pins s σ H _ I b) ?_;rintro u s1 ⟨x,d,c,r,a⟩;obtain⟨i,rfl,q⟩:=a;obtain⟨t,rfl⟩:=r;exact⟨aa i,d,c,.int i t,q⟩
def SlR(X:Cx)(r:V->Option Int->Option Int->Hp->VK->Prop):Prop :=
 ∀(pins:List (ad×av))(s:aj)(σ : St)(H:Hp)(x:V)(v vl vu:af)(lo hi:Option Int)(sl:ad)(Q:VK),Inv X pins σ H s->RelV x v->s.heap.IsSliceOf sl vl vu .none->aW vl lo->aW vu hi->r x lo hi H Q →
  ∃T id,typeLookup (.type T) "__getitem__" = pure (aa (.builtin id))/\s.TypeIs v T/\wpAny (ao X.prog X.w) X.A (br v (.ref sl)) (EP X pins σ Q) X.xe s
theorem SlR.or{r':V->Option Int->Option Int->Hp->VK->Prop}(h:SlR X r)(h':SlR X r'):SlR X (fun x lo hi H Q=>r x lo hi H Q∨r' x lo hi H Q):=by
 intro pins s σ H x v b a lo hi sl Q I R hs pl p q;rcases q with q|q
 ·exact h pins s σ H x v b a lo hi sl Q I R hs pl p q
 ·exact h' pins s σ H x v b a lo hi sl Q I R hs pl p q
def tSl(r:V->Option Int->Option Int->Hp->VK->Prop)(te:TE)(t T:TO):TE:=fun σ H Q=>te σ H fun x H1=>t σ H1 fun l H2=>T σ H2 fun u h=>r x l u h Q
theorem znJ(hr:SlR X r)(m:PE X e te)(hl:PO X lo tl)(i:PO X hi th):PE X (.Subscript e (.Slice lo hi ab p2) pos) (tSl r te tl th):=by
 intro pins s σ H Q I h;refine Subscript_ (thn (m pins s σ H _ I h) ?_);rintro v s1 ⟨x,A,y,R,g⟩;refine wpAny_Slice (thn (hl pins s1 σ A _ y g) fun a s2 ⟨l,z,w,pl,f⟩=>thn (i pins s2 σ z _ w f) ?_);rintro V S ⟨u,c,t,p,d⟩;rw[evalPart_none];refine aw ?_;have o:Inv X pins σ c { S with heap:=S.heap.push { cls := .type "slice", data := .fields #[a,V,.none] } }:=t.kept (t':=S.toks) fun b ob q=>yt _ q;obtain⟨T,id,n,j,k⟩:=hr pins { S with heap:=S.heap.push { cls := .type "slice", data := .fields #[a,V,.none] } } σ c x v a V l u S.heap.objs.size Q o R (Heap.IsSliceOf.new ..) pl p d;show wpAny (ao X.prog X.w) X.A (ci e (.Slice lo hi ab p2) v (.ref S.heap.objs.size)) (EP X pins σ Q) X.xe { S with heap:=S.heap.push { cls := .type "slice", data := .fields #[a,V,.none] } };exact tail_any (ops:=[.ref S.heap.objs.size,v]) j n k (by with_unfolding_all rfl)
def zuE(xs:List V)(lo hi:Option Int):List V:=(xs.drop (HT.sIx xs.length 0 lo)).take (HT.sIx xs.length xs.length hi-HT.sIx xs.length 0 lo)
theorem zib(xs:List V)(lo hi:Option Int):(zuE xs lo hi).length<=xs.length:=by
 unfold zuE;rw[ya9,ydy];omega
def rSlT(K:ye):V->Option Int->Option Int->Hp->VK->Prop:=fun x lo hi H Q=>∃a xs,x = .ref a/\SqT K H a xs ∧
 ¬ (HT.sIx xs.length 0 lo=0/\HT.sIx xs.length xs.length hi=xs.length)/\∀p,H p=ab->Q (.ref p) (upd H p (.tup (zuE xs lo hi)))
theorem zuc:SlR X (rSlT X.K):=by
 intro pins s σ H x v i V lo hi sl Q I R hs pl p h;obtain⟨a,xs,rfl,f,g,q⟩:=h;cases R;obtain⟨its,r,e,d⟩:=I.tuple f;have c:its.toArray.size=xs.length:=by rw[yM];exact r.length.symm
 refine⟨"tuple", _,PyProof.Rows.slot_tuple_getitem.lookup,e.typeIs,?_⟩;refine HT.getItem_tuple_cut e hs pl p (by rw[c];exact g) ?_ (by rw[c];exact d);rw[c];refine⟨.ref s.heap.objs.size,_,I.laid (t':=s.toks) (o := .tup (zuE xs lo hi)) (fun b ob q=>yt _ q) (yh _) ?_,rfl,q _ (I.hok.fresh (yh _))⟩;exact⟨yO (zib xs lo hi) d,_,(r.drop (HT.sIx xs.length 0 lo)).take (HT.sIx xs.length xs.length hi-HT.sIx xs.length 0 lo),IsTup.new _ _,_,yC _ rfl,rfl⟩
def rCatT(K:ye):R2:=fun x y H Q=>∃a b xs ys,x = .ref a/\y = .ref b/\SqT K H a xs/\SqT K H b ys/\xs≠[]/\xs.length+ys.length<=sizeLine ∧
 (ys=[]->Q (.ref a) H)/\(ys≠[]->∀p,H p=ab->Q (.ref p) (upd H p (.tup (xs++ys))))
theorem Vals.nil_iff{us:List af}(r:Vals xs us):us=[]↔xs=[]:=by
 cases r with
 |nil=>simp|cons _ _=>simp
theorem zvQ:OpR X (aE .Add) (rCatT X.K):=by
 intro pins s σ H x y v u Q I d R h;obtain⟨a,b,xs,ys,rfl,rfl,ha,j,g,c,f,e⟩:=h;cases d;cases R;obtain⟨its,r,p,_⟩:=I.tuple ha;obtain⟨i,r2,p2,_⟩:=I.tuple j;refine HT.cat_tup p p2 (fun z=>g (r.nil_iff.mp z)) (fun z=>⟨.ref a,H,I,rfl,f (r2.nil_iff.mp z)⟩) (fun z=>?_) (by rw[<- r.length,<- r2.length];exact c);refine⟨.ref s.heap.objs.size,_,I.laid (t':=s.toks) (o := .tup (xs++ys)) (fun b ob q=>yt _ q) (yh _) ?_,rfl,e (fun w=>z (r2.nil_iff.mpr w)) _ (I.hok.fresh (yh _))⟩;exact⟨by rw[yI];exact c,_,r.append r2,IsTup.new _ _,_,yC _ rfl,rfl⟩
end
def ixN(n:Nat)(i:Int):Option Nat:=if 0<=i then (if i<n then aa i.toNat else ab) else if -(n:Int)<=i then aa (i+n).toNat else ab
variable{α : Type}
def atI(xs:List α)(i:Int):Option α := (ixN xs.length i).bind fun j=>xs[j]?
variable{n:Nat}{i:Int}
theorem zrF{j:Nat}(h:ixN n i=aa j):bv i n=aa j/\j<n /\ -(n:Int)<=i/\i<n:=by
 unfold ixN at h;by_cases a:0<=i
 ·rw[if_pos a]at h;by_cases H:i<n
  ·rw[if_pos H]at h;have e:i.toNat=j:=yad h;exact⟨by rw[seqIndex_of a H,e],by omega,by omega,H⟩
  ·rw[if_neg H]at h;cases h
 ·rw[if_neg a]at h;by_cases H : -(n:Int)<=i
  ·rw[if_pos H]at h;have e:(i+n).toNat=j:=yad h;exact⟨by rw[seqIndex_neg (by omega) H,e],by omega,H,by omega⟩
  ·rw[if_neg H]at h;cases h
theorem zm5{xs:List α}{v:α}(h:atI xs i=aa v):∃j,bv i xs.length=aa j/\xs[j]?=aa v/\j<xs.length /\ -(xs.length:Int)<=i/\i<xs.length:=by
 unfold atI at h;cases e:ixN xs.length i with
 |none=>rw[e]at h;cases h|some j=>
  rw[e]at h;obtain⟨c,b,a,H⟩:=zrF e;exact⟨j,c,h,b,a,H⟩
def znd(b:ak):Prop:=∀o i,subscripted b ag o i=operate [o,i] (br o i)
def IxR(X:Cx)(r:R2):Prop :=
 ∀(value S:ak)(pins:List (ad×av))(s:aj)(σ : St)(H:Hp)(x y:V)(v u:af)(Q:VK),Inv X pins σ H s->RelV x v->RelV y u->r x y H Q →
  subscripted S ag v u=operate [v,u] (br v u)->wpAny (ao X.prog X.w) X.A (ci value S v u) (EP X pins σ Q) X.xe s
def MtR(X:Cx)(id:String)(r:V->List V->Hp->VK->Prop):Prop :=
 ∀(pins:List (ad×av))(s:aj)(σ : St)(H:Hp)(x:V)(xs:List V)(v:af)(us:List af)(Q:VK),Inv X pins σ H s->RelV x v->Vals xs us->r x xs H Q →
  wpAny (ao X.prog X.w) X.A (call (.builtin id) (v::us)) (EP X pins σ Q) X.xe s
variable{pins:List (ad×av)}{σ : St}{H:Hp}{s:aj}{p:ad}{ys:List V}{its its':List af}{y x:V}{u v:af}{T:String}
section
variable{a b:ak}{ta tb:TE}
theorem IxR.or{r r':R2}(h:IxR X r)(h':IxR X r'):IxR X (fun x y H Q=>r x y H Q∨r' x y H Q):=by
 intro value S pins s σ H x y v u Q I a R q hs;rcases q with q|q
 ·exact h value S pins s σ H x y v u Q I a R q hs
 ·exact h' value S pins s σ H x y v u Q I a R q hs
theorem pe_ix{r:R2}(hr:IxR X r)(ha:PE X a ta)(d:PE X b tb)(hs:znd b):PE X (.Subscript a b pos) (tOp r ta tb):=by
 intro pins s σ H Q I h;exact Subscript_ (binT ha d I h fun v u s2 x y e i c R q=>hr a b pins s2 σ e x y v u Q i c R q (hs _ _))
def rIxL(K:ye):R2:=fun x y H Q=>∃p xs i v,x = .ref p/\y = .int i/\SqL K H p xs/\atI xs i=aa v/\Q v H
def rIxT(K:ye):R2:=fun x y H Q=>∃p xs i v,x = .ref p/\y = .int i/\SqT K H p xs/\atI xs i=aa v/\Q v H
def rIxS:R2:=fun x y H Q=>∃z i c,x = .str z/\y = .int i/\z.length<=sizeLine/\atI z.cps.toList i=aa c/\Q (.str ⟨#[c]⟩) H
theorem ix_list:IxR X (rIxL X.K):=by
 intro value S pins s σ H x y v u Q I k g h hs;obtain⟨p,xs,i,z,rfl,rfl,l,m,q⟩:=h;cases k;obtain⟨t,rfl⟩:=g;obtain⟨its,r,pl,B⟩:=I.list l;obtain⟨j,a,A,C,o,n⟩:=zm5 m;obtain⟨w,e,R⟩:=r.get A;have hl:=r.length;have hn:=ziS;have f:EP X pins σ Q w s:=⟨z,H,I,R,q⟩;by_cases c:0<=i
 ·have b:i.toNat=j:=by
   rw[seqIndex_of c n]at a;exact yad a
  exact item_listR pl.isList c (by omega) (by rw[b];simpa using e) f hs
 ·have b:(i+(its.toArray.size:Int)).toNat=j:=by
   rw[seqIndex_neg (by omega) o]at a;rw[yM,<- hl];exact yad a
  exact subscriptTail_builtinR (x:=w) pl.isList.typeIs slot_list_getitem.lookup
   (wpAny_getItem_list_neg (Q:=fun r d=>r=w/\EP X pins σ Q r d) pl.isList (by omega) (by rw[yM] <;> omega) (by omega) (by rw[b];simpa using e) ⟨rfl,f⟩) hs
theorem ix_tup:IxR X (rIxT X.K):=by
 intro value S pins s σ H x y v u Q I c b h hs;obtain⟨p,xs,i,z,rfl,rfl,d,e,q⟩:=h;cases c;obtain⟨t,rfl⟩:=b;obtain⟨its,r,pl,l⟩:=I.tuple d;obtain⟨j,k,g,o,n,m⟩:=zm5 e;obtain⟨w,E,R⟩:=r.get g;have hl:=r.length;have hn:=ziS;have f:EP X pins σ Q w s:=⟨z,H,I,R,q⟩;exact subscriptTail_builtinR (x:=w) pl.typeIs slot_tuple_getitem.lookup
  (getItem_tuple (j:=j) (Q:=fun r a=>r=w/\EP X pins σ Q r a) pl (by omega) (by omega) (by rw[yM,<- hl];exact k) (by simpa using E) ⟨rfl,f⟩) hs
theorem ix_str:IxR X rIxS:=by
 intro value S pins s σ H x y v u Q I R r h hs;obtain⟨z,i,c,rfl,rfl,k,b,q⟩:=h;obtain⟨t,rfl⟩:=R;obtain⟨t',rfl⟩:=r;obtain⟨j,a,f,l,e,d⟩:=zm5 b;have hl:z.cps.toList.length=z.length:=by simp[Str.length]
 rw[hl]at a e d;have hn:=ziS;exact tail_any (typeIs_str s z t) slot_str_getitem.lookup (getItem_str (c:=c) (by
  have g:decide (i < -(2^63:Int))=ag:=decide_eq_false (by omega);have E:decide (i ≥ 2^63)=ag:=decide_eq_false (by omega);rw[g,E,Bool.or_false]) (by rw[a];simpa using f) ⟨.str ⟨#[c]⟩,H,I.tok _,⟨_,rfl⟩,q⟩) hs
def rIx(K:ye):R2:=fun x y H Q=>rIxL K x y H Q∨rIxT K x y H Q∨rIxS x y H Q
theorem ix_seq:IxR X (rIx X.K):=ix_list.or (ix_tup.or ix_str)
theorem zo5(its:List af)(n j:Nat)(u:af):yaV (·.setIfInBounds j u) { cls := .type "list", data := .seq its.toArray n }={ cls := .type "list", data := .seq (its.set j u).toArray n }:=by
 simp[yaV]
theorem Inv.lst(I:Inv X pins σ H s)(h:H p=aa (.lst xs)) : ∃(its:List af)(n:Nat),Vals xs its/\s.heap.get? p=aa { cls := .type "list", data := .seq its.toArray n }/\xs.length<=sizeLine:=by
 obtain⟨z,its,n,r,e⟩:=I.hok p _ h;exact⟨its,n,r,e,z⟩
theorem Inv.lstUpd{N:Nat}{f:av->av}(I:Inv X pins σ H s)(h:H p=aa (.lst xs))
  (d:s.heap.get? p=aa { cls := .type "list", data := .seq its.toArray n }) (a:f { cls := .type "list", data := .seq its.toArray n }={ cls := .type "list", data := .seq its'.toArray N }) (r:Vals ys its') (c:ys.length<=sizeLine) (t:Nat) :
  Inv X pins σ (upd H p (.lst ys)) { s with heap:=s.heap.update p f,toks:=t }:=by
 have e:(s.heap.update p f).get? p=aa { cls := .type "list", data := .seq its'.toArray N }:=by
  rw[yb4 f d (by rw[a] <;> rfl),a]
 refine I.write (x:=p) (e:=p) (by rw[h];trivial) (.inl rfl) (fun b u g q=>(yaO _ _ (Ne.symm g)).trans q) ⟨_,e⟩ ?_;exact⟨c,its',N,r,e⟩
def rSetL:V->V->V->Hp->(Hp->Prop)->Prop:=fun o i v H Q=>∃p xs k j,o = .ref p/\i = .int k/\H p=aa (.lst xs)/\ixN xs.length k=aa j/\Q (upd H p (.lst (xs.set j v)))
theorem zsN:PSet X rSetL:=by
 intro pins s σ H o i v O y u Q I m ri R h;obtain⟨p,xs,k,j,rfl,rfl,d,x,q⟩:=h;cases m;obtain⟨t,rfl⟩:=ri;obtain⟨its,n,r,b,w⟩:=I.lst d;obtain⟨a,z,f,e⟩:=zrF x;have hl:=r.length;have hn:=ziS;have l:Inv X pins σ (upd H p (.lst (xs.set j v))) { s with heap:=s.heap.update p (yaV (·.setIfInBounds j u)) } :=
  I.lstUpd d b (zo5 its n j u) (r.set R j) (by rw[yaw];exact w) s.toks
 by_cases g:0<=k
 ·have c:k.toNat=j:=by
   rw[seqIndex_of g e]at a;exact yad a
  exact PySem.W.ki_setAt b g (by omega) (by rw[yM,<- hl];exact e) (by rw[c];exact⟨_,l,q⟩)
 ·have c:(k+(its.toArray.size:Int)).toNat=j:=by
   rw[seqIndex_neg (by omega) f]at a;rw[yM,<- hl];exact yad a
  exact PySem.W.ki_setBack b (by omega) (by rw[yM,<- hl];exact f) (by omega) (by rw[c];exact⟨_,l,q⟩)
theorem zks(lo hi:Option Int)(n:Nat):(bE lo hi ab n).1=((HT.sIx n 0 lo:Nat):Int)/\(bE lo hi ab n).2.1=((HT.sIx n n hi:Nat):Int)/\(bE lo hi ab n).2.2=1:=by
 refine⟨?_,?_,rfl⟩
 ·cases lo with
  |none=>simp[bE,HT.sIx]|some i=>
   simp only[bE,HT.sIx,ydz,show (1:Int)>0 by decide,if_true];by_cases h:i<0
   ·simp only[h,if_true] <;> omega
   ·simp only[h,if_false] <;> omega
 ·cases hi with
  |none=>simp[bE,HT.sIx]|some i=>
   simp only[bE,HT.sIx,ydz,show (1:Int)>0 by decide,if_true];by_cases h:i<0
   ·simp only[h,if_true] <;> omega
   ·simp only[h,if_false] <;> omega
theorem zjo(its:List af)(lo hi:Option Int):slicePick its.toArray lo hi ab=((its.drop (HT.sIx its.length 0 lo)).take (HT.sIx its.length its.length hi-HT.sIx its.length 0 lo)).toArray:=by
 obtain⟨a,H,h⟩:=zks lo hi its.toArray.size;unfold slicePick;rw[a,H,h];simp only[sliceRange_one,pick_run,yM] <;> rfl
def rSlL(K:ye):V->Option Int->Option Int->Hp->VK->Prop:=fun x lo hi H Q=>∃a xs,x = .ref a/\SqL K H a xs/\∀p,H p=ab->Q (.ref p) (upd H p (.lst (zuE xs lo hi)))
theorem zpQ:SlR X (rSlL X.K):=by
 intro pins s σ H x v g V lo hi sl Q I R hs pl p h;obtain⟨a,xs,rfl,f,q⟩:=h;cases R;obtain⟨its,r,d,e⟩:=I.list f;have c:=r.length;refine⟨"list", _,slot_list_getitem.lookup,d.isList.typeIs,?_⟩;refine wpAny_getItem_list_slice d.isList hs pl p .none (by simp) ?_ (by rw[yM] <;> omega);rw[zjo,<- c];refine⟨.ref s.heap.objs.size,_,I.laid (t':=s.toks) (o := .lst (zuE xs lo hi)) (fun b ob q=>yt _ q) (yh _) ?_,rfl,q _ (I.hok.fresh (yh _))⟩;exact⟨yO (zib xs lo hi) e,_,0,(r.drop (HT.sIx xs.length 0 lo)).take (HT.sIx xs.length xs.length hi-HT.sIx xs.length 0 lo),yC _ rfl⟩
def zlu:V->Bool
 |.non=>ac|.bl _=>ac|.int _=>ac|.str _=>ac|_=>ag
def eqV:V->V->Bool
 |.non,.non=>ac|.bl a,.bl b=>a==b|.bl a,.int b=>(if a then 1 else 0)==b|.int a,.bl b=>a==(if b then 1 else 0)|.int a,.int b=>a==b|.str a,.str b=>a==b|_,_=>ag
theorem eqAt_V{A:aA}(R:RelV y u)(r:RelV x v)(F:zlu y=ac)(f:zlu x=ac):SeqAt.EqAt A s u v (eqV y x):=by
 cases y with
 |non=>
  cases R;cases x with
  |non=>cases r;exact SeqAt.EqAt.same _|bl b=>cases r;exact SeqAt.EqAt.none_bool b|int b=>obtain⟨t,rfl⟩:=r;exact SeqAt.EqAt.none_int b t
  |str b=>obtain⟨t,rfl⟩:=r;exact SeqAt.EqAt.none_str b t
  |_=>exact absurd (show ag=ac from f) yR
 |bl a=>
  cases R;cases x with
  |non=>cases r;exact SeqAt.EqAt.bool_none a|bl b=>cases r;exact SeqAt.EqAt.bool_bool a b|int b=>obtain⟨t,rfl⟩:=r;exact SeqAt.EqAt.bool_int a b t
  |str b=>obtain⟨t,rfl⟩:=r;exact SeqAt.EqAt.bool_str a b t
  |_=>exact absurd (show ag=ac from f) yR
 |int a=>
  obtain⟨t',rfl⟩:=R;cases x with
  |non=>cases r;exact SeqAt.EqAt.int_none a t'|bl b=>cases r;exact SeqAt.EqAt.int_bool a t' b|int b=>obtain⟨t,rfl⟩:=r;exact SeqAt.EqAt.int_int a t' b t
  |str b=>obtain⟨t,rfl⟩:=r;exact SeqAt.EqAt.int_str a t' b t
  |_=>exact absurd (show ag=ac from f) yR
 |str a=>
  obtain⟨t',rfl⟩:=R;cases x with
  |non=>cases r;exact SeqAt.EqAt.str_none a t'|bl b=>cases r;exact SeqAt.EqAt.str_bool a t' b|int b=>obtain⟨t,rfl⟩:=r;exact SeqAt.EqAt.str_int a t' b t
  |str b=>obtain⟨t,rfl⟩:=r;exact SeqAt.EqAt.str_str a t' b t
  |_=>exact absurd (show ag=ac from f) yR
 |_=>exact absurd (show ag=ac from F) yR
def eqU(x:V)(u:af):Bool:=match u with
 |.none=>eqV .non x|.bool b=>eqV (.bl b) x|.int i _=>eqV (.int i) x|.str z _=>eqV (.str z) x|_=>ag
theorem eqU_of(r:RelV y u)(f:zlu y=ac):eqU x u=eqV y x:=by
 cases y with
 |non=>cases r;rfl|bl b=>cases r;rfl|int i=>obtain⟨t,rfl⟩:=r;rfl
 |str z=>obtain⟨t,rfl⟩:=r;rfl
 |_=>exact absurd (show ag=ac from f) yR
theorem znT{A:aA}{s:aj}{x:V}{v:af}(R:RelV x v)(F:zlu x=ac):∀{xs:List V}{us:List af},Vals xs us->xs.all zlu=ac->∀u∈us,SeqAt.EqAt A s u v (eqU x u)
 |_,_,.nil,_=>fun u h=>by cases h|y::xs,u::us,.cons r t,f=>fun U h=>by
  rw[yb5,yac]at f;rcases yB.mp h with rfl|h
  ·rw[eqU_of r f.1];exact eqAt_V r R f.1 F
  ·exact znT R F t f.2 U h
theorem zlG:CallR X (.builtin "len") (fun xs H Q=>∃p ys,xs=[.ref p]/\(SqL X.K H p ys∨SqT X.K H p ys)/\Q (.int ys.length) H):=by
 intro pins s σ H xs us Q I r h;obtain⟨p,ys,rfl,b,q⟩:=h;obtain⟨u,rfl,R⟩:=zcB r;cases R;have hn:=ziS;rcases b with b|b
 ·obtain⟨its,r',pl,c⟩:=I.list b;have a:=r'.length;exact Calls.call_len_list pl.isList (by simp only[yM] <;> omega) ⟨.int ys.length,H,I.tok _,⟨s.toks+1,by rw[yM,a]⟩,q⟩
 ·obtain⟨its,r',pl,c⟩:=I.tuple b;have a:=r'.length;exact len_tuple pl (by simp only[yM] <;> omega) ⟨.int ys.length,H,I.tok _,⟨s.toks+1,by rw[yM,a]⟩,q⟩
theorem zlF:CallR X (.builtin "len") (fun xs H Q=>∃z,xs=[.str z]/\z.length<=sizeLine/\Q (.int z.length) H):=by
 intro pins s σ H xs us Q I r h;obtain⟨z,rfl,a,q⟩:=h;obtain⟨u,rfl,t,rfl⟩:=zcB r;have hn:=ziS;exact len_str (by omega) ⟨.int z.length,H,I.tok _,⟨_,rfl⟩,q⟩
theorem CallR.or{f:af}{r r':List V->Hp->VK->Prop}(h:CallR X f r)(h':CallR X f r'):CallR X f (fun xs H Q=>r xs H Q∨r' xs H Q):=by
 intro pins s σ H xs us Q I rs q;rcases q with q|q
 ·exact h pins s σ H xs us Q I rs q
 ·exact h' pins s σ H xs us Q I rs q
theorem zep:CallR X (.type "list") (fun xs H Q=>∃p ys,xs=[.ref p]/\(SqL X.K H p ys∨SqT X.K H p ys)/\∀l,H l=ab->Q (.ref l) (upd H l (.lst ys))):=by
 intro pins s σ H xs us Q I r h;obtain⟨p,ys,rfl,d,q⟩:=h;obtain⟨u,rfl,R⟩:=zcB r;cases R;have F:∀(its:List af),Vals ys its->ys.length<=sizeLine->∀(h':ax)(c:Nat),(∀b o',s.heap.get? b=aa o'->h'.get? b=aa o') →
   h'.get? s.heap.objs.size=aa { cls := .type "list", dict:=ab,data := .seq its.toArray c,slots := #[] }->EP X pins σ Q (.ref s.heap.objs.size) { s with heap:=h' }:=fun its r' a h' c kp e=>
  ⟨.ref s.heap.objs.size,_,I.laid (t':=s.toks) kp (yh _) (show ObjOk X.prog X.w _ h' _ (.lst ys) from ⟨a,its,c,r',e⟩),rfl,q _ (I.hok.fresh (yh _))⟩
 rcases d with d|d
 ·obtain⟨its,r',pl,a⟩:=I.list d;have f:=r'.length;obtain⟨o,g,i,n,hd⟩:=pl.isList;exact call_list_seq p (.inl rfl) g i hd (fun h' c kp e=>F its r' a h' c kp e) (by simp only[yM] <;> omega)
 ·obtain⟨its,r',pl,a⟩:=I.tuple d;have f:=r'.length;obtain⟨o,g,i,n,hd⟩:=pl;exact call_list_seq p (.inr rfl) g i hd (fun h' c kp e=>F its r' a h' c kp e) (by simp only[yM] <;> omega)
theorem zkk:CallR X (.type "tuple") (fun xs H Q=>∃p ys,xs=[.ref p]/\((SqL X.K H p ys/\∀l,H l=ab->Q (.ref l) (upd H l (.tup ys)))∨(SqT X.K H p ys/\Q (.ref p) H))):=by
 intro pins s σ H xs us Q I r h;obtain⟨p,ys,rfl,h⟩:=h;obtain⟨u,rfl,R⟩:=zcB r;cases R;rcases h with⟨a,q⟩|⟨a,q⟩
 ·obtain⟨its,r',pl,c⟩:=I.list a;have d:=r'.length;refine call_tuple_list pl.isList (fun h' kp=>?_) (by simp only[yM] <;> omega);have i:Inv X pins σ H { s with heap:=h' }:=I.kept (t':=s.toks) kp;have f:Inv X pins σ (upd H h'.objs.size (.tup ys)) { s with heap:=h'.push { cls := .type "tuple", data := .seq its.toArray } } :=
   i.laid (t':=s.toks) (fun b o e=>yt _ e) (yh _) (show ObjOk X.prog X.w _ _ _ (.tup ys) from ⟨c,its,r',IsTup.new _ _,_,yC _ rfl,rfl⟩)
  exact⟨.ref h'.objs.size,_,f,rfl,q _ (i.hok.fresh (yh _))⟩
 ·obtain⟨its,r',pl,c⟩:=I.tuple a;exact call_tuple_same pl ⟨.ref p,H,I,rfl,q⟩
def tyV(K:ye)(T:String)(x:V)(H:Hp):Prop:=match x with
 |.str _=>T = "str"|.int _=>T = "int"|.ref p=>(T = "list" /\ ∃xs,SqL K H p xs)∨(T = "tuple" /\ ∃o,K.lookup p=aa o/\o.cls = .type "tuple" /\ o.dict=ab) ∨
   (T = "dict" /\ ((∃kvs,H p=aa (.dK kvs))∨∃kvs,H p=aa (.dT kvs)))∨(T = "set" /\ ∃S n,H p=aa (.set S n))
 |_=>False
theorem tyV_is(I:Inv X pins σ H s)(r:RelV x v)(ty:tyV X.K T x H) : s.TypeIs v T/\∀a,v = .ref a->∃ob,s.heap.get? a=aa ob/\ob.dict=ab:=by
 cases x with
 |str z=>
  obtain⟨t,rfl⟩:=r;cases (show T = "str" from ty);exact⟨typeIs_str s z t,fun _ e=>nomatch e⟩
 |int i=>
  obtain⟨t,rfl⟩:=r;cases (show T = "int" from ty);exact⟨typeIs_int s i t,fun _ e=>nomatch e⟩
 |ref p=>
  cases r;rcases ty with⟨rfl,xs,b⟩|⟨rfl,o,h,d,hd⟩|⟨rfl,h⟩|⟨rfl,S,n,h⟩
  ·obtain⟨its,_,pl,_⟩:=I.list b;refine⟨pl.isList.typeIs,fun a e=>?_⟩;cases e;obtain⟨o,n,e,c,hd,_⟩:=pl;exact⟨o,e,hd⟩
  ·refine⟨⟨o,I.kIn p o h,d⟩,fun a e=>?_⟩;cases e;exact⟨o,I.kIn _ o h,hd⟩
  ·have z:∃o,s.heap.get? p=aa o/\o.ExactDict:=by
    rcases h with⟨kvs,h⟩|⟨kvs,h⟩
    ·obtain⟨_,_,_,_,o,_,_,e,ex,_⟩:=I.hok p _ h;exact⟨o,e,ex⟩
    ·obtain⟨_,_,_,_,o,_,_,e,ex,_⟩:=I.hok p _ h;exact⟨o,e,ex⟩
   obtain⟨o,e,ex⟩:=z;refine⟨⟨o,e,ex.1⟩,fun a E=>?_⟩;cases E;exact⟨o,e,ex.2.1⟩
  ·obtain⟨o,_,_,_,e,ex,_⟩:=I.hok p _ h;refine⟨⟨o,e,ex.1⟩,fun a E=>?_⟩;cases E;exact⟨o,e,ex.2.1⟩
 |_=>exact False.elim ty
def tBM(K:ye)(T:String)(r:V->List V->Hp->VK->Prop)(a:TE)(t:TA):TE:=fun σ H Q=>a σ H fun x H1=>tyV K T x H1/\t σ H1 fun xs H2=>r x xs H2 Q
variable{o e:ak}{es:List ak}{to:TE}{t:TA}{name:ae}{apos cpos:ay}{id:String}{r:V->List V->Hp->VK->Prop}
theorem pe_bm(p:PlainAttrs T)(slot:Slot T name id)(f:typeOf (.builtin id)=pure (.type "method_descriptor"))(hm:MtR X id r)(k:PE X o to)(ha:PA X (e::es) t)(c:autoParam (bB o name X.env (eval o X.env)=eval o X.env) AutoP.a3._auto_1)(d:autoParam (((aB cpos (au (e::es) X.env)).all (fun x=> !x.1)&&(aL cpos (aM [] X.env)).all (fun x=>x.1.isSome)&&decide ((e::es).length+([]:List aV).length+(if ([]:List aV).isEmpty then 0 else 1)<30))=ac) AutoP.a3._auto_1)(b:autoParam ((apos.endLine==cpos.line)=ac) AutoP.a3._auto_1)(hs:autoParam (au (e::es) X.env=(ag,eval e X.env)::au es X.env) AutoP.a3._auto_1)(a:autoParam ((aB cpos (au es X.env)).any (·.1)=ag) AutoP.a3._auto_1) : PE X (.Call (.Attribute o name apos) (e::es) [] cpos) (tBM X.K T r to t):=by
 intro pins s σ H Q I h;refine wpAny_Call_method_late c d b rfl (thn (k pins s σ H _ I h) ?_);rintro v s1 ⟨x,w,i,R,ty,j⟩;obtain⟨m,l⟩:=tyV_is i R ty;refine⟨T,id,p,slot,f,m,l,?_⟩;have g:=ha cpos pins s1 σ w _ i j;rw[hs]at g ⊢;refine ydA (by show (ag||(aB cpos (au es X.env)).any (·.1))=ag;rw[a] <;> rfl) (ydB ?_);refine thn g ?_;rintro us s2 ⟨vs,u,n,r2,q⟩;exact hm pins s2 σ u x vs v us Q n R r2 q
end
def MtM(X:Cx)(id:String)(r:V->List V->Hp->VK->Prop):Prop :=
 ∀(pins:List (ad×av))(s:aj)(σ : St)(H:Hp)(x:V)(xs:List V)(v:af)(us:List af)(Q:VK),Inv X pins σ H s->RelV x v->Vals xs us->r x xs H Q →
  wpAny (ao X.prog X.w) X.A (call (.builtin id) (v::us)) (EP X pins σ Q) X.xe s
theorem Vals.one:∀{x:V}{us:List af},Vals [x] us->∃u,us=[u]/\RelV x u
 |_,_,.cons r .nil=>⟨_,rfl,r⟩
theorem Vals.eraseIdx:∀{xs:List V}{us:List af}(i:Nat),Vals xs us->Vals (xs.eraseIdx i) (us.eraseIdx i)
 |_,_,_,.nil=>.nil|_,_,0,.cons _ t=>t|_,_,i+1,.cons r t=>.cons r (Vals.eraseIdx i t)
theorem zk4{α : Type}:∀(l:List α)(i:Nat),(l.eraseIdx i).length<=l.length
 |[],_=>yh _|_::_,0=>ybn _|_::r,i+1=>Nat.succ_le_succ (zk4 r i)
variable{t':Nat}
section
variable{l b:ad}{zs:List V}
theorem Inv.lset{f:Array af->Array af}(I:Inv X pins σ H s)(d:H l=aa (.lst xs))
  (e:s.heap.get? l=aa { cls := .type "list", data := .seq its.toArray n }) (b:f its.toArray=its'.toArray) (hv:Vals ys its') (h:ys.length<=sizeLine) :
  Inv X pins σ (upd H l (.lst ys)) { s with heap:=s.heap.update l (yaV f),toks:=t' }:=by
 have q:=ydC e f;rw[b]at q;refine I.write (x:=l) (e:=l) (by rw[d];exact trivial) (.inl rfl) (fun B u c a=>(yaO s.heap (yaV f) (Ne.symm c)).trans a) ⟨_,q⟩ ?_;exact⟨h,its',_,hv,q⟩
theorem Inv.lnew(I:Inv X pins σ H s)(hv:Vals ys its)(h:ys.length<=sizeLine) : Inv X pins σ (upd H s.heap.objs.size (.lst ys)) { s with heap:=s.heap.push { cls := .type "list", data := .seq its.toArray },toks:=t' } :=
 I.laid (fun _ _ q=>yt _ q) (yh _) ⟨h,its,0,hv,yC _ rfl⟩
theorem Inv.fresh(I:Inv X pins σ H s):H s.heap.objs.size=ab:=I.hok.fresh (yh _)
theorem Inv.lstM(I:Inv X pins σ H s)(h:H l=aa (.lst xs)):xs.length<=sizeLine/\∃(its:List af)(n:Nat),Vals xs its/\xs.length=its.length/\s.heap.get? l=aa { cls := .type "list", data := .seq its.toArray n }:=by
 obtain⟨z,its,n,r,e⟩:=I.hok l _ h;exact⟨z,its,n,r,r.length,e⟩
end
section
def zqi:V->List V->Hp->VK->Prop:=fun x vs H Q=>∃l xs y,x = .ref l/\vs=[y]/\H l=aa (.lst xs)/\xs.length<sizeLine/\Q .non (upd H l (.lst (xs++[y])))
theorem zb3:MtM X "list.append" zqi:=by
 intro pins s σ H x vs v us Q I R b h;obtain⟨l,xs,y,rfl,rfl,a,d,q⟩:=h;cases R;obtain⟨u,rfl,c⟩:=b.one;obtain⟨z,its,n,r,hl,e⟩:=I.lstM a;refine bF F.slot_list_append ⟨_,e,rfl⟩ ydD (ydE _ _) (ydF l its.toArray n u (by rw[yM];omega)) ⟨e,?_⟩;refine⟨.non,_,I.lset (its':=its++[u]) a e (by simp) (r.append (.cons c .nil)) ?_,rfl,q⟩;rw[yI,List.length_singleton];omega
def zud:V->List V->Hp->VK->Prop:=fun x vs H Q=>∃l xs i k y,x = .ref l/\vs=[.int i]/\H l=aa (.lst xs) /\ -(2^63)<=i/\i<2^63/\bv i xs.length=aa k/\xs[k]?=aa y/\Q y (upd H l (.lst (xs.eraseIdx k)))
theorem zj7:MtM X "list.pop" zud:=by
 intro pins s σ H x vs v us Q I b c h;obtain⟨l,xs,i,k,y,rfl,rfl,a,o,m,j,f,q⟩:=h;cases b;obtain⟨u,rfl,d⟩:=c.one;obtain⟨t,rfl⟩:=d;obtain⟨z,its,n,r,hl,e⟩:=I.lstM a;obtain⟨w,g,R⟩:=r.get f;refine bF F.slot_list_pop ⟨_,e,rfl⟩ F.entry_list_pop (F.args_list_pop_2 _ _)
  (MeetsSeq.list_pop_at l its.toArray n i t k w (fitsIndex_both o m) (by rw[yM,<- hl];exact j) (by rw[<- ydG];exact g) (by rw[yM];omega)) ⟨e,?_⟩
 refine⟨y,_,I.lset (its':=its.eraseIdx k) a e ?_ (r.eraseIdx k) ?_,R,q⟩
 ·show its.toArray.eraseIdxIfInBounds k=(its.eraseIdx k).toArray;rw[List.eraseIdxIfInBounds_toArray]
 ·have:=zk4 xs k;omega
end
end L2
namespace Att
open PySem PySem.W PySem.Calls PyProof.Rows
variable{P:Params}{h:ax}
theorem zhR:∀(ns:List Int)(vs:List af),WellAll P h vs (ns.map WData.int)->bO vs ns:=by
 intro ns;induction ns with
 |nil=>
  intro vs w;rw[yba]at w;cases w;exact .nil
 |cons n ns i=>
  intro vs w;rw[yE]at w;cases w with
  |cons a b=>
   cases a;exact .cons _ _ (i _ b)
variable{n:Nat}
theorem zpV{l:OpenLaw}(hn:l.most=aa n){args:List WData}{v:List af}(H:l.row.toRowW.claim.pre args=ac)(g:WellAll P h v args) : ∃a vs ns,v=[yN a]/\args=[WData.list (ns.map WData.int)]/\h.get? a=aa { cls := .type "list", data := .seq vs.toArray }/\bO vs ns/\ns.length<=n:=by
 have i:WShape.hasAll [] args [.list .int]=ac:=(pre_splitW H).1;have j:l.pre.holds [] { args:=args }=ac:=(pre_splitW H).2;obtain⟨d,r,rfl,p,o⟩:=hasAllW_cons i;obtain rfl:=hasAllW_nil o;obtain⟨xs,rfl,m⟩:=hasW_list p;obtain⟨ns,rfl⟩:=items_int m;have b:ns.length<=n:=by
  unfold OpenLaw.pre at j;have f:(WTm.not (.lt (.lit (.int (n:Int))) (.len (.arg 0)))).holds [] { args:=[.list (ns.map .int)] }=ac:=by
   have f:=(holds_andW j).1;rw[hn]at f;exact f
  have e:=condW_of f (w_not (w_lt w_lit (w_len_list (w_arg rfl))));rw[yj]at e;refine yb6 fun q=>?_;have Q:(n:Int)<((ns.length:Nat):Int):=by omega
  first
   | (rw[decide_eq_true Q]at e;exact absurd e (by decide))
   | (simp at e;omega)
 cases g with
 |cons w1 w=>
  cases w;cases w1 with
  |list k c=>exact⟨_,_,ns,rfl,rfl,k,zhR ns _ c,b⟩
theorem zqo(l:OpenLaw)(args:List WData):l.row.toRowW.claim.post args (.bool ac) args=ac :=
 postW_of (r:=l.row.toRowW) (X:=(ac==ac))
  (show WShape.has [] (.bool ac) .bool=ac by first | rfl | decide | simp[WShape.has,WShape.arms,WShape.armsAll])
  (show (WTm.eq .res (.lit (.bool ac))).value [] { args:=args,res:=aa (.bool ac),after:=args }=aa (.bool (ac==ac)) from w_eq_bool (w_res rfl) w_lit) rfl
theorem attach_call{l:OpenLaw}{q:ap}{loose:List ae}{XP:(ae->Option af)->ax->Prop}{YP:al->ax->Prop}{d:DefRec}
  (hn:l.most=aa n) (i:d.params.defaults=[])
  (call:∀(w:al)(s₀ s : aj)(mg mb:ae->Option af)(F:ad)(o:av)(pm C doc:af)(a:ad)(vs:List af)(ns:List Int),
   Ground q loose [] XP w s₀ mg mb s.heap->YP w s.heap →
   s.heap.get? F=aa o->o.data = .func (docDef d.name d.params d.body d.scope pm C doc)->s.heap.CodeRec C d.name->mg d.name=aa (.ref F) →
   s.heap.get? a=aa { cls := .type "list", data := .seq vs.toArray }->bO vs ns->ns.length<=n->s.gens = #[] →
   codeAny (ao l.prog w) bj (.call (.ref F) ⟨[.ref a],[]⟩) (fun r S=>r = .ok (.ret (.bool ac))/\OldK s.heap S.heap/\S.os=s.os/\a9 S.gens) s) :
  WalkO q loose XP YP l.row.toRowW d [] (fun f vs=>yb7 f vs):=by
 intro w s₀ s mg mb G Y F o pm C doc D kV u hd j m g y args v as H k p e x;obtain rfl:D = .none:=Dflts.none m i;obtain rfl:kV = .none:=Dflts.noKw m;obtain⟨a,vs,ns,rfl,rfl,b,h,c⟩:=zpV hn H e;refine enter_call (b8 (call w s₀ s mg mb F o pm C doc a vs ns G Y u (fd_plain hd) j g b h c y) fun r S t=>?_);obtain⟨rfl,B,A,z⟩:=t;exact⟨.inl ⟨.bool ac,.bool ac,[],rfl,fun _=>rfl,.bool ac,zqo l _,fun _=>⟨List.Pairwise.nil,fun _ hm=>(nomatch hm)⟩⟩,B,A,z⟩
section
variable{prog:ap}{w:al}{A:aA}{E:af->aj->Prop}{s:aj}{K:Frag}
end
end Att
namespace L2
open PySem PySem.Spec PyProof.Rows
theorem zha:∀{vs:List af}{ns:List Int},bO vs ns->Vals (ns.map V.int) vs
 |_,_,.nil=>.nil|_,_,.cons n t h=>.cons ⟨t,rfl⟩ (zha h)
def Only(H:Hp):Prop:=∀b,H b=ab∨∃o xs,H b=aa (.frz o (.lst xs))
variable{CX:CXT}{x:ae}
theorem ztK{P:ap}{w:al}{K:ye}{mg mb:ae->Option af}{k:Nat}{I a:ad}{fd:aH}{sp:Sp}{S : aj}{vs:List af}{ns:List Int}
  (Q:K.In S.heap) (j:S.heap.Ns aD mg) (c:S.heap.Ns b6 mb) (E:∀x:ae,x ≠ "__name__" -> mb x=aZ x) (p:S.heap.NoLimit) (W:S.gens = #[])
  (ha:S.heap.get? a=aa { cls := .type "list", data := .seq vs.toArray }) (hi:bO vs ns) (hl:ns.length<=sizeLine) (hr:Room k bj)
  (F:∀base:ax,K.In base->base.Ns aD mg->FnOk P w K mg base CX k I fd [x] sp) (g:∀(s:aj)(u:af),bC s fd ⟨[u],[]⟩ [(x,u)])
  (A:∀H:Hp,Only H->SqL K H a (ns.map V.int)->sp [.ref a] H (fun v _=>v = .bl ac) fun _ _ _=>False)
  (G:∀H e f,CX [] H S (fun _ _ _=>False) e f->False) :
  codeAny (ao P w) bj (.call (.ref I) ⟨[.ref a],[]⟩) (fun r f=>r = .ok (.ret (.bool ac))/\OldK S.heap f.heap/\f.os=S.os/\a9 f.gens) S := by
 have R:=zha hi;have l:=hi.length;have C:∀H:Hp,Only H->SqL K H a (ns.map V.int)->HOk P w H S.heap->(∀b,H b≠ab->b=a)->(H a≠ab->K.lookup a=ab) →
   codeAny (ao P w) bj (.call (.ref I) ⟨[.ref a],[]⟩) (fun r f=>r = .ok (.ret (.bool ac))/\OldK S.heap f.heap/\f.os=S.os/\a9 f.gens) S := by
  intro H L X hok M hK;have B:∀{b:ad}{o:av},S.heap.get? b=aa o->H b=ab->(ztR S.heap H).get? b=aa o:=fun e n=>ztQ e n;have y:∀{b:ad}{o:av}{es:Array DictEntry}{ep:Nat},S.heap.get? b=aa o->o.data = .dict es ep->H b=ab:=fun {b o es ep} e d=>by
   cases q:H b with
   |none=>rfl|some u=>
    have J:b=a:=M b (by rw[q];simp);subst J;rw[ha]at e;cases e;have d':Data.seq vs.toArray _=Data.dict es ep:=d;cases d'
  have N:∀{b:ad}{m:ae->Option af},S.heap.Ns b m->(ztR S.heap H).Ns b m:=fun {b m} ⟨o,es,ep,e,d,r⟩=>⟨o,es,ep,B e (y e d),d,r⟩;have t:K.In (ztR S.heap H):=fun b o e=>B (Q b o e) (by
   cases q:H b with
   |none=>rfl|some u=>
    have J:b=a:=M b (by rw[q];simp);subst J;rw[hK (by rw[q];simp)]at e;cases e)
  have Y:Mod K mg (ztR S.heap H):=⟨t,N j,⟨mb,N c,E⟩,let ⟨mc,h1,h2⟩:=p;⟨mc,N h1,h2⟩⟩;have e0:Env0 P w K mg (ztR S.heap H) bj [] S H:=⟨rfl,Y,fun b o e=>zvU e,yb2 (zrN _ _),trivial,fun b c=>absurd (show b∈([]:List ad) from c) (by simp),hok,.of_eq W⟩;refine b8 ((F _ t (N j)).run bj [] S H ⟨[.ref a],[]⟩ [.ref a] [.ref a] _ _ hr e0 (g S (.ref a)) (.cons rfl .nil) (A H L X)) fun r f h=>?_;cases r with
  |error e=>exact(G H e f h).elim|ok fl=>
   cases fl with
   |next=>exact False.elim h|brk=>exact False.elim h|cont=>exact False.elim h|ret u=>
    obtain⟨v,H',os,bare,un,i,r',q⟩:=h;have U:v = .bl ac:=q;subst U;obtain rfl:u=ybB ac:=r';refine⟨rfl,OldK.of_keep fun b o e=>?_,os,bare⟩;cases q:H b with
    |none=>exact un.keep b o e q (by intro z;exact absurd (show b∈([]:List ad) from z) (by simp)) (by simp)|some u=>
     rcases L b with z|⟨ob,xs,z⟩
     ·rw[q]at z;cases z
     ·have T:=un.frzs b ob _ z;obtain⟨O,_⟩:=hok b _ z;obtain⟨e2,_⟩:=i b _ T;rw[e]at O;cases O;exact e2
 cases D:K.lookup a with
 |some o=>
  have e:=Q a o D;rw[ha]at e;cases e;refine C (fun _=>ab) (fun _=>.inl rfl) (.inr ⟨_,vs.toArray,_,D,rfl,rfl,rfl,by rw[yM,l];exact hl,by simpa using R⟩) (fun b u z=>by have Z:(ab:Option HO)=aa u:=z;cases Z) (fun b z=>absurd rfl z) fun z=>absurd rfl z
 |none=>
  refine C (fun b=>if b=a then aa (.frz { cls := .type "list", data := .seq vs.toArray } (.lst (ns.map V.int))) else ab) (fun b=>?_) (.inl (.inr ⟨{ cls := .type "list", data := .seq vs.toArray },if_pos rfl⟩)) (fun b u z=>?_) (fun b z=>?_) fun _=>D
  ·by_cases c:b=a
   ·exact .inr ⟨_,_,if_pos c⟩
   ·exact .inl (if_neg c)
  ·by_cases c:b=a
   ·have Z:=(if_pos c).symm.trans z;cases Z;subst c;exact⟨ha,by rw[yj];exact hl,vs,_,R,ha⟩
   ·have Z:=(if_neg c).symm.trans z;cases Z
  ·by_cases c:b=a
   ·exact c
   ·exact absurd (if_neg c) z
variable{n:Nat}{q:ap}{loose:List ae}{XP:(ae->Option af)->ax->Prop}{YP:al->ax->Prop}{d:DefRec}{K:Params->ye}
theorem zuI{l:yb8}{k:Nat}{CX:al->CXT}{sp:al->Sp}(hn:l.most=aa n)(p:n<=sizeLine)(t:d.params.defaults=[])(hr:Room k bj)(D:∀(w:al)(h:ax),YP w h->(K w.params).In h)(F:∀(w:al)(mg:ae->Option af)(i:ad)(h:ax),(K w.params).In h->h.Ns aD mg->mg d.name=aa (.ref i)->∃fd:aH,(∀(s:aj)(u:af),bC s fd ⟨[u],[]⟩ [(x,u)])∧∀base:ax,(K w.params).In base->base.Ns aD mg->FnOk l.prog w (K w.params) mg base (CX w) k i fd [x] (sp w))(m:∀(w:al)(H:Hp)(a:ad)(ns:List Int),ns.length<=n->Only H->SqL (K w.params) H a (ns.map V.int)->sp w [.ref a] H (fun v _=>v = .bl ac) fun _ _ _=>False)(y:∀(w:al)(H:Hp)(s:aj)(e:af)(j:aj),CX w [] H s (fun _ _ _=>False) e j->False) : ydH q loose XP YP l.row.toRowW d [] (fun f vs=>yb7 f vs):=by
 refine Att.attach_call hn t fun w s₀ S mg mb i o pm M doc a vs ns G Y L hd B r g c b A=>?_;have z:=D w _ Y;obtain⟨fd,C,J⟩:=F w mg i _ z G.T.g r;exact ztK z G.T.g G.T.b G.T.builtins G.T.nolimit A g c (yO b p) hr J C (fun H I E=>m w H a ns b I E) fun H e j=>y w H S e j
theorem walk_ofK{l:yb8}{k:Nat}{sp:ye->Sp}(hn:l.most=aa n)(c:n<=sizeLine)(g:d.params.defaults=[])(hr:Room k bj)(m:∀(w:al)(h:ax),YP w h->(K w.params).In h)(F:∀(w:al)(mg:ae->Option af)(j:ad)(h:ax),(K w.params).In h->h.Ns aD mg->mg d.name=aa (.ref j)->∃fd:aH,(∀(s:aj)(u:af),bC s fd ⟨[u],[]⟩ [(x,u)])∧∀base:ax,(K w.params).In base->base.Ns aD mg->FnOk l.prog w (K w.params) mg base CX k j fd [x] (sp (K w.params)))(b:∀(K:ye)(H:Hp)(a:ad)(ns:List Int),ns.length<=n->Only H->SqL K H a (ns.map V.int)->sp K [.ref a] H (fun v _=>v = .bl ac) fun _ _ _=>False)(i:∀(H:Hp)(s:aj)(e:af)(S:aj),CX [] H s (fun _ _ _=>False) e S->False) : ydH q loose XP YP l.row.toRowW d [] (fun f vs=>yb7 f vs) :=
 zuI (K:=K) (CX:=fun _=>CX) (sp:=fun w=>sp (K w.params)) hn c g hr m F (fun w H a ns r p o=>b (K w.params) H a ns r p o) fun _ H s e S=>i H s e S
end L2
namespace L2
open PySem PySem.Spec PyProof.Rows
def zam(s:am)(j:Nat):am:=match s with
 |.ClassDef _ _ _ body _ _ _ _ _ _ _=>body.getD j (.Pass ⟨0,0,0,0⟩)|_=>.Pass ⟨0,0,0,0⟩
def zgq(s:am):Arguments:=match s with
 |.FunctionDef _ a _ _ _ _ _ _ _ _=>a|_=>{ posonlyargs:=[],args:=[],vararg:=ab,kwonlyargs:=[],kw_defaults:=[],kwarg:=ab,defaults:=[] }
def zcs(s:am):List am:=match s with
 |.FunctionDef _ _ b _ _ _ _ _ _ _=>b|_=>[]
def zai(s:am):aG:=match s with
 |.FunctionDef _ _ _ _ _ _ sc _ _ _=>sc|_=>{ kind := .function,names:=[],isGenerator:=ag,isCoroutine:=ag }
abbrev CX0:CXT:=fun _ _ _ _ _ _=>False
abbrev E0:XK:=fun _ _ _=>False
theorem ztt{X:Cx}:zif CX0 X E0:=fun _ _ _ _ _ _ _ h=>h.elim
structure Fun(K:ye)(x qual:ae)(st:am)(f:ad)(fd:aH):Prop where
 ex:∃(oc:af)(od:Option ad)(kV doc pm:af)(an:Option ad)(cdv ct:af)(osl:Array (Option af)),
  fd=ybp x qual (zgq st) (zcs st) (zai st) .none kV doc pm an cdv ct/\K.lookup f=aa ⟨oc,od,.func fd,osl⟩/\ycI K cdv qual=ac
 kp:yaK K (.ref f)=ac
variable{x qual:ae}{st:am}{f:ad}{fd:aH}{ps:List ae}
section
variable{P:ap}{w:al}{K:ye}{mg:ae->Option af}{base:ax}
theorem Fun.ok{N:List ae}{k:Nat}{sp:Sp}(F:Fun K x qual st f fd)(S:FnScope N ps (zai st))(len:∀vs H Q E,sp vs H Q E->vs.length=ps.length)(a:∀(cdv:af)(A:aA)(outer:List Env)(s:aj)(H:Hp)(vs:List V)(Q:VK)(E:XK),Room k (A.deeper (aN qual (zai st) s.heap.objs.size f cdv))->sp vs H Q E->∃t,PSs (zpu CX0 P w K mg base N qual (zai st) f cdv A outer s H E).nox (zcs st) t/\t { nx:=fun _ H'=>Q .non H',rt:=Q } (start N vs) H):FnOk P w K mg base CX0 (k+1) f fd ps sp:=by
 obtain⟨oc,od,kV,doc,pm,an,cdv,ct,osl,rfl,l,c⟩:=F.ex;refine fn_of l c S len fun A outer s H vs Q E hr b=>?_;obtain⟨t,h,q⟩:=a cdv A outer s H vs Q E hr b;exact⟨t,h.nox,q⟩
theorem Fun.binds(F:Fun K x qual st f fd)(h:∀(kV doc pm:af)(an:Option ad)(cdv ct:af)(us:List af),us.length=ps.length->bindArgs (ybp x qual (zgq st) (zcs st) (zai st) .none kV doc pm an cdv ct) ⟨us,[]⟩=pure (ps.zip us)):Binds K fd ps []:=by
 obtain⟨oc,od,kV,doc,pm,an,cdv,ct,osl,rfl,l,H⟩:=F.ex;exact .all (h kV doc pm an cdv ct)
end
theorem zrM{A:aA}{k:Nat}(hr:Room k A):A.units+1<aF:=ycO (Nat.add_le_add_left (by decide:1<=64) _) hr.units
def Same(H H':Hp):Prop:=∀b o,H b=aa o->H' b=aa o
theorem Same.refl(H:Hp):Same H H:=fun _ _ h=>h
end L2
namespace MD
open PySem PySem.Spec PyProof.Rows L2
def Kof(n:Nat)(h:ax):ye:=(yJ n).filterMap fun a=>(h.get? a).map fun o=>(a,o)
abbrev FnT:=Option (ae×ae×Arguments×List am×aG)
def zpB(v:af):Bool:=match v with
 |.none=>ac|_=>ag
def fnV(K:ye)(f:ad):FnT×Bool:=match K.lookup f with
 |some ⟨_,_,.func ⟨x,q,ps,.stmts b,sc,g,[],d,_,_,_,_,c,_,bl⟩,_⟩=>(aa (x,q,ps,b,sc),Nat.beq g aD&&Nat.beq bl b6&&zpB d&&ycI K c q)|_=>(ab,ag)
def viewOf(keep:List Nat)(p:ap):ap:={ p with main:={ p.main with body:=keep.filterMap fun i=>p.main.body[i]? } }
def zsL:List ae->List af->Bool
 |[],[]=>ac|x::xs,.str y _::ys=>decide (x=y)&&zsL xs ys|_,_=>ag
def conB(K:ye)(a:ad)(s:List ae):Bool:=match K.lookup a with
 |some o=>(o.cls == .type "tuple")&&o.dict.isNone&&match o.data with
  |.seq its _=>decide (its.size<=sizeLine)&&zsL s its.toList|_=>ag
 |none=>ag
end MD
namespace MD
open PySem PySem.W
def topT(tb:String->Option aK)(p:ap)(w:al)(N : Nat)(a:Option af):Nat->aX->Thread->Option aX
 |0,_,_=>ab|n+1,s,t=>match through t with
  |true=>aa s|false=>match stepOk N a t with
   |false=>ab|true=>match stepT (denote tb) p w s t with
    |some (s',t')=>topT tb p w N a n s' t'|none=>ab
theorem zpI{tb:String->Option aK}{p:ap}{w:al}{N : Nat}{a:Option af}:∀{n:Nat}{s S:aX}{t:Thread},topT tb p w N a n s t=aa S->topRun tb p w N a n s.abs t=aa S.abs
 |0,_,_,_,h=>by cases h|n+1,s,S,t,h=>by
  unfold topT at h;unfold topRun;cases c:through t with
  |true=>rw[c]at h;cases h;rfl|false=>
   rw[c]at h;cases H:stepOk N a t with
   |false=>rw[H]at h;cases h|true=>
    rw[H]at h;cases hs:stepT (denote tb) p w s t with
    |none=>rw[hs]at h;cases h|some r=>obtain⟨b,T⟩:=r;rw[hs]at h;dsimp only;rw[stepT_spec hs];exact zpI h
def zno:List av->Nat->BT->Option BT
 |[],_,T=>aa T|o::r,n,T=>match ((T.ins n o).get n).isSome with
  |true=>zno r (n+1) (T.ins n o)|false=>ab
theorem ziH{life:Life}:∀{l:List av}{n:Nat}{T t:BT},zno l n T=aa t->bG t (n+l.length) life=⟨(bG T n life).objs++l.toArray,life⟩
 |[],n,T,t,h=>by
  cases h;show bG T n life=_;simp only[Array.append_empty,List.toArray];rfl
 |o::r,n,T,t,h=>by
  unfold zno at h;cases q:((T.ins n o).get n).isSome with
  |false=>rw[q]at h;cases h|true=>
   rw[q]at h;have z:=ziH (life:=life) h;rw[yD,show n+(r.length+1)=n+1+r.length by omega,z,absHeap_ins q];show Heap.mk (((bG T n life).objs.push o)++r.toArray) life=_;congr 1;apply yb9;simp
def zuK(p:ap)(w:al)(N:Nat)(s₀ : aj):Option aX :=
 match s₀.heap.isNs aD&&s₀.gens.size==0 with
 |true=>(zno s₀.heap.objs.toList 0 .nil).bind fun T=>(topT bW p w s₀.heap.objs.size (s₀.heap.nsMap aD "__annotations__") N ⟨T,s₀.heap.objs.toList.length,s₀.heap.life,s₀.gens,s₀.drawn,s₀.toks,s₀.os⟩ (topStub p)).bind fun s=>
   match staticsOk (b9 p.main.body) s₀.heap s.abs.heap&&namesBound p s.abs.heap&&gensDone s.abs&&laidKept s₀.heap s.abs.heap with
   |true=>aa s|false=>ab
 |false=>ab
variable{p:ap}{N:Nat}{s:aX}
theorem zsI{w:al}{s₀ : aj}(h:zuK p w N s₀ = aa s):topFrom bW p w N s₀ = aa s.abs:=by
 unfold zuK at h;unfold topFrom;cases q:s₀.heap.isNs aD&&s₀.gens.size==0 with
 |false=>rw[q]at h;cases h|true=>
  rw[q]at h;obtain⟨T,H,h⟩:=yaB.mp h;obtain⟨S,a,h⟩:=yaB.mp h;have e:=ziH (life:=s₀.heap.life) H;have A:(⟨T,s₀.heap.objs.toList.length,s₀.heap.life,s₀.gens,s₀.drawn,s₀.toks,s₀.os⟩:aX).abs=s₀ := by
   rw[yL]at e;show Shared.mk (bG T _ _) _ _ _ _=_;rw[e];obtain⟨⟨objs,life⟩,gens,drawn,t,os⟩:=s₀;simp[bG,BT.list]
  have r:=zpI a;rw[A]at r;dsimp only;rw[r];show (match _ with | true=>aa S.abs | false=>ab)=_;cases g:staticsOk (b9 p.main.body) s₀.heap S.abs.heap&&namesBound p S.abs.heap&&gensDone S.abs&&laidKept s₀.heap S.abs.heap with
  |false=>rw[g]at h;cases h|true=>rw[g]at h;cases h;rfl
def endsT(p:ap)(w:al)(N:Nat):Option aX:=(fencedOpening bW p w N).bind (zuK p w N)
theorem ztY{w:al}(h:endsT p w N=aa s):openEnds bW p w N=aa s.abs:=by
 obtain⟨s₀,a,H⟩:=yaB.mp h;exact yaB.mpr ⟨s₀,a,zsI H⟩
def getT(s:aX)(a:Nat):Option av:=match Nat.blt a s.n with
 |true=>alive ((s.tree.get a).getD default)|false=>ab
theorem zwo(s:aX)(a:Nat):s.abs.heap.get? a=getT s a:=by
 show (bG s.tree s.n s.life).get? a=getT s a;unfold Heap.get? getT;rw[absHeap_at];cases h:Nat.blt a s.n with
 |false=>rw[if_neg (fun z=>by rw[(Nat.blt_eq).mpr z]at h;cases h)]|true=>
  rw[if_pos ((Nat.blt_eq).mp h)];generalize (s.tree.get a).getD default=o;obtain⟨c,d,D,sl⟩:=o;cases D <;> rfl
def zsC(n:Nat)(s:aX):ye:=(yJ n).filterMap fun a=>(getT s a).map fun o=>(a,o)
theorem zwD(n:Nat)(s:aX):zsC n s=Kof n s.abs.heap:=by
 unfold zsC Kof;congr 1;funext a;rw[zwo]
theorem zr5{w:al}{n:Nat}{α β : Type}{f:aj->α}{g:ye -> β}{a:α × β}(h:(endsT p w N).map (fun s=>(f s.abs,g (zsC n s)))=aa a):(openEnds bW p w N).map (fun s=>(f s,g (Kof n s.heap)))=aa a:=by
 obtain⟨s,b,H⟩:=yat.mp h;rw[ztY b];refine congrArg aa ?_;rw[<- H,zwD]
end MD
namespace K61
open PySem PyProof.Rows L2 MD
abbrev pw:ap:=PySem.Challenge.pw_shorthead_k61_whole_read_within_skips
def za2(P:ap)(i:Nat):am:=P.main.body.getD i (.Pass ⟨0,0,0,0⟩)
def top:Nat->am:=za2 pw
abbrev zjH:am:=top 11
abbrev zmh:am:=top 12
abbrev zhn:am:=top 13
abbrev zf7:am:=top 14
abbrev zhi:am:=top 15
abbrev zjE:am:=top 17
abbrev zf9:am:=top 18
abbrev zjF:am:=top 19
abbrev zp2:am:=top 20
abbrev zhs:am:=top 21
abbrev zl9:am:=top 23
abbrev zhh:am:=top 24
abbrev zmj:am:=top 25
abbrev zhv:am:=top 27
abbrev zmf:am:=top 28
abbrev zhu:am:=top 29
abbrev zl6:am:=top 30
abbrev zjG:am:=top 31
abbrev zjw:am:=top 33
abbrev zl5:am:=top 34
abbrev zma:am:=top 35
abbrev zl7:am:=top 36
abbrev zmc:am:=top 37
abbrev zf1:am:=top 38
abbrev zmg:am:=top 40
abbrev zf3:am:=top 41
abbrev ze1:am:=top 42
abbrev zeX:am:=top 43
abbrev zho:am:=top 44
abbrev zhk:am:=top 45
abbrev zmb:am:=top 46
abbrev zp3:am:=top 48
abbrev ze0:am:=top 49
abbrev zea:am:=top 51
abbrev zd6:am:=zam (top 52) 0
abbrev zdF:am:=zam (top 52) 1
abbrev zdG:am:=zam (top 52) 2
abbrev zd5:am:=zam (top 52) 3
abbrev zcP:am:=zam (top 52) 5
abbrev zcQ:am:=zam (top 52) 8
abbrev zch:am:=zam (top 52) 9
abbrev zcO:am:=zam (top 52) 10
abbrev zcD:am:=zam (top 52) 11
abbrev zbX:am:=zam (top 52) 12
abbrev zcE:am:=zam (top 52) 13
abbrev zcg:am:=zam (top 52) 14
abbrev zl4:am:=top 54
abbrev zf2:am:=top 55
abbrev zeW:am:=zam (top 56) 0
abbrev zeV:am:=zam (top 56) 1
abbrev zdE:am:=zam (top 56) 2
abbrev zf6:am:=zam (top 56) 3
abbrev zd3:am:=zam (top 56) 5
abbrev zdD:am:=zam (top 56) 6
abbrev zdf:am:=zam (top 56) 7
abbrev zd4:am:=zam (top 56) 8
abbrev zcN:am:=zam (top 56) 9
abbrev zeU:am:=zam (top 56) 10
abbrev zht:am:=top 61
abbrev zhm:am:=zam (top 62) 0
abbrev zl8:am:=zam (top 62) 1
abbrev zd1:am:=zam (top 62) 2
abbrev zf4:am:=zam (top 62) 3
abbrev zf5:am:=zam (top 62) 4
abbrev zjx:am:=zam (top 62) 5
abbrev zhl:am:=zam (top 62) 8
abbrev zdC:am:=zam (top 62) 9
abbrev zeS:am:=zam (top 62) 10
abbrev zeT:am:=zam (top 62) 11
abbrev zcC:am:=zam (top 62) 12
abbrev zd2:am:=zam (top 62) 13
abbrev zme:am:=top 64
abbrev zjB:am:=top 65
abbrev zp1:am:=top 66
abbrev zhp:am:=top 67
abbrev zjC:am:=top 68
abbrev zhq:am:=top 69
abbrev zmd:am:=top 70
abbrev zjD:am:=top 71
abbrev zjz:am:=top 72
abbrev zjA:am:=top 73
abbrev zeZ:am:=top 74
abbrev zd9:am:=top 75
abbrev zd8:am:=top 76
abbrev zf8:am:=top 77
abbrev zd7:am:=top 78
abbrev zeY:am:=top 79
abbrev zhr:am:=top 80
abbrev zjy:am:=top 81
abbrev sLaw:am:=top 82
def nms:List ae:=(["are_bits", "bits_of", "number_of", "numbers_of", "width_for", "is_whole", "is_between", "is_value", "is_row", "is_worded", "rest_of", "windowed", "around", "breadths", "is_head", "expected", "turned", "check_of", "width_of", "widths", "pieces", "size_of", "opened", "value_told", "form_at", "sort_width", "check_width", "letter_size", "letter_by", "sort_told"]:List (ae))++(["parted", "doubt", "first_other", "former_heads", "word_of", "those_kept", "is_placed", "_law_box", "_law_next", "_law_of", "_law_value", "_law_kind", "_law_shape", "_law_way", "_law_form", "_law_road", "_law_pact", "_law_any_head", "_law_expected", "_law_next_head", "_law_fit_way", "_law_road_pact", "_law_may_come", "_law_comes", "_law_step", "law", "Presser", "Reader", "Road", "DONE"]:List (ae))++(["LETTER_DEEDS", "WORD_DEEDS", "ValueError", "all", "sum", "enumerate", "len", "tuple", "max", "range", "min", "isinstance", "str", "int", "any", "dict", "list", "bool", "zip", "sorted", "abs", "reversed"]:List (ae))
def nmsE:List (Option (Option af)):=([aa (aa (.ref 125)),aa (aa (.ref 130)),aa (aa (.ref 137)),aa (aa (.ref 144)),aa (aa (.ref 151)),aa (aa (.ref 158)),aa (aa (.ref 165)),aa (aa (.ref 172)),aa (aa (.ref 179)),aa (aa (.ref 186)),aa (aa (.ref 193)),aa (aa (.ref 200)),aa (aa (.ref 207)),aa (aa (.ref 212)),aa (aa (.ref 217)),aa (aa (.ref 224)),aa (aa (.ref 231)),aa (aa (.ref 236)),aa (aa (.ref 243)),aa (aa (.ref 248)),aa (aa (.ref 253)),aa (aa (.ref 260)),aa (aa (.ref 267)),aa (aa (.ref 274)),aa (aa (.ref 281)),aa (aa (.ref 288)),aa (aa (.ref 295)),aa (aa (.ref 302)),aa (aa (.ref 309)),aa (aa (.ref 316))]:List (Option (Option af)))++([aa (aa (.ref 323)),aa (aa (.ref 330)),aa (aa (.ref 337)),aa (aa (.ref 342)),aa (aa (.ref 466)),aa (aa (.ref 471)),aa (aa (.ref 568)),aa (aa (.ref 687)),aa (aa (.ref 694)),aa (aa (.ref 701)),aa (aa (.ref 708)),aa (aa (.ref 713)),aa (aa (.ref 720)),aa (aa (.ref 727)),aa (aa (.ref 732)),aa (aa (.ref 739)),aa (aa (.ref 744)),aa (aa (.ref 749)),aa (aa (.ref 756)),aa (aa (.ref 763)),aa (aa (.ref 770)),aa (aa (.ref 775)),aa (aa (.ref 780)),aa (aa (.ref 787)),aa (aa (.ref 794)),aa (aa (.ref 801)),aa (aa (.ref 455)),aa (aa (.ref 556)),aa (aa (.ref 676)),aa (aa (.ref 563))]:List (Option (Option af)))++([aa (aa (.ref 561)),aa (aa (.ref 562)),aa ab,aa ab,aa ab,aa ab,aa ab,aa ab,aa ab,aa ab,aa ab,aa ab,aa ab,aa ab,aa ab,aa ab,aa ab,aa ab,aa ab,aa ab,aa ab,aa ab]:List (Option (Option af)))
def fnd:List (ad×ae):=([(455, "__setattr__"),(556, "__setattr__"),(676, "__setattr__"),(455, "base"),(455, "fresh"),(455, "had"),(455, "pact"),(455, "pressed"),(556, "held"),(556, "highest"),(556, "pact"),(676, "coming_back"),(676, "furthest"),(676, "pact"),(676, "presser"),(676, "reader"),(676, "under_way"),(455, "__init__"),(455, "press"),(455, "heard"),(455, "sent"),(455, "formers"),(455, "ask_head"),(455, "hindrance"),(455, "heard_of"),(455, "shortest"),(455, "is_told_anew"),(455, "is_shared"),(455, "is_counted"),(556, "__init__")]:List (ad×ae))++([(556, "read"),(556, "forget"),(556, "top"),(556, "least"),(556, "is_late"),(556, "nearest"),(556, "is_far"),(556, "head_told"),(556, "rise"),(676, "__init__"),(676, "do"),(676, "letters"),(676, "words"),(676, "heads"),(676, "top"),(676, "send"),(676, "do_letter"),(676, "do_word"),(676, "arrive"),(676, "is_overtaken"),(676, "is_ahead")]:List (ad×ae))
def fndE:List (Option (Option af)):=([aa (aa (.builtin "object.__setattr__")),aa (aa (.builtin "object.__setattr__")),aa (aa (.builtin "object.__setattr__")),aa ab,aa ab,aa ab,aa ab,aa ab,aa ab,aa ab,aa ab,aa ab,aa ab,aa ab,aa ab,aa ab,aa ab,aa (aa (.ref 356)),aa (aa (.ref 363)),aa (aa (.ref 370)),aa (aa (.ref 377)),aa (aa (.ref 391)),aa (aa (.ref 412)),aa (aa (.ref 419)),aa (aa (.ref 426)),aa (aa (.ref 433)),aa (aa (.ref 440)),aa (aa (.ref 445)),aa (aa (.ref 452)),aa (aa (.ref 485))]:List (Option (Option af)))++([aa (aa (.ref 492)),aa (aa (.ref 499)),aa (aa (.ref 506)),aa (aa (.ref 520)),aa (aa (.ref 527)),aa (aa (.ref 532)),aa (aa (.ref 539)),aa (aa (.ref 546)),aa (aa (.ref 553)),aa (aa (.ref 582)),aa (aa (.ref 589)),aa (aa (.ref 596)),aa (aa (.ref 603)),aa (aa (.ref 610)),aa (aa (.ref 617)),aa (aa (.ref 638)),aa (aa (.ref 645)),aa (aa (.ref 652)),aa (aa (.ref 659)),aa (aa (.ref 666)),aa (aa (.ref 673))]:List (Option (Option af)))
def fnsa:List ad:=[125,130,137,144,151,158,165,172,179,186,193,200,207,212,217]
def fnsb:List ad:=[224,231,236,243,248,253,260,267,274,281,288,295,302,309,316]
def fnsc:List ad:=[323,330,337,342,356,363,370,377,391,412,419,426,433,440,445]
def fnsd:List ad:=[452,466,471,485,492,499,506,520,527,532,539,546,553,568,582]
def fnse:List ad:=[589,596,603,610,617,638,645,652,659,666,673,687,694,701,708]
def fnsf:List ad:=[713,720,727,732,739,744,749,756,763,770,775,780,787,794,801]
def fns:List ad:=fnsa++fnsb++fnsc++fnsd++fnse++fnsf
def fnE(x q:ae)(st:am):FnT×Bool:=(aa (x,q,zgq st,zcs st,zai st),ac)
def fnsaZ(P:ap):List (FnT×Bool):=[fnE "are_bits" "are_bits" (za2 P 11),fnE "bits_of" "bits_of" (za2 P 12),fnE "number_of" "number_of" (za2 P 13),fnE "numbers_of" "numbers_of" (za2 P 14),fnE "width_for" "width_for" (za2 P 15),fnE "is_whole" "is_whole" (za2 P 17),fnE "is_between" "is_between" (za2 P 18),fnE "is_value" "is_value" (za2 P 19),fnE "is_row" "is_row" (za2 P 20),fnE "is_worded" "is_worded" (za2 P 21),fnE "rest_of" "rest_of" (za2 P 23),fnE "windowed" "windowed" (za2 P 24),fnE "around" "around" (za2 P 25),fnE "breadths" "breadths" (za2 P 27),fnE "is_head" "is_head" (za2 P 28)]
def fnsaE:List (FnT×Bool):=fnsaZ pw
def fnsbZ(P:ap):List (FnT×Bool):=[fnE "expected" "expected" (za2 P 29),fnE "turned" "turned" (za2 P 30),fnE "check_of" "check_of" (za2 P 31),fnE "width_of" "width_of" (za2 P 33),fnE "widths" "widths" (za2 P 34),fnE "pieces" "pieces" (za2 P 35),fnE "size_of" "size_of" (za2 P 36),fnE "opened" "opened" (za2 P 37),fnE "value_told" "value_told" (za2 P 38),fnE "form_at" "form_at" (za2 P 40),fnE "sort_width" "sort_width" (za2 P 41),fnE "check_width" "check_width" (za2 P 42),fnE "letter_size" "letter_size" (za2 P 43),fnE "letter_by" "letter_by" (za2 P 44),fnE "sort_told" "sort_told" (za2 P 45)]
def fnsbE:List (FnT×Bool):=fnsbZ pw
def fnscZ(P:ap):List (FnT×Bool):=[fnE "parted" "parted" (za2 P 46),fnE "doubt" "doubt" (za2 P 48),fnE "first_other" "first_other" (za2 P 49),fnE "former_heads" "former_heads" (za2 P 51),fnE "__init__" "Presser.__init__" (zam (za2 P 52) 0),fnE "press" "Presser.press" (zam (za2 P 52) 1),fnE "heard" "Presser.heard" (zam (za2 P 52) 2),fnE "sent" "Presser.sent" (zam (za2 P 52) 3),fnE "formers" "Presser.formers" (zam (za2 P 52) 5),fnE "ask_head" "Presser.ask_head" (zam (za2 P 52) 8),fnE "hindrance" "Presser.hindrance" (zam (za2 P 52) 9),fnE "heard_of" "Presser.heard_of" (zam (za2 P 52) 10),fnE "shortest" "Presser.shortest" (zam (za2 P 52) 11),fnE "is_told_anew" "Presser.is_told_anew" (zam (za2 P 52) 12),fnE "is_shared" "Presser.is_shared" (zam (za2 P 52) 13)]
def fnscE:List (FnT×Bool):=fnscZ pw
def fnsdZ(P:ap):List (FnT×Bool):=[fnE "is_counted" "Presser.is_counted" (zam (za2 P 52) 14),fnE "word_of" "word_of" (za2 P 54),fnE "those_kept" "those_kept" (za2 P 55),fnE "__init__" "Reader.__init__" (zam (za2 P 56) 0),fnE "read" "Reader.read" (zam (za2 P 56) 1),fnE "forget" "Reader.forget" (zam (za2 P 56) 2),fnE "top" "Reader.top" (zam (za2 P 56) 3),fnE "least" "Reader.least" (zam (za2 P 56) 5),fnE "is_late" "Reader.is_late" (zam (za2 P 56) 6),fnE "nearest" "Reader.nearest" (zam (za2 P 56) 7),fnE "is_far" "Reader.is_far" (zam (za2 P 56) 8),fnE "head_told" "Reader.head_told" (zam (za2 P 56) 9),fnE "rise" "Reader.rise" (zam (za2 P 56) 10),fnE "is_placed" "is_placed" (za2 P 61),fnE "__init__" "Road.__init__" (zam (za2 P 62) 0)]
def fnsdE:List (FnT×Bool):=fnsdZ pw
def fnseZ(P:ap):List (FnT×Bool):=[fnE "do" "Road.do" (zam (za2 P 62) 1),fnE "letters" "Road.letters" (zam (za2 P 62) 2),fnE "words" "Road.words" (zam (za2 P 62) 3),fnE "heads" "Road.heads" (zam (za2 P 62) 4),fnE "top" "Road.top" (zam (za2 P 62) 5),fnE "send" "Road.send" (zam (za2 P 62) 8),fnE "do_letter" "Road.do_letter" (zam (za2 P 62) 9),fnE "do_word" "Road.do_word" (zam (za2 P 62) 10),fnE "arrive" "Road.arrive" (zam (za2 P 62) 11),fnE "is_overtaken" "Road.is_overtaken" (zam (za2 P 62) 12),fnE "is_ahead" "Road.is_ahead" (zam (za2 P 62) 13),fnE "_law_box" "_law_box" (za2 P 64),fnE "_law_next" "_law_next" (za2 P 65),fnE "_law_of" "_law_of" (za2 P 66),fnE "_law_value" "_law_value" (za2 P 67)]
def fnseE:List (FnT×Bool):=fnseZ pw
def fnsfZ(P:ap):List (FnT×Bool):=[fnE "_law_kind" "_law_kind" (za2 P 68),fnE "_law_shape" "_law_shape" (za2 P 69),fnE "_law_way" "_law_way" (za2 P 70),fnE "_law_form" "_law_form" (za2 P 71),fnE "_law_road" "_law_road" (za2 P 72),fnE "_law_pact" "_law_pact" (za2 P 73),fnE "_law_any_head" "_law_any_head" (za2 P 74),fnE "_law_expected" "_law_expected" (za2 P 75),fnE "_law_next_head" "_law_next_head" (za2 P 76),fnE "_law_fit_way" "_law_fit_way" (za2 P 77),fnE "_law_road_pact" "_law_road_pact" (za2 P 78),fnE "_law_may_come" "_law_may_come" (za2 P 79),fnE "_law_comes" "_law_comes" (za2 P 80),fnE "_law_step" "_law_step" (za2 P 81),fnE "law" "law" (za2 P 82)]
def fnsfE:List (FnT×Bool):=fnsfZ pw
def fnsE:List (FnT×Bool):=fnsaE++fnsbE++fnscE++fnsdE++fnseE++fnsfE
def bls(K:ye):List Bool:=([ya4 K 455 yb1&&ybm K 455&&ybF K 455&&ybG K 455&&yaK K (.ref 455),ya4 K 556 yb1&&ybm K 556&&ybF K 556&&ybG K 556&&yaK K (.ref 556),ya4 K 676 yb1&&ybm K 676&&ybF K 676&&ybG K 676&&yaK K (.ref 676),yP K (.ref 356),yP K (.ref 363),yP K (.ref 370),yP K (.ref 377),yP K (.ref 391),yP K (.ref 412),yP K (.ref 419),yP K (.ref 426),yP K (.ref 433),yP K (.ref 440),yP K (.ref 445),yP K (.ref 452),yP K (.ref 485),yP K (.ref 492),yP K (.ref 499),yP K (.ref 506),yP K (.ref 520),yP K (.ref 527),yP K (.ref 532),yP K (.ref 539),yP K (.ref 546),yP K (.ref 553),yP K (.ref 582),yP K (.ref 589),yP K (.ref 596),yP K (.ref 603),yP K (.ref 610)]:List (Bool))++([yP K (.ref 617),yP K (.ref 638),yP K (.ref 645),yP K (.ref 652),yP K (.ref 659),yP K (.ref 666),yP K (.ref 673),conB K 563 ["done"],conB K 561 ["come", "copy", "lose"],conB K 562 ["word", "echo", "drop"]]:List (Bool))
def blsE:List Bool:=yn 40 ac
def obs(K:ye):List (Option (Option af))×List (Option (Option af))×List (FnT×Bool)×List Bool:=(nms.map (yca K aD),fnd.map (fun p=>yam K (.ref p.1) p.2),fns.map (fnV K),bls K)
def expd:List (Option (Option af))×List (Option (Option af))×List (FnT×Bool)×List Bool:=(nmsE,fndE,fnsE,blsE)
def vwP(P:ap):ap:=viewOf (([0,2,3,4,5,6,7,8,9,11,12,13,14,15,17,18,19,20,21,23,24,25,27,28,29,30,31,33,34,35]:List (Nat))++([36,37,38,40,41,42,43,44,45,46,48,49,51,52,54,55,56,58,59,60,61,62,64,65,66,67,68,69,70,71]:List (Nat))++([72,73,74,75,76,77,78,79,80,81,82]:List (Nat))) P
abbrev vw:ap:=vwP pw
def xtP(R:y7)(P:ap)(s:aj):Bool:=PySem.W.xlAt (vwP P) [] s&&PySem.W.recOk (PySem.W.RowW.records R) s
abbrev rw0:y7:=ycb.row.toRowW
abbrev xt:aj->Bool:=xtP rw0 pw
def zO(R:y7)(P:ap)(s:PySem.W.SharedT):=ydI (vwP P) [] (b9 P.main.body) (xtP R P) ac s.abs
def zG(P:ap):=PySem.W.openGood (vwP P) []
def zE(P:ap)(w:al):=MD.endsT P w 10996
def hl0(R:y7)(P:ap)(w:al):=(zE P w).map fun s=>(zO R P s).1.defs.take 35
def hr0(R:y7)(P:ap)(_:al):=aa ((zG P).1.defs.take 35)
def hl1(R:y7)(P:ap)(w:al):=(zE P w).map fun s=>(zO R P s).1.defs.drop 35
def hr1(R:y7)(P:ap)(_:al):=aa ((zG P).1.defs.drop 35)
def hl2(R:y7)(P:ap)(w:al):=(zE P w).map fun s=>(zO R P s).1.ownsOk
def hr2(R:y7)(P:ap)(_:al):=aa ((zG P).1.ownsOk)
def hl3(R:y7)(P:ap)(w:al):=(zE P w).map fun s=>(zO R P s).1.names
def hr3(R:y7)(P:ap)(_:al):=aa ((zG P).1.names)
def hl4(R:y7)(P:ap)(w:al):=(zE P w).map fun s=>((zO R P s).1.globalsOk,(zO R P s).1.builtinsOk,(zO R P s).1.noLimit,(zO R P s).1.gens)
def hr4(R:y7)(P:ap)(_:al):=aa (((zG P).1.globalsOk,(zG P).1.builtinsOk,(zG P).1.noLimit,(zG P).1.gens))
def hl5(R:y7)(P:ap)(w:al):=(zE P w).map fun s=>(zO R P s).2.1
def hr5(R:y7)(P:ap)(_:al):=aa ((zG P).2.1)
def hl6(R:y7)(P:ap)(w:al):=(zE P w).map fun s=>(zO R P s).2.2.1
def hr6(R:y7)(P:ap)(_:al):=aa ((zG P).2.2.1)
def hl7(R:y7)(P:ap)(w:al):=(zE P w).map fun s=>(zO R P s).2.2.2
def hr7(R:y7)(P:ap)(_:al):=aa ((zG P).2.2.2)
def hl8(N:List ae)(P:ap)(w:al):=(zE P w).map fun s=>N.map (yca (zsC 802 s) aD)
def hr8(N:List ae)(P:ap)(_:al):=aa (nmsE)
def f9(K:ye):List (Option (Option af))×List Bool:=(fnd.map (fun p=>yam K (.ref p.1) p.2),bls K)
def hl9(F:ye->List (Option (Option af))×List Bool)(P:ap)(w:al):=(zE P w).map fun s=>F (zsC 802 s)
def hr9(F:ye->List (Option (Option af))×List Bool)(P:ap)(_:al):=aa ((fndE,blsE))
def hl10(R:y7)(P:ap)(w:al):=(zE P w).map fun s=>fnsa.map (fnV (zsC 802 s))
def hr10(R:y7)(P:ap)(_:al):=aa ((fnsaZ P))
def hl11(R:y7)(P:ap)(w:al):=(zE P w).map fun s=>fnsb.map (fnV (zsC 802 s))
def hr11(R:y7)(P:ap)(_:al):=aa ((fnsbZ P))
def hl12(R:y7)(P:ap)(w:al):=(zE P w).map fun s=>fnsc.map (fnV (zsC 802 s))
def hr12(R:y7)(P:ap)(_:al):=aa ((fnscZ P))
def hl13(R:y7)(P:ap)(w:al):=(zE P w).map fun s=>fnsd.map (fnV (zsC 802 s))
def hr13(R:y7)(P:ap)(_:al):=aa ((fnsdZ P))
def hl14(R:y7)(P:ap)(w:al):=(zE P w).map fun s=>fnse.map (fnV (zsC 802 s))
def hr14(R:y7)(P:ap)(_:al):=aa ((fnseZ P))
def hl15(R:y7)(P:ap)(w:al):=(zE P w).map fun s=>fnsf.map (fnV (zsC 802 s))
def hr15(R:y7)(P:ap)(_:al):=aa ((fnsfZ P))
end K61
namespace PySem.W.Fast
lay_quick K61.hl0 K61.hr0 K61.hl1 K61.hr1 K61.hl2 K61.hr2 K61.hl3 K61.hr3 K61.hl4 K61.hr4 K61.hl5 K61.hr5 K61.hl6 K61.hr6 K61.hl7 K61.hr7 K61.hl8 K61.hl9 K61.hl10 K61.hl11 K61.hl12 K61.hl13 K61.hl14 K61.hl15
end PySem.W.Fast
namespace K61
open PySem PyProof.Rows L2 MD PySem.W.Fast
theorem hlq0(w:al):tw16140211473283771311 rw0 pw w=tw17269855166828163270 rw0 pw w:=by kernel_rfl
theorem hlq1(w:al):tw3589369121551157240 rw0 pw w=tw7793024481227461866 rw0 pw w:=by kernel_rfl
theorem hlq2(w:al):tw4545215133047887641 rw0 pw w=tw14921157785286241721 rw0 pw w:=by kernel_rfl
theorem hlq3(w:al):tw5788585514313087585 rw0 pw w=tw2749951675126454118 rw0 pw w:=by kernel_rfl
theorem hlq4(w:al):tw12246697952509298280 rw0 pw w=tw11235457928483082905 rw0 pw w:=by kernel_rfl
theorem hlq5(w:al):tw5455563757325711857 rw0 pw w=tw12425348200049251486 rw0 pw w:=by kernel_rfl
theorem hlq6(w:al):tw14751662287860672495 rw0 pw w=tw3854048243533498601 rw0 pw w:=by kernel_rfl
theorem hlq7(w:al):tw5489965531829110051 rw0 pw w=tw16615192363285228656 rw0 pw w:=by kernel_rfl
theorem hlq8(w:al):tw17495219738850224792 nms pw w=hr8 nms pw w:=by kernel_rfl
theorem hlq9(w:al):tw2726591205689996960 f9 pw w=hr9 f9 pw w:=by kernel_rfl
theorem hlq10(w:al):tw4636159222459416559 rw0 pw w=hr10 rw0 pw w:=by kernel_rfl
theorem hlq11(w:al):tw17183613848514626865 rw0 pw w=hr11 rw0 pw w:=by kernel_rfl
theorem hlq12(w:al):tw15891296914842120544 rw0 pw w=hr12 rw0 pw w:=by kernel_rfl
theorem hlq13(w:al):tw15234666797896824903 rw0 pw w=hr13 rw0 pw w:=by kernel_rfl
theorem hlq14(w:al):tw6268427496644537144 rw0 pw w=hr14 rw0 pw w:=by kernel_rfl
theorem hlq15(w:al):tw15446270011240247514 rw0 pw w=hr15 rw0 pw w:=by kernel_rfl
end K61
namespace L2
open PySem PySem.Spec PyProof.Rows
variable{X:Cx}
section
theorem zoN:OpR X (aE .Mult) (fun x y H Q=>∃z n,x = .str z/\y = .int n/\MulOk z n/\Q (.str (Txt.mul z n)) H):=by
 intro pins s σ H x y v u Q I R r h;obtain⟨z,n,rfl,rfl,a,q⟩:=h;obtain⟨t,rfl⟩:=R;obtain⟨t',rfl⟩:=r;exact SB.mul a fun t' tk=>⟨.str _,H,I.tok _,⟨_,rfl⟩,q⟩
theorem zlH:CallR X (.type "int") (fun xs H Q=>∃z n,xs=[.str z]/\ybJ z=aa n/\z.length<=640/\Q (.int n) H):=by
 intro pins s σ H xs us Q I r h;obtain⟨z,n,rfl,hn,hl,q⟩:=h;obtain⟨u,rfl,t,rfl⟩:=zcB r;exact PySem.W.KIN.call_text hn hl ⟨.int n,H,I.tok _,⟨_,rfl⟩,q⟩
theorem zjQ:OpR X (aE .FloorDiv) (rI (fun _ j=>0<j/\j<2^64) fun i j=>.int (i/j)):=opI fun i j _ _ _ _ _ h q=>by
 have c:(0:Int)<j:=h.1;have b:j<2^64:=h.2;refine floordiv_int (by omega) (by rw[ydn i (by omega)];exact q) (.inl (PyProof.noPylong_of_log2 ?_));have H:j.natAbs<2^64:=by omega
 have a:j.natAbs.log2<64:=(Nat.log2_lt (by omega)).mpr H;omega
end
def clSub:List (ae×ad)->List (ae×ad)->Prop
 |[],_=>True| (n,a)::r,cells=>cells.lookup n=aa a/\clSub r cells
theorem clSub.at:∀{cl cells:List (ae×ad)}{x:ae}{c:ad},clSub cl cells->cl.lookup x=aa c->cells.lookup x=aa c
 |[],_,_,_,_,e=>by simp at e| (n,a)::r,cells,x,c,h,e=>by
  rw[yaW]at e;cases H:x==n with
  |true=>
   rw[H]at e;cases e;have q:x=n:=by simpa using H
   rw[q];exact h.1
  |false=>
   rw[H]at e;exact clSub.at h.2 e
structure CompOk(X:Cx)(N0:List ae)(scope:aG)(xs:List ae)(cl:List (ae×ad)):Prop where
 clos:closureFor scope X.env=pure cl
 kind:scope.kind = .function
 nocell:(scope.names.all fun y=>decide (y.2 ≠ .cell))=ac
 locs:(scope.names.all fun y=>decide (y.2 ≠ .local)||(decide (scope.names.lookup y.1=aa .local)&&decide (y.1∉N0)))=ac
 sub:clSub cl X.env.cells
 has:(scope.names.all fun y=>decide (y.2 ≠ .free)||((cl.lookup y.1).isSome&&(decide (X.env.kindOf y.1=aa .cell)||decide (X.env.kindOf y.1=aa .free))))=ac
 hid:N0=X.N∨(N0.length=X.N.length/\((N0.zip X.N).all fun p=>decide (p.1=p.2)||(scope.names.lookup p.1).isNone)=ac)
def Cx.comp(X:Cx)(N0:List ae)(scope:aG)(xs:List ae)(cl:List (ae×ad))(C:ad)(s:aj)(H:Hp)(fp:List ad):Cx :=
 { X with N:=N0++xs,s₀ := s,H₀ := H,env:=compEnvC scope cl C X.env,outer:=X.stack,stack:=X.stack,ex:=fp,fn:=fun _=>ag,pn:=[] }
theorem zdl{env:Env}:∀{names:List (ae×bD)}{x:ae}{k:bD},
  (names.map fun(n,k)=>if (k==NameKind.free&&env.scope.kind == .function&&env.kindOf n==aa .cell) then (n,NameKind.cell) else (n,k)).lookup x=aa k →
  ∃K,names.lookup x=aa K/\(x,K)∈names/\(K=k∨(K = .free/\k = .cell))
 |[],_,_,h=>by simp at h| (n,q)::r,x,k,h=>by
  rw[yE]at h;cases H:x==n with
  |true=>
   have e:x=n:=by simpa using H
   subst e;refine⟨q,by simp[yaW],yar,?_⟩;dsimp only at h;split at h
   ·rename_i a;simp[yaW]at h;have:q = .free:=by
     simp at a;exact a.1.1
    exact .inr ⟨this,h.symm⟩
   ·simp[yaW]at h;exact .inl h
  |false=>
   have h':(r.map fun(n,k)=>if (k==NameKind.free&&env.scope.kind == .function&&env.kindOf n==aa .cell) then (n,NameKind.cell) else (n,k)).lookup x=aa k:=by
    dsimp only at h;split at h <;> (simp only[yaW,H]at h;exact h)
   obtain⟨K,c,b,E⟩:=zdl h';exact⟨K,by simp only[yaW,H];exact c,yag _ b,E⟩
variable{N0:List ae}{scope:aG}{xs:List ae}{cl:List (ae×ad)}{y:ae×bD}{x:ae}{i:Nat}
section
theorem CompOk.nc(S:CompOk X N0 scope xs cl):∀y∈scope.names,y.2 ≠ .cell:=fun y h=>of_decide_eq_true (ybK.mp S.nocell y h)
theorem CompOk.lo(S:CompOk X N0 scope xs cl)(H:y∈scope.names)(h:y.2 = .local):scope.names.lookup y.1=aa .local/\y.1∉N0:=by
 have q:=ybK.mp S.locs y H;rw[ybL,yac,decide_eq_true_eq,decide_eq_true_eq,decide_eq_true_eq]at q;rcases q with q|q
 ·exact absurd h q
 ·exact q
theorem CompOk.fr(S:CompOk X N0 scope xs cl)(H:y∈scope.names)(h:y.2 = .free):(∃c,cl.lookup y.1=aa c)/\(X.env.kindOf y.1=aa .cell∨X.env.kindOf y.1=aa .free):=by
 have q:=ybK.mp S.has y H;rw[ybL,yac,ybL,decide_eq_true_eq,decide_eq_true_eq,decide_eq_true_eq]at q;rcases q with q|q
 ·exact absurd h q
 ·exact⟨ydv.mp q.1,q.2⟩
theorem CompOk.vis(S:CompOk X N0 scope xs cl)(h:Vis (bm scope X.env) x)(H:x∈N0):∃c,cl.lookup x=aa c/\(X.env.kindOf x=aa .cell∨X.env.kindOf x=aa .free):=by
 have go:∀k,(bm scope X.env).names.lookup x=aa k->(k = .local∨k = .cell∨k = .free)->∃c,cl.lookup x=aa c/\(X.env.kindOf x=aa .cell∨X.env.kindOf x=aa .free):=fun k e b=>by
  obtain⟨K,_,a,E⟩:=zdl e;have d:K = .free:=by
   rcases E with E|E
   ·subst E;rcases b with rfl|rfl|rfl
    ·exact absurd H (S.lo a rfl).2
    ·exact absurd rfl (S.nc _ a)
    ·rfl
   ·exact E.1
  obtain⟨⟨c,q⟩,r⟩:=S.fr a d;exact⟨c,q,r⟩
 rcases h with h|h|h
 ·exact go _ h (.inl rfl)
 ·exact go _ h (.inr (.inl rfl))
 ·exact go _ h (.inr (.inr rfl))
theorem CompOk.len(S:CompOk X N0 scope xs cl):N0.length=X.N.length:=S.hid.elim (fun h=>by rw[h]) fun h=>h.1
theorem CompOk.same(S:CompOk X N0 scope xs cl)(e:N0[i]?=aa x)(h:Vis (bm scope X.env) x):X.N[i]?=aa x:=by
 rcases S.hid with q|⟨b,Q⟩
 ·rw[<- q];exact e
 ·have hi:i<N0.length:=(yi.mp e).1;have H:∃k,scope.names.lookup x=aa k:=by
   rcases h with h|h|h <;> (obtain⟨k,z,_⟩:=zdl h;exact⟨k,z⟩)
  obtain⟨k,a⟩:=H;have E:=yu (show i<X.N.length by omega);have hm:(x,X.N[i]'(by omega))∈N0.zip X.N:=yai (i:=i) (by rw[List.getElem?_zip_eq_some];exact⟨e,E⟩);have:=ybK.mp Q _ hm;rw[a]at this;simp at this;rw[E,<- this]
theorem CompOk.hasC(S:CompOk X N0 scope xs cl)(h:(bm scope X.env).names.lookup x=aa .cell∨(bm scope X.env).names.lookup x=aa .free):∃c,cl.lookup x=aa c:=by
 have go:∀k,(bm scope X.env).names.lookup x=aa k->(k = .cell∨k = .free)->∃c,cl.lookup x=aa c:=fun k e H=>by
  obtain⟨K,_,a,E⟩:=zdl e;have b:K = .free:=by
   rcases E with E|E
   ·subst E;rcases H with rfl|rfl
    ·exact absurd rfl (S.nc _ a)
    ·rfl
   ·exact E.1
  exact(S.fr a b).1
 rcases h with h|h
 ·exact go _ h (.inl rfl)
 ·exact go _ h (.inr rfl)
end
variable{pins:List (ad×av)}{σ : St}{H2:Hp}{s2:aj}{fp:List ad}{C:ad}{H':Hp}{h':ax}{m':ae->Option af}{pins':List (ad×av)}{σ':St}{s':aj}{P:ap}{H:Hp}{h:ax}{its:List af}{n:Nat}
section
theorem zww(I:Inv X pins σ H2 s2)(S:CompOk X N0 scope xs cl)(f2:∀b∈fp,zfT X pins H2 b)(a:∀b∈fp,b<s2.heap.objs.size)(d:s2.heap.objs.size<=C):(X.comp N0 scope xs cl C s2 H2 fp).Ok where
 mod:=I.ok.mod
 kind:=S.kind
 glob:=I.ok.glob
 blt:=I.ok.blt
 above:=d
 inj:=fun x y c g f=>I.ok.inj x y c (S.sub.at g) (S.sub.at f)
 has:=fun x h=>S.hasC h
 cab:=fun _ _ h=>nomatch h
 hd:=I.ok.hd
 frames:=I.ok.frames
 stk := .inl rfl
 exf:=fun b H=>⟨yG (yQ (a b H) d),fun x c e=>(f2 b H).2.2.2.2.1 x c (S.sub.at e)⟩
 bs:=I.bs
 bsz:=yO I.ok.bsz I.sz
 noex:=fun b o e H=>by
  rcases (f2 b H).2.2.2.1 with z|z
  ·exact I.ok.noex b o e z
  ·exact absurd (yQ (yA e) (yO I.ok.bsz z)) (yao _)
 exfs:=fun b H z=>by
  rcases yB.mp (I.stkSub b z) with q|q
  ·exact(f2 b H).2.1 q
  ·exact(f2 b H).2.2.1 q
 funs:=I.stack
 frf:=I.stkFree
theorem zlA(I:Inv X pins σ H2 s2)(f2:∀b∈fp,zfT X pins H2 b)(u:Un (frs X.stack) fp H2 H' s2.heap h'){c:ad}{v:Option af}(e:X.env.cells.lookup x=aa c)(z:s2.heap.IsCell c v):h'.IsCell c v:=by
 obtain⟨o,h,hd⟩:=z;obtain⟨sl,q⟩:=u.any h (I.freeC x c e) fun H=>(f2 c H).2.2.2.2.1 x c e rfl;exact⟨_,q,hd⟩
theorem zok(I:Inv X pins σ H2 s2)(S:CompOk X N0 scope xs cl)(f2:∀b∈fp,zfT X pins H2 b)(u:Un (frs X.stack) fp H2 H' s2.heap h')(i:Nat)(x:ae)(v:V)(d:(N0++xs)[i]?=aa x)(E:(σ ++ yn xs.length ab)[i]?=aa (aa v))(e:Vis (bm scope X.env) x) : ∃w,RelV v w/\Look (compEnvC scope cl C X.env) h' m' x w:=by
 have hl:=I.len;have hl0:=S.len;by_cases hi:i < σ.length
 ·rw[yab (by omega)]at d;rw[yab hi]at E;obtain⟨c,f,h⟩:=S.vis e (yai d);obtain⟨m,_,H⟩:=I.loc;have hv:Vis X.env.scope x := .inr h;obtain⟨w,r,l⟩:=H i x v (S.same d e) E hv;have a:=S.sub.at f;refine⟨w,r,.inr ⟨?_,c,f,?_⟩⟩
  ·rcases e with e|e|e
   ·obtain⟨k,_,m2,M⟩:=zdl e;rcases M with M|M
    ·exact absurd (yai d) (S.lo m2 M).2
    ·exact nomatch M.2
   ·exact .inl e
   ·exact .inr e
  ·rcases l with⟨q,_⟩|⟨_,g,q,z⟩
   ·rcases h with h|h
    ·rw[q]at h;cases h
    ·rw[q]at h;cases h
   ·rw[a]at q;cases q;exact zlA I f2 u a z
 ·rw[yan (by omega),ycH]at E;split at E <;> cases E
theorem zex(I:Inv X pins σ H2 s2)(S:CompOk X N0 scope xs cl)(f2:∀b∈fp,zfT X pins H2 b)(J:Inv (X.comp N0 scope xs cl C s2 H2 fp) pins' σ' H' s') : Inv (X.comp N0 scope xs cl C s2 H2 fp) pins' (σ ++ yn xs.length ab) H' s' :=
 ⟨J.ok,J.os,J.bare,J.base,let ⟨m,hn,_⟩:=J.loc;⟨m,hn,fun i x v a E e=>zok I S f2 J.base i x v a E e⟩,J.cell,J.free,J.freeC,J.pin,J.hok,by
  rw[yI,ybo];show σ.length+xs.length=(N0++xs).length;rw[yI,I.len,S.len]⟩
theorem zja{D:ad}{O:av}{s:aj}(I:Inv X pins σ H2 s2)(S:CompOk X N0 scope xs cl)(f2:∀b∈fp,zfT X pins H2 b)(H:∀b∈fp,b<s2.heap.objs.size)(f:s2.heap.objs.size<=C)(d:s2.heap.objs.size<=D)(a:D≠C)(k:∀b o,s2.heap.get? b=aa o->s.heap.get? b=aa o)(j:s.os=s2.os)(l:a9 s.gens)(hn:s.heap.Ns C m')(hd:s.heap.get? D=aa O)(h:∀v,O.data ≠ .cell v) : Inv (X.comp N0 scope xs cl C s2 H2 fp) [(D,O)] (σ ++ yn xs.length ab) H2 s :=
 have u:Un (frs X.stack) fp H2 H2 s2.heap s.heap:=Un.kept k
 ⟨zww I S f2 H f,j,l,u,⟨m',hn,fun i x v n m E=>zok I S f2 u i x v n m E⟩,
  fun x c e=>by
   obtain⟨v,z⟩:=I.cell x c (S.sub.at e);exact⟨v,zlA I f2 u (S.sub.at e) z⟩,
  I.hok.fresh f,fun x c e=>I.freeC x c (S.sub.at e),
  fun p g=>by
   have e:p=(D,O):=y8.mp (show p∈[(D,O)] from g);subst e;refine⟨hd,I.hok.fresh d,a,fun z=>?_,h⟩;obtain⟨_,o,q,_⟩:=I.stack.mem z;exact absurd (yQ (yA q) d) (yao _),
  I.hok.kept k,by
   rw[yI,ybo];show σ.length+xs.length=(N0++xs).length;rw[yI,I.len,S.len]⟩
theorem zfx{w:al}{a:ad}{o:HO}(x:HOk P w H h)(hn:H a=ab)(new:ObjOk P w (upd H a o) h a o):HOk P w (upd H a o) h:=fun b u e=>by
 by_cases d:b=a
 ·subst d;rw[zaD]at e;cases e;exact new
 ·rw[zax d]at e;exact(x b u e).stay (fun _ _ _ q=>q) (fun c q=>by rw[zax (zaI q hn)];exact q) fun c ys q=>by rw[zax (zaI q hn)];exact q
theorem zt0{D:ad}{ys:List V}(I:Inv X pins σ H2 s2)(f2:∀b∈fp,zfT X pins H2 b)(h:s2.heap.objs.size<=D)
  (J:Inv (X.comp N0 scope xs cl C s2 H2 fp) pins' σ' H' s') (hn:H' D=ab) (e:s'.heap.get? D=aa { cls := .type "list", data := .seq its.toArray n }) (r:Vals ys its) (H:ys.length<=sizeLine) :
  Inv X pins σ (upd H' D (.lst ys)) s':=by
 have u:Un (frs X.stack) fp H2 H' s2.heap s'.heap:=J.base;have neD:∀b o,s2.heap.get? b=aa o->b≠D:=fun b o q=>yG (yQ (yA q) h);have neT:∀b o,H2 b=aa o->b≠D:=fun b o q=>yG (yQ (I.hok.lt q) h);refine I.call' (ch:=fp) J.os ⟨u.keep,u.slot,fun b o q m d=>?_,u.there,fun b z q=>?_,fun b o z q=>?_,fun b ps q=>?_⟩ (zfx J.hok hn ⟨H,its,n,r,e⟩) J.bare fun b f=>?_
 ·rw[zax (neD b o q)];exact u.free b o q m d
 ·rw[zax (neT b _ q)];exact u.tups b z q
 ·rw[zax (neT b _ q)];exact u.frzs b o z q
 ·rw[zax (neT b _ q)];exact u.tbls b ps q
 ·obtain⟨_,c,_,a,z3,Z⟩:=f2 b f;exact⟨a,c,z3,Z⟩
end
def PIf(X:Cx)(i:List ak)(t:TT):Prop :=
 ∀(pins:List (ad×av))(s:aj)(σ : St)(H:Hp)(Q:Bool->Hp->Prop),Inv X pins σ H s->t σ H Q →
  wpAny (ao X.prog X.w) X.A (forIn i ac fun c r=>if r=ac then do let ok <- isTrue c X.env (eval c X.env);pure (ForInStep.yield ok) else pure (ForInStep.yield r)) (TP X pins σ Q) X.xe s
def tYes:TT:=fun _ H Q=>Q ac H
theorem zvA:PIf X [] tYes:=fun _ _ _ H _ I h=>wpAny_tests_nil ⟨H,I,h⟩
theorem zvz{c:ak}{t:TT}(h:PT X c t):PIf X [c] t:=fun pins s σ H Q I a=>wpAny_tests_one (h pins s σ H Q I a)
def zuP(n:Nat)(w:TI)(g:TG)(tf:TT)(te:TE)(f:List V->Hp->Prop):St->Hp->Prop:=fun σ H=>w σ H fun J H1=>∃W:Nat->Nat->List V->Hp->Prop,(∃m,W 0 m [] H1)/\∀i m ys H,W i m ys H →
 ys.length<=sizeLine/\((J.stop i H/\f ys H)∨(J.go i H/\∃(Y:V->Hp->Prop)(Z:Hp->Prop),(∀y H4,Y y H4->ys.length<sizeLine/\∃m',m'<m/\W (i+1) m' (ys++[y]) H4)/\(∀h,Z h->∃m',m'<m/\W (i+1) m' ys h) ∧
  ∀x H',J.yld i H x H'->g x (σ ++ yn n ab) H' fun a H2=>tf a H2 fun b h=>if b=ac then te a h Y else Z h))
variable{s:aj}{elt iter:ak}{ifs:List ak}{pos:ay}
theorem zpi{prog:ap}{w:al}{A:aA}{R:bA->aj->Prop}{t:ak}{it f:af}{env:Env}(I:Nat->aj->Prop)
  (turn:∀n s,I n s->wpAny (ao prog w) A (bh it) (fun r a=>match r with
   |none=>R (.ok .next) a
   |some v=>wpAny (ao prog w) A (bT t it v) (fun _ T=>wpAny (ao prog w) A (bg t env v) (fun _ e=>
     wpAny (ao prog w) A (forIn ifs ac fun c r=>if r=ac then do let ok <- isTrue c env (eval c env);pure (ForInStep.yield ok) else pure (ForInStep.yield r)) (fun ok S=>
      if ok=ac then wpAny (ao prog w) A (eval elt env) (fun x d=>wpAny (ao prog w) A (call (.builtin "list.append") [f,x]) (fun _ b=> ∃m,m<n/\I m b) (fun _ _=>False) d) (fun _ _=>False) S
      else ∃m,m<n/\I m S) (fun _ _=>False) e) (fun _ _=>False) T) (fun _ _=>False) a) (fun _ _=>False) s)
  (n:Nat) (h:I n s):codeAny (ao prog w) A (.compLoop (.ListComp elt [⟨t,iter,ifs,0⟩] scope pos) 0 it f env) R s:=by
 refine codeAny_loop rfl I (fun n s l=>?_) n h
 show wpAny _ A (Sem.onRaise (compTurn _ 0 it f env) fun x=>do noteFrame x env;theTreesLotGoes x) _ _ s
 refine wpAny_noted ?_
 rw[compTurn_list]
 refine ai (bx (ai (aJ (turn n s l) (fun r a h₁=> ?_) fun _ _ z=>z.elim)))
 cases r with
 |none=>exact aw h₁
 |some v=>
  refine ai (aJ h₁ (fun _ T k=> ?_) fun _ _ z=>z.elim)
  refine ai (aJ k (fun _ e j=>ai (aJ j (fun ok S H=> ?_) fun _ _ z=>z.elim)) fun _ _ z=>z.elim)
  cases ok with
  |false=>exact aw ⟨rfl,H⟩
  |true=>
   refine ai (ai (aJ H (fun x d i=> ?_) fun _ _ z=>z.elim))
   exact ai (aJ i (fun _ b g=>aw (aw ⟨rfl,g⟩)) fun _ _ z=>z.elim)
variable{tg:ak}{g:TG}{tf:TT}{te:TE}{it:ad}{J:It}{fin:List V->Hp->Prop}
section
variable{wi:TI}
theorem zjb{tn:Nat->ax->Prop}{W:Nat->Nat->List V->Hp->Prop}{m0:Nat}{RR:af->ad->bA->aj->Prop}(hc:X.calm=ac)(hx:X.xe=fun _ _=>False)(S:CompOk X N0 scope xs cl)(hg:∀C s H fp,PG (X.comp N0 scope xs cl C s H fp) tg g)(hf:∀C s H fp,PIf (X.comp N0 scope xs cl C s H fp) ifs tf)(he:∀C s H fp,PE (X.comp N0 scope xs cl C s H fp) elt te)(K:Inv X pins σ H2 s2)(T:Turn X.prog X.w X.K tg J fp it tn)(st2:tn 0 s2.heap)(f2:∀b∈fp,zfT X pins H2 b)(w0:W 0 m0 [] H2)(turn:∀i m ys H,W i m ys H->ys.length<=sizeLine/\((J.stop i H/\fin ys H)∨(J.go i H/\∃(Y:V->Hp->Prop)(Z:Hp->Prop),(∀y H4,Y y H4->ys.length<sizeLine/\∃m',m'<m/\W (i+1) m' (ys++[y]) H4)/\(∀H3,Z H3->∃m',m'<m/\W (i+1) m' ys H3)∧∀x H',J.yld i H x H'->g x (σ ++ yn xs.length ab) H' fun U H2=>tf U H2 fun b H3=>if b=ac then te U H3 Y else Z H3)))(hRR:∀(D C:ad)(t:aj)(ys:List V)(H':Hp)(m':ae->Option af),Inv X pins σ (upd H' D (.lst ys)) t->H' D=ab->t.heap.Ns C m'->zfT X pins (upd H' D (.lst ys)) C->fin ys H'->RR (.ref D) C (.ok .next) t) : wpAny (ao X.prog X.w) X.A (newList []) (fun acc s₃=>wpAny (ao X.prog X.w) X.A (newFunctionEnv scope X.env.globals cl [] X.env.qual ab .none (aa X.env)) (fun I s₄=>codeAny (ao X.prog X.w) X.A (.compStart (.ListComp elt [⟨tg,iter,ifs,0⟩] scope pos) 0 (.ref it) acc { I with scope:=bm scope X.env }) (RR acc I.locals) s₄) X.xe s₃) X.xe s2:=by
 refine aQ (wpAny_newFunctionEnv S.nc (by intro y hy;simp at hy) (fun h₁ j h=> ?_) S.kind);dsimp only at j h ⊢;generalize hG:s2.heap.push { cls := .type "list", dict:=ab,data := .seq ([]:List af).toArray }=G at j h ⊢;have szG:G.objs.size=s2.heap.objs.size+1:=by rw[<- hG,yap]
 have P:s2.heap.objs.size≠G.objs.size:=by rw[szG];exact yG (ya6 _)
 have hC:s2.heap.objs.size<=G.objs.size:=by rw[szG];exact ybn _
 have B:∀b∈fp,b<s2.heap.objs.size:=fun b f=>let ⟨_,e,_⟩:=T.obj 0 _ st2 b f;yA e;have old:∀b o,s2.heap.get? b=aa o->h₁.get? b=aa o:=fun b o e=>
  h.extBut b o (yG (yQ (yA e) hC)) (yt _ (hG ▸ yt _ e))
 have hacc:h₁.get? s2.heap.objs.size=aa { cls := .type "list", data := .seq ([]:List af).toArray 0 }:=h.extBut _ _ P (yt _ (hG ▸ yC _ rfl));have l : tn 0 h₁ := T.keep 0 _ _ st2 fun b _ o e=>old b o e;have I3:∀tk,Inv (X.comp N0 scope xs cl G.objs.size s2 H2 fp) [(s2.heap.objs.size,{ cls := .type "list", data := .seq ([]:List af).toArray 0 })] (σ ++ yn xs.length ab) H2 { s2 with heap:=h₁,toks:=tk }:=fun tk=>
  zja K S f2 B hC (yh _) P old rfl K.bare j hacc fun _ z=>nomatch z
 have A:∀{H':Hp}{o:av},(∀b∈fp,H' b=ab)->∀b∈fp,zfT (X.comp N0 scope xs cl G.objs.size s2 H2 fp) [(s2.heap.objs.size,o)] H' b:=fun {H' o} hn b f=>by
  refine⟨hn b f,yG (yQ (B b f) hC),fun z=>?_,.inl f,fun x c e=>(f2 b f).2.2.2.2.1 x c (S.sub.at e),fun p O=>?_⟩
  ·rcases yB.mp (K.stkSub b z) with q|q
   ·exact(f2 b f).2.1 q
   ·exact(f2 b f).2.2.1 q
  ·have e:p=(s2.heap.objs.size,o):=y8.mp (show p∈[(s2.heap.objs.size,o)] from O);subst e;exact yaJ (B b f)
 have L:∀tk,codeAny (ao X.prog X.w) X.A (.compLoop (.ListComp elt [⟨tg,iter,ifs,0⟩] scope pos) 0 (.ref it) (.ref s2.heap.objs.size) (compEnvC scope cl G.objs.size X.env)) (RR (.ref s2.heap.objs.size) G.objs.size) { s2 with heap:=h₁,toks:=tk }:=by
  intro tk;refine zpi (fun n t=>∃i ys its k H',Inv (X.comp N0 scope xs cl G.objs.size s2 H2 fp) [(s2.heap.objs.size,{ cls := .type "list", data := .seq (its:List af).toArray k })] (σ ++ yn xs.length ab) H' t/\tn i t.heap/\(∀b∈fp,H' b=ab)/\Vals ys its/\W i n ys H')
   ?_ m0 ⟨0,[],[],0,H2,I3 tk,l,fun b f=>(f2 b f).1,.nil,w0⟩
  rintro n t ⟨i,ys,its,k,H',I',st',fr',rv,w'⟩;obtain⟨hlen,way⟩:=turn i n ys H' w';rcases way with⟨stop,qf⟩|⟨go,Y,Z,hY,hZ,step⟩
  ·refine thn (T.done (X.comp N0 scope xs cl G.objs.size s2 H2 fp) rfl rfl rfl hc i _ t _ H' (fun _ _=>False) I' (A fr') st' stop) ?_;rintro r s1 ⟨hr,I1⟩;subst hr;obtain⟨e,n1,_⟩:=I1.pin _ (y8.mpr rfl);obtain⟨m1,hn1,_⟩:=I1.loc;refine hRR _ _ s1 ys H' m1 (zt0 K f2 (yh _) I1 n1 e rv hlen) n1 hn1 ?_ qf;refine K.fpOk hC ?_;rw[zax P.symm];exact I1.free
  ·refine thn (T.item (X.comp N0 scope xs cl G.objs.size s2 H2 fp) rfl rfl rfl hc i _ t _ H' (fun _ _=>False) I' (A fr') st' go) ?_;rintro r s1 ⟨u,hr,h1⟩;subst hr;refine thn h1 ?_;rintro _ R ⟨x,H5,I5,r5,y5,M,fr5⟩;have I5':=I5.pinned (A fr5) (T.obj _ _ M);have N:(X.comp N0 scope xs cl G.objs.size s2 H2 fp).xe=fun _ _=>False:=hx;have q6:=hg _ s2 H2 fp _ R _ H5 x u _ I5' r5 (step x H5 y5);rw[N]at q6;refine thn q6 ?_;rintro _ s6 ⟨w,H6,I6,q6⟩;have Q:=hf _ s2 H2 fp _ s6 w H6 _ I6 q6;rw[N]at Q;refine thn Q ?_;rintro b s7 ⟨H7,I7,Q⟩;have kept:∀{σ':St}{H':Hp}{t:aj},Inv (X.comp N0 scope xs cl G.objs.size s2 H2 fp) ([(s2.heap.objs.size,{ cls := .type "list", data := .seq its.toArray k })]++zcS fp R.heap) σ' H' t->tn (i+1) t.heap/\∀b∈fp,H' b=ab:=fun {σ' H' t} Z=>by
    refine⟨T.keep _ _ _ M fun b f o e=>(Z.pin (b,o) (yZ _ (yZ _ (zcK f e)))).1,fun b f=>?_⟩;obtain⟨o,e,d⟩:=T.obj _ _ M b f;exact(Z.pin (b,o) (yZ _ (yZ _ (zcK f e)))).2.1
   cases b with
   |false=>
    rw[if_neg yR];rw[if_neg yR]at Q;obtain⟨m',hm,w7⟩:=hZ _ Q;exact⟨m',hm,i+1,ys,its,k,H7,zex K S f2 I7.unpinned,(kept I7).1,(kept I7).2,rv,w7⟩
   |true=>
    rw[if_pos rfl];rw[if_pos rfl]at Q;have q8:=he _ s2 H2 fp _ s7 w H7 _ I7 Q;rw[N]at q8;refine thn q8 ?_;rintro y E ⟨yv,H8,I8,r8,qY⟩;obtain⟨hz,m',hm,w8⟩:=hY _ _ qY;obtain⟨eD,nD,neC,nfD,_⟩:=I8.pin (s2.heap.objs.size,{ cls := .type "list", data := .seq its.toArray k }) (yZ _ (yaj _ (y8.mpr rfl)));have hl:=rv.length;refine bF F.slot_list_append ⟨_,eD,rfl⟩ ydD (ydE _ _) (ydF s2.heap.objs.size its.toArray k y (by rw[yM];omega)) ⟨eD,?_⟩;have eN:=ydC eD (fun(a:Array af)=>a.push y);have eA:its.toArray.push y=(its++[y]).toArray:=by simp
    rw[eA]at eN;have drop:Inv (X.comp N0 scope xs cl G.objs.size s2 H2 fp) (zcS fp R.heap) w H8 E:=I8.pins_of fun p O=>I8.pin p (yZ _ (yZ _ O));have I9:Inv (X.comp N0 scope xs cl G.objs.size s2 H2 fp) (zcS fp R.heap) w H8 { E with heap:=E.heap.update s2.heap.objs.size (yaV fun(a:Array af)=>a.push y) }:=by
     refine drop.turned (it:=s2.heap.objs.size) (t':=E.toks) (fun b o f q=>(yaO E.heap _ (Ne.symm f)).trans q) nD neC (.inr (yh _)) (fun x c e z=>?_) fun p O z=>?_
     ·obtain⟨v,q⟩:=K.cell x c (S.sub.at e);exact absurd (q.lt) (by rw[z];exact yao _)
     ·have hp':p∈zcS fp R.heap:=O;exact absurd (B _ (zhH hp').1) (by rw[z];exact yao _)
    have I10:Inv (X.comp N0 scope xs cl G.objs.size s2 H2 fp) ([(s2.heap.objs.size,{ cls := .type "list", data := .seq (its++[y]).toArray _ })]++zcS fp R.heap) w H8 { E with heap:=E.heap.update s2.heap.objs.size (yaV fun(a:Array af)=>a.push y) }:=I9.pins_of fun p O=>by
     rcases yae.mp O with z|z
     ·have e:=y8.mp z;subst e;exact⟨eN,nD,neC,nfD,fun _ z=>nomatch z⟩
     ·exact I9.pin p (yZ _ z)
    have kp:tn (i+1) (E.heap.update s2.heap.objs.size (yaV fun(a:Array af)=>a.push y))/\∀b∈fp,H8 b=ab:=by
     refine⟨T.keep _ _ _ (kept I8).1 fun b f o e=>(yaO E.heap _ (yaJ (B b f))).trans e,(kept I8).2⟩
    exact⟨m',hm,i+1,ys++[yv],its++[y],_,H8,zex K S f2 I10.unpinned,kp.1,kp.2,rv.append (.cons r8 .nil),w8⟩
 exact codeAny_compStart_list (L _) (T.self _ 0 _ _ _ l (L _))
theorem zic(I:Inv X pins σ H s)(f:zfT X pins H C)(k:ya2 C s.heap h'):Inv X pins σ H { s with heap:=h' }:=by
 obtain⟨n,a,c,A,nc,N⟩:=f;exact I.turned (it:=C) (t':=s.toks) (fun b o h e=>k.extBut b o h e) n a A nc N
theorem zqx(l:X.calm=ac)(c:X.xe=fun _ _=>False)(S:CompOk X N0 scope xs cl)(hi:PI X tg iter wi)(d:∀C s H fp,PG (X.comp N0 scope xs cl C s H fp) tg g)(e:∀C s H fp,PIf (X.comp N0 scope xs cl C s H fp) ifs tf)(j:∀C s H fp,PE (X.comp N0 scope xs cl C s H fp) elt te)(hs:autoParam (∀x,bi iter X.env x=pure x) AutoP.a2._auto_1) : PE X (.ListComp elt [⟨tg,iter,ifs,0⟩] scope pos) (fun σ H Q=>zuP xs.length wi g tf te (fun ys H'=>∀p,H' p=ab->Q (.ref p) (upd H' p (.lst ys))) σ H):=by
 intro pins s σ H Q I h;rw[eval_ListComp];refine cj (use:=ab) rfl hs S.clos S.kind (fun y b hl=>(S.lo b hl).1) ?_;refine thn (hi pins s σ H _ I h) fun t s1 o=>thn o fun i s2 m=>?_;obtain⟨it,fp,tn,J,v,rfl,q,T,a,f2,W,⟨m0,w0⟩,turn⟩:=m;refine zjb (RR:=fun A C=>compPost (ao X.prog X.w) X.A X.xe ab (EP X pins σ Q) A C) l c S d e j q T a f2 w0 turn ?_;intro D C u ys H' m' r n hn F f;exact⟨m',hn,fun h' k=>⟨.ref D,_,zic r F k,rfl,f D n⟩⟩
end
section
theorem zmZ{k:Nat}(P:Nat->List V->Hp->Prop)(r:k<=1000000)(o:P 0 [] H)(l:∀i ys H,P i ys H->ys.length<=i)(j:∀i ys H,i<k->P i ys H->J.go i H/\∀x H',J.yld i H x H'->g x (σ ++ yn n ab) H' fun a H2=>tf a H2 fun b h=>if b=ac then te a h (fun y d=>P (i+1) (ys++[y]) d) else P (i+1) ys h)(f:∀ys H,P k ys H->J.stop k H/\fin ys H) : ∃W:Nat->Nat->List V->Hp->Prop,(∃m,W 0 m [] H)/\∀i m ys H,W i m ys H->ys.length<=sizeLine/\((J.stop i H/\fin ys H)∨(J.go i H/\∃(Y:V->Hp->Prop)(Z:Hp->Prop),(∀y d,Y y d->ys.length<sizeLine/\∃m',m'<m/\W (i+1) m' (ys++[y]) d)∧(∀h,Z h->∃m',m'<m/\W (i+1) m' ys h)/\∀x H',J.yld i H x H'->g x (σ ++ yn n ab) H' fun a H2=>tf a H2 fun b h=>if b=ac then te a h Y else Z h)):=by
 have hl:sizeLine=16777216:=bq;refine⟨fun i m ys H=>m=k-i/\i<=k/\P i ys H,⟨k,by simp,yav _,o⟩,?_⟩;rintro i m ys H ⟨rfl,hi,p⟩;have z:=l i ys H p;refine⟨by omega,?_⟩;by_cases c:i<k
 ·obtain⟨g1,G⟩:=j i ys H c p;exact .inr ⟨g1,fun y d=>P (i+1) (ys++[y]) d,fun h=>P (i+1) ys h,fun y d q=>⟨by omega,k-(i+1),by omega,rfl,c,q⟩,fun h q=>⟨k-(i+1),by omega,rfl,c,q⟩,G⟩
 ·have e:i=k:=by omega
  subst e;exact .inl (f ys H p)
end
variable{ns:List Int}{v:af}
theorem zpz(r:Vals (ns.map V.int) its)(e:its.toArray[i]?=aa v):∃t,v = .int (ns.getD i 0) t:=by
 have E:its[i]?=aa v:=by simpa using e
 have hi:i<ns.length:=by
  have h:=r.length;have H:=(yi.mp E).1;rw[yj]at h;omega
 obtain⟨u,q,t,z⟩:=r.get (i:=i) (x := .int (ns[i])) (by simp[hi]);rw[E]at q;cases q;exact⟨t,by rw[z];simp[hi]⟩
theorem zrQ(h:i<ns.length):ns.getD i 0=ns[i]:=by simp[h]
theorem zop{bs:List Bool}(r:Vals (bs.map V.bl) its)(e:its.toArray[i]?=aa v):v = .bool (bs.getD i ac):=by
 have E:its[i]?=aa v:=by simpa using e
 have hi:i<bs.length:=by
  have h:=r.length;have H:=(yi.mp E).1;rw[yj]at h;omega
 obtain⟨u,q,z⟩:=r.get (i:=i) (x := .bl (bs[i])) (by simp[hi]);rw[E]at q;cases q;rw[show v=ybB bs[i] from z];simp[hi]
theorem ziN:∀(bs:List Bool),((yJ bs.length).all fun i=>bs.getD i ac)=bs.all id
 |[]=>rfl|b::r=>by
  rw[yD,ycc,yb5,List.all_map,yb5];have e:((fun i=>(b::r).getD i ac)∘Nat.succ)=fun i=>r.getD i ac:=by
   funext i;simp
  rw[e,ziN r];simp
section
theorem zsu(g:X.calm=ac):CallR X (.builtin "all") (fun xs H Q=>∃(l:ad)(bs:List Bool),xs=[.ref l]/\SqL X.K H l (bs.map V.bl)/\Q (.bl (bs.all id)) H):=by
 intro pins s σ H xs us Q I r h;obtain⟨l,bs,rfl,d,q⟩:=h;obtain⟨u,rfl,R⟩:=zcB r;cases R;obtain⟨its,r',pl,m⟩:=I.list d;have hl:=pl.isList;have c:l<s.heap.objs.size:=by obtain⟨_,e,_⟩:=hl;exact yA e
 have a:bs.length=its.length:=by rw[<- r'.length,yj]
 refine call_all_walk (bU hl ?_);refine⟨s.heap.objs.size,_,_,its.toArray.size,_,_,fun i=>bs.getD i ac,rfl,ycd (A:=X.A.in1) (I.ok.hd g) _ l (yG c) its.toArray,⟨⟨_,yC _ rfl,rfl,rfl⟩,hl.push _⟩,fun i v S n E' k j=>?_,fun h' tk f=>?_⟩
 ·rw[zop r' k];exact aT j
 ·rw[yM,<- a,ziN];exact⟨.bl (bs.all id),H,I.kept fun b o e=>f b o (fun z=>yG (yA e) (y8.mp z)) (yt _ e),rfl,q⟩
end
def Itf(f:Nat->V)(n:Nat):It:=⟨fun i _=>i<n,fun i H x H'=>H'=H/\x=f i,fun i _=>i=n⟩
variable{K:ye}{nm:String}
theorem zhb{w:al}{y:Nat->af->Prop}{St:Nat->ax->Prop}{f:Nat->V}
  (W:∀A:aA,A.handled=ab->Walks P w A it [it] [it] n y St) (x:∀i h,St i h->∃o vs,h.get? it=aa o/\o.cls = .type nm/\o.data = .fields vs)
  (r:∀i h h',St i h->(∀b∈[it],∀o,h.get? b=aa o->h'.get? b=aa o)->St i h') (hn:["enumerate", "zip", "dict_itemiterator", "dict_reverseitemiterator", "odict_iterator", "itertools.zip_longest", "itertools.pairwise"].contains nm=ag)
  (B:∀i v,i<n->y i v->RelV (f i) v) (a:∀(A:aA)(i:Nat)(s:aj)(Q:af->aj->Prop)(E:af->aj->Prop),St i s.heap->Q (.ref it) s->wpAny (ao P w) A (pyIter (.ref it)) Q E s):Turn P w K tg (Itf f n) [it] it St where
 mem:=by simp
 obj:=fun i h st b g=>by
  have e:b=it:=by simpa using g
  subst e
  obtain⟨o,vs,e,c,d⟩:=x i h st
  exact⟨o,e,fun v z=>by rw[d]at z;cases z⟩
 keep:=fun i h h' st k=>r i h h' st k
 item:=by
  intro X j q u t i pins s σ H E I m st l
  subst j q u
  obtain⟨f0,f1,f2,f3,f4,F⟩:=m it (by simp)
  refine(W X.A (I.ok.hd t)).item i s _ _ l st fun v h' tk hv S p=>?_
  have C:Inv X pins σ H { s with heap:=h',toks:=tk }:=I.turned (fun b o g e=>p b o (by simpa using g) e) f0 f1 f3 f4 F
  obtain⟨o,vs,e,c,d⟩:=x _ _ S
  exact⟨v,rfl,zrP (s:={ s with heap:=h',toks:=tk }) e c d hn ⟨f i,H,C,B i v l hv,⟨rfl,rfl⟩,S,fun b g=>(m b g).1⟩⟩
 done:=by
  intro X j q u t i pins s σ H E I m st l
  subst j q u
  obtain⟨f0,f1,f2,f3,f4,F⟩:=m it (by simp)
  have e:i=n:=l
  subst e
  exact(W X.A (I.ok.hd t)).done s _ _ st fun h' tk p=>⟨rfl,I.turned (fun b o g e=>p b o (by simpa using g) e) f0 f1 f3 f4 F⟩
 self:=a
def sgn(z:ae)(i:Nat):V := .str ⟨#[z.cps.getD i 0]⟩
def iTxt(t:TE):TI:=fun σ H R=>t σ H fun x H1=>∃z,x = .str z/\R (Itf (sgn z) z.cps.size) H1
variable{t:Tok}
theorem zeE(st:h.IsStrIter it nm x t i):∃o vs,h.get? it=aa o/\o.cls = .type nm/\o.data = .fields vs:=by
 obtain⟨o,e,c,d⟩:=st;exact⟨o,_,e,c,d⟩
theorem zgy(st:h.IsStrIter it nm x t i)(k:∀b∈[it],∀o,h.get? b=aa o->h'.get? b=aa o):h'.IsStrIter it nm x t i:=let ⟨o,ho,r⟩:=st;⟨o,k it (by simp) o ho,r⟩
variable{z:ae}
theorem zlX(h:SignAt z i v):RelV (sgn z i) v:=by
 obtain⟨c,u,e,rfl⟩:=h;refine⟨u,?_⟩;have:z.cps.getD i 0=c:=by simp[Array.getD_eq_getD_getElem?,e]
 rw[this]
theorem pi_txt{l:ak}{T:TE}(hl:PE X l T):PI X tg l (iTxt T):=by
 intro pins s σ H R I h;refine thn (hl pins s σ H _ I h) ?_;rintro v s1 ⟨x,d,a,r,f⟩;obtain⟨z,e,q⟩:=f;subst e;obtain⟨t,rfl⟩:=r;have fp:∀b∈[s1.heap.objs.size],zfT X pins d b:=fun b g=>by
  have e:b=s1.heap.objs.size:=by simpa using g
  subst e;exact a.fpOk (yh _) (a.hok.fresh (yh _))
 cases ha:z.cps.all (· < 128)
 ·refine wpAny_pyIter_wide ha ?_;exact⟨s1.heap.objs.size,[s1.heap.objs.size],_,_,d,rfl,a.kept (t':=s1.toks) fun b o e=>yt _ e,zhb (nm := "str_iterator") (St:=fun i h=>h.IsStrIter s1.heap.objs.size "str_iterator" z t i) (fun A c=>Walks.strWide c _ z t) (fun i h st=>zeE st) (fun i h h' st k=>zgy st k) (by decide) (fun i v _ hv=>zlX hv) (fun A i s Q E st q=>wpAny_pyIter_striter_wide st q),⟨_,yC _ rfl,rfl,rfl⟩,fp,q⟩
 ·refine wpAny_pyIter_ascii ha ?_;exact⟨s1.heap.objs.size,[s1.heap.objs.size],_,_,d,rfl,a.kept (t':=s1.toks) fun b o e=>yt _ e,zhb (nm := "str_ascii_iterator") (St:=fun i h=>h.IsStrIter s1.heap.objs.size "str_ascii_iterator" z t i) (fun A c=>Walks.strAscii c _ z t) (fun i h st=>zeE st) (fun i h h' st k=>zgy st k) (by decide) (fun i v _ hv=>zlX hv) (fun A i s Q E st q=>wpAny_pyIter_striter_ascii st q),⟨_,yC _ rfl,rfl,rfl⟩,fp,q⟩
theorem zua:SlR X (fun x lo hi H Q=>∃z,x = .str z/\z.length<=sizeLine/\Q (.str (Txt.slice z lo hi)) H):=by
 intro pins s σ H x v g V lo hi sl Q I r hs pl P q;obtain⟨z,rfl,b,q⟩:=q;obtain⟨t,rfl⟩:=r;obtain⟨o,e,c,d⟩:=hs;have a:∀{v:af}{o:Option Int},aW v o->∃p:Option (Int×Tok),v=partValue p/\p.map (·.1)=o:=by
  intro v o h;cases h with
  |none=>exact⟨ab,rfl,rfl⟩|int i t=>exact⟨aa (i,t),rfl,rfl⟩
 obtain⟨l,rfl,hl⟩:=a pl;obtain⟨u,rfl,f⟩:=a P;subst hl f;refine⟨"str", _,F.slot_str_getitem.lookup,typeIs_str _ _ _,wpAny_getItem_str_slice (l:=l) (u:=u) (st:=ab) ⟨o,e,c,d⟩ rfl ?_⟩;exact post_val_or_str ⟨yO (Txt.slice_le z _ _) b,fun t' k=>⟨.str (Txt.slice z (l.map (·.1)) (u.map (·.1))),H,I.tok _,⟨t',rfl⟩,q⟩⟩
theorem zuT{T:List ae}:∀{its:List af},Vals (T.map V.str) its->∃l:List (ae×Tok),its=strValues l/\l.map (·.1)=T:=by
 induction T with
 |nil=>intro its r;cases r;exact⟨[],rfl,rfl⟩|cons a T i=>
  intro its r;rw[yE]at r;cases r with
  |cons R r2=>
   obtain⟨t,rfl⟩:=R;obtain⟨l,rfl,rfl⟩:=i r2;exact⟨(a,t)::l,rfl,rfl⟩
theorem zrc:MtM X "str.join" (fun x xs H Q=>∃(z:ae)(l:ad)(T:List ae),x = .str z/\xs=[.ref l]/\SqL X.K H l (T.map V.str)/\JoinOk z T=ac/\Q (.str (Txt.join z T)) H):=by
 intro pins s σ H x xs v us Q I r rs h;obtain⟨z,l,T,rfl,rfl,a,hok,q⟩:=h;obtain⟨t,rfl⟩:=r;obtain⟨u,rfl,R⟩:=zcB rs;cases R;obtain⟨its,r',pl,b⟩:=I.list a;obtain⟨ls,rfl,rfl⟩:=zuT r';exact SC.join pl.isList rfl hok fun t' k=>⟨.str (Txt.join z (ls.map (·.1))),H,I.tok _,⟨t',rfl⟩,q⟩
theorem zoA{a:Array af}(h:ItemsOf (SignAt z) a z.cps.size):Vals ((yJ z.cps.size).map (sgn z)) a.toList:=by
 obtain⟨c,b⟩:=h;have gen:∀(n k:Nat)(ls:List af),ls.length=n->(∀j v,ls[j]?=aa v->SignAt z (k+j) v)->Vals ((yce k n).map (sgn z)) ls:=by
  intro n;induction n with
  |zero=>intro k ls hl _;have:ls=[]:=ycP.mp hl;subst this;exact .nil|succ n i=>
   intro k ls hl H;cases ls with
   |nil=>cases hl|cons v ls=>
    rw[ydJ,yE];refine .cons (zlX (by simpa using H 0 v rfl)) (i (k+1) ls (by simpa using hl) fun j v e=>?_);have:=H (j+1) v (by simpa using e)
    rwa [show k+(j+1)=k+1+j by omega]at this
 rw[List.range_eq_range'];refine gen _ 0 _ (by simpa using c) fun j v e=>?_;rw[yL];exact b j v (by simpa using e)
theorem ziF(d:X.calm=ac):CallR X (.type "tuple") (fun xs H Q=>∃z,xs=[.str z]/\z.cps.size<=sizeLine/\∀l,H l=ab->Q (.ref l) (upd H l (.tup ((yJ z.cps.size).map (sgn z))))):=by
 intro pins s σ H xs us Q I r h;obtain⟨z,rfl,c,q⟩:=h;obtain⟨u,rfl,t,rfl⟩:=zcB r;refine call_tuple_str (I.ok.hd d) z t (fun h' tk a kp it=>?_) c;have hv:=zoA it;have i:Inv X pins σ H { s with heap:=h',toks:=tk }:=I.kept kp;have f:Inv X pins σ (upd H h'.objs.size (.tup ((yJ z.cps.size).map (sgn z)))) { s with heap:=h'.push { cls := .type "tuple", data := .seq a },toks:=tk } :=
  i.laid (t':=tk) (fun b o e=>yt _ e) (yh _) (show ObjOk X.prog X.w _ _ _ (.tup _) from ⟨by simpa using c,a.toList,hv,by simpa using IsTup.new h' a,_,yC _ rfl,rfl⟩)
 exact⟨.ref h'.objs.size,_,f,rfl,q _ (i.hok.fresh (yh _))⟩
end L2
namespace PySem
open Sem (wp)
open Builtin
namespace F
theorem sub_rit_reversed:isSubtype (.type "range_iterator") (.type "reversed")=pure ag:=by rw[isSubtype_type];kernel_rfl
end F
variable{r:ad}{n:Int}{t u v:Tok}{Q:af->aj->Prop}
section
variable{prog:ap}{w:al}{A:aA}{E:af->aj->Prop}{s:aj}
def zkz(n:Int):av:={ cls := .type "range_iterator", data := .fields #[be (n-1),be n,be (-1)] }
theorem zfj(hr:IsRange s.heap r 0 n 1 t u v)(c:0<=n)(b:n<2^62)(h:Q (.ref s.heap.objs.size) { s with heap:=s.heap.push (zkz n) }):wpAny (ao prog w) A (call (.builtin "range.__reversed__") [.ref r]) Q E s:=by
 have H:s.TypeIs (.ref r) "range" := ⟨_,hr,rfl⟩;refine bu ycQ H F.entry_range_reversed ?_ (F.args_range_reversed_1 _);unfold aK.«range.__reversed__»;refine ai (aR (a:=yN r) rfl ?_);unfold Builtin.Range.rangeFields;refine ai (ai (aI hr rfl (x := .int 0 t) rfl ?_));refine ai (aR (a:=aa (0:Int)) rfl ?_);refine ai (aI hr rfl (x := .int n u) rfl ?_);refine ai (aR (a:=aa n) rfl ?_);refine ai (aI hr rfl (x := .int 1 v) rfl ?_);refine ai (aR (a:=aa (1:Int)) rfl ?_);refine aw ?_;have hn:ycA 0 n 1=n:=by
  unfold ycA;rw[if_pos (by decide),Int.ediv_one];split <;> omega
 dsimp only;rw[hn];have hs:(yaX 0&&yaX n&&yaX 1&&yaX (-1)&&yaX (0-1)&&yaX n)=ac:=by
  have:yaX n=ac:=by
   unfold yaX;simp only[yac,decide_eq_true_eq];omega
  rw[this];decide
 rw[hs];rw[show (0:Int)+(n-1)*1=n-1 by omega];rw[if_neg (by decide),if_pos rfl];exact ai (aQ (aw ⟨_,rfl,h⟩))
theorem zgu{Q₁ : af->aj->Prop}(hr:IsRange s.heap r 0 n 1 t u v)(c:0<=n)(b:n<2^62)
  (h:Q₁ (.ref s.heap.objs.size) { s with heap:=s.heap.push (zkz n) }) :
  codeAny (ao prog w) A (.call (.builtin "reversed.__new__") ⟨[.type "reversed", .ref r],[]⟩) (wants Q₁ E) s:=by
 have H:s.TypeIs (.ref r) "range" := ⟨_,hr,rfl⟩
 refine codeAny_of_tree ?_
 show wpAny _ A.in1 (do checkBuiltinCall "reversed.__new__" ⟨[.type "reversed", .ref r],[]⟩;again (.builtin "reversed.__new__" ⟨[.type "reversed", .ref r],[]⟩)) _ _ s
 refine ai (aR (F.newCall_reversed_1 _) (aw ⟨bX ydK _,ca F.entry_reversed_new ?_⟩))
 rw[ycf ydK _]
 unfold aK.«reversed.__new__»
 refine ai (aR (newClass_reversed _) ?_)
 dsimp only
 refine ai (aR (a:=()) rfl ?_)
 refine ai (aR (a:=()) rfl ?_)
 refine ai (wpAny_specialOf H ycQ.lookup ?_)
 dsimp only
 refine ai (aR (ycQ.bind _) ?_)
 dsimp only
 rw[if_neg (show ¬ ((Value.builtin "range.__reversed__" == yaH)=ac) from yR)]
 refine ai (bp ?_)
 refine ai (m:=runValue (.call (.builtin "range.__reversed__") ⟨[.ref r],[]⟩)) (show wpAny _ _ (call (.builtin "range.__reversed__") [.ref r]) _ _ _ from zfj hr c b ?_)
 first
 |exact aw h
 |exact ai (aw (aw h))
theorem zgv(hr:IsRange s.heap r 0 n 1 t u v)(a:0<=n)(H:n<2^62)(h:Q (.ref s.heap.objs.size) { s with heap:=s.heap.push (zkz n) }):wpAny (ao prog w) A (call (.type "reversed") [.ref r]) Q E s:=by
 refine callType_other (U := "range_iterator") (Q₁ := fun obj S=>obj = .ref s.heap.objs.size/\S = { s with heap:=s.heap.push (zkz n) }) (by decide +kernel) F.create_reversed ⟨_,_,F.mro_reversed⟩ F.made_reversed F.sub_rit_reversed (F.typeCall_reversed_1 _) (zgu hr a H ⟨rfl,rfl⟩) ?_;rintro obj S ⟨rfl,rfl⟩;exact⟨⟨_,yC _ rfl,rfl⟩,h⟩
end
end PySem
namespace L2
open PySem PySem.Spec PyProof.Rows
section
variable{X:Cx}{tg:ak}
theorem zt3:CallR X (.type "range") (fun xs H Q=>∃n:Int,xs=[.int n]/\0<=n/\n<2^62/\∀p,H p=ab->Q (.ref p) (upd H p (.rng 0 n))):=by
 intro pins s σ H xs us Q I r h;obtain⟨n,rfl,c,a,q⟩:=h;obtain⟨u,rfl,t,rfl⟩:=zcB r;refine call_range_1 ?_;exact⟨.ref s.heap.objs.size,_,I.laid (o := .rng 0 n) (fun b o e=>yt _ e) (yh _) ⟨_,_,_,yC _ rfl⟩,rfl,q _ (I.hok.fresh (yh _))⟩
def iRev(te:TE):TI:=fun σ H R=>te σ H fun x H1=>∃(p:ad)(n:Int),[x]=[V.ref p]/\H1 p=aa (.rng 0 n)/\0<=n/\n<2^62/\R (Itf (fun i=>.int (n-1-i)) n.toNat) H1
theorem pi_rev{e:ak}{te:TE}{p P:ay}(l:Gl X "reversed")(hm:X.mg "reversed" = ab)(m:PE X e te)(hs:autoParam (au [e] X.env=[(ag,eval e X.env)]) AutoP.a3._auto_1):PI X tg (.Call (.Name "reversed" p) [e] [] P) (iRev te):=by
 intro pins s σ H R I h;refine Call_ (zeg I l hm boot_reversed (PyProof.Rows.callWith_type1 (thn (zcT m zgA hs P pins s σ H (fun xs a=>∃(p:ad)(n:Int),xs=[.ref p]/\a p=aa (.rng 0 n)/\0<=n/\n<2^62/\R (Itf (fun i=>.int (n-1-i)) n.toNat) a) I ?_) fun us s1 ⟨vs,a,c,g,j⟩=>?_) hs rfl))
 ·exact h
 ·obtain⟨r,n,rfl,hr,B,z,q⟩:=j;obtain⟨u,rfl,d⟩:=zcB g;cases d;obtain⟨t,u,v,e⟩:=(show ObjOk X.prog X.w a s1.heap r (.rng 0 n) from c.hok r _ hr);refine zgv e B z ?_;refine ce (x:=n-1) (left:=n) (step := -1) (yC _ rfl) ?_;have C:Inv X pins σ a { s1 with heap:=s1.heap.push (zkz n) }:=c.kept (t':=s1.toks) fun b o e=>yt _ e;refine⟨s1.heap.objs.size,[s1.heap.objs.size],_,_,a,rfl,C,zhb (nm := "range_iterator") (f:=fun i=>.int (n-1-i)) (n:=n.toNat) (fun A y=>Walks.range y _ (n-1) (-1) n.toNat) (fun i h st=>⟨_,_,st,rfl,rfl⟩) (fun i h h' st k=>k _ (by simp) _ st) (by decide) (fun i v hi hv=>?_) (fun A i s Q E st q=>ce st q),?_,fun b w=>?_,q⟩
  ·obtain⟨t,rfl⟩:=hv;exact⟨t,by congr 1;omega⟩
  ·show IsRangeIter _ _ (n-1+((0:Nat):Int)*(-1)) ((n.toNat:Int)-((0:Nat):Int)) (-1);rw[show n-1+((0:Nat):Int)*(-1)=n-1 by omega,show (n.toNat:Int)-((0:Nat):Int)=n by omega];exact yC _ rfl
  ·have e:b=s1.heap.objs.size:=by simpa using w
   subst e;exact c.fpOk (yh _) (c.hok.fresh (yh _))
end
end L2
namespace PySem
open Sem (wp)
open Builtin Builtin.Str
namespace F
end F
end PySem
namespace PySem
open Sem (wp)
open Builtin Builtin.Str
end PySem
namespace L2
open PySem PySem.Spec PyProof.Rows
variable{X:Cx}{pins:List (ad×av)}{σ : St}{H:Hp}{s:aj}{h':ax}{t':Nat}{a b:ad}
theorem Inv.turn2(I:Inv X pins σ H s)(i:zfT X pins H a)(F:zfT X pins H b)(k:∀c o,c≠a->c≠b->s.heap.get? c=aa o->h'.get? c=aa o):Inv X pins σ H { s with heap:=h',toks:=t' }:=by
 obtain⟨a0,a1,a2,a3,a4,a5⟩:=i;obtain⟨b0,b1,b2,b3,b4,B⟩:=F;have f:∀c u,H c=aa u->c≠a:=fun c u e z=>by rw[z,a0]at e;cases e
 have N:∀c u,H c=aa u->c≠b:=fun c u e z=>by rw[z,b0]at e;cases e
 refine I.step (g':=s.gens) (d':=s.drawn) (ch:=[a,b]) (fun c h=>?_) (fun c o _ _ h e _=>k c o (fun z=>h (by simp[z])) (fun z=>h (by simp[z])) e) (fun c o _ _ h e _=>⟨o.slots,k c o (fun z=>h (by simp[z])) (fun z=>h (by simp[z])) e⟩)
  (fun _ _ _ _ n=>n) (fun c o h e=>⟨o,k c o (fun z=>h (by simp[z])) (fun z=>h (by simp[z])) e⟩) (fun _ _ e=>e) (fun _ _ _ e=>e) (fun c ps e=>⟨#[],by rw[e];simp⟩) (fun m hm=>?_) (fun c u e=>?_) I.bare
 ·have e:c=a∨c=b:=by simpa using h
  rcases e with rfl|rfl
  ·exact⟨a3,a1,a4,a5⟩
  ·exact⟨b3,b1,b4,B⟩
 ·obtain⟨o,es,ep,g,r⟩:=hm;exact⟨o,es,ep,k _ o (Ne.symm a1) (Ne.symm b1) g,r⟩
 ·refine(I.hok c u e).stay (fun d v hd q=>?_) (fun _ q=>q) fun _ _ q=>q;rcases hd with z|z
  ·rw[z]at q ⊢;exact k c v (f c u e) (N c u e) q
  ·exact k d v (f d _ z) (N d _ z) q
theorem Inv.turn2l{T:ad}{o':HO}(I:Inv X pins σ H s)(F:zfT X pins H a)(f:zfT X pins H b)(k:∀c o,c≠a->c≠b->s.heap.get? c=aa o->h'.get? c=aa o)(d:s.heap.objs.size<=T)(new:ObjOk X.prog X.w (upd H T o') h' T o'):Inv X pins σ (upd H T o') { s with heap:=h',toks:=t' }:=by
 have J:Inv X pins σ H { s with heap:=h',toks:=t' }:=I.turn2 F f k;have hn:H T=ab:=I.hok.fresh d;obtain⟨a0,a1,a2,a3,a4,a5⟩:=F;obtain⟨b0,b1,b2,b3,b4,B⟩:=f;have N:∀c o,s.heap.get? c=aa o->c≠T:=fun c o q=>yG (yQ (yA q) d);refine I.step (g':=s.gens) (d':=s.drawn) (ch:=[a,b]) (fun c h=>?_) (fun c o _ _ h e _=>k c o (fun z=>h (by simp[z])) (fun z=>h (by simp[z])) e) (fun c o _ _ h e _=>⟨o.slots,k c o (fun z=>h (by simp[z])) (fun z=>h (by simp[z])) e⟩)
  (fun c o _ q n=>by rw[zax (N c o q)];exact n) (fun c o h e=>⟨o,k c o (fun z=>h (by simp[z])) (fun z=>h (by simp[z])) e⟩) (fun c xs e=>by rw[zax (zaI e hn)];exact e) (fun c u xs e=>by rw[zax (zaI e hn)];exact e)
  (fun c ps e=>⟨#[],by rw[zax (zaI e hn),e];simp⟩) (fun m hm=>?_) (zfx J.hok hn new) I.bare
 ·have e:c=a∨c=b:=by simpa using h
  rcases e with rfl|rfl
  ·exact⟨a3,a1,a4,a5⟩
  ·exact⟨b3,b1,b4,B⟩
 ·obtain⟨o,es,ep,g,r⟩:=hm;exact⟨o,es,ep,k _ o (Ne.symm a1) (Ne.symm b1) g,r⟩
end L2
namespace PySem
open Sem (wp)
open Builtin
variable{prog:ap}{A:aA}{E:af->aj->Prop}{s:aj}{it:ad}{i:Nat}{items:Array af}{Q:af->aj->Prop}
section
variable{w:al}
theorem zhJ{l:ad}{x:af}(h:s.heap.IsTupleIter it l i)(hl:s.heap.IsTuple l items)(c:items[i]?=aa x)(e:∀h',h'.IsTupleIter it l (i+1)->ya2 it s.heap h'->Q x { s with heap:=h' }):wpAny (ao prog w) A (SmallTypes.nextOf (.ref it)) Q E s:=by
 obtain⟨o,H,d,hd⟩:=id h;obtain⟨O,a,_,n,b⟩:=hl;have f : ¬ ((yN l==yaH)=ac):=yR;unfold SmallTypes.nextOf;refine ai (bN (name:=yaa "__next__") h.typeIs ycg (bu ycg h.typeIs ydL ?_ (ydM _)));refine ai (m:=field (.ref it) 0) (aI H hd (x := .ref l) rfl ?_);show wpAny _ _ (if (yN l==yaH)=ac then _ else _) _ _ s;rw[if_neg f];refine ai (m:=field (.ref it) 1) (aI H hd (x := .int i 0) rfl ?_);refine ai (m:=bY (.ref l)) (aY a b ?_);simp only[yaA,c];refine ai (wpAny_setField H hd (by simp) (aw ⟨x,rfl,aw (e _ ⟨_,yb4 _ H (Obj.isFreed_of_fields (ydN hd _)),(Obj.cls_mapFields ..).trans d,?_⟩ (ydO ..))⟩));rw[ydN hd];simp[be]
theorem ziz{l:ad}(g:A.handled=ab)(h:s.heap.IsTupleIter it l i)(hl:s.heap.IsTuple l items)(f:items[i]?=ab)(j:∀h' e,Heap.ExtBut it s.heap h'->(∃o,h'.get? e=aa o/\o.cls = .type "StopIteration")->E (.ref e) { s with heap:=h' }):wpAny (ao prog w) A (SmallTypes.nextOf (.ref it)) Q E s:=by
 obtain⟨o,b,p,hd⟩:=id h;obtain⟨O,H,_,n,d⟩:=hl;have k : ¬ ((yN l==yaH)=ac):=yR;unfold SmallTypes.nextOf;refine ai (bN (name:=yaa "__next__") h.typeIs ycg (bu ycg h.typeIs ydL ?_ (ydM _)));refine ai (m:=field (.ref it) 0) (aI b hd (x := .ref l) rfl ?_);show wpAny _ _ (if (yN l==yaH)=ac then _ else _) _ _ s;rw[if_neg k];refine ai (m:=field (.ref it) 1) (aI b hd (x := .int i 0) rfl ?_);refine ai (m:=bY (.ref l)) (aY H d ?_);simp only[yaA,f];refine ai (bp (ai (wpAny_setField b hd (by simp) ?_)));show wpAny _ _ (newExc (.type "StopIteration") [] >>= _) _ _ _;refine ai ?_;simp only[newExc,newTuple];refine ai (aQ ?_ (by size_fits));refine ai (m:=firstArgMember _ _) (aR (a:=yaH) (by first | rfl | (simp only[firstArgMember];rfl)) (aQ ?_ (by size_fits)));simp only[raiseNew];have c:A.in1.handled=ab:=g;refine ai (wpAny_handled ?_);rw[c];exact ai (aw (wpAny_throw (j _ _ (((ydO ..).extBut.push _).push _) ⟨_,yC _ rfl,rfl⟩)))
end
theorem Draws.tup{w:al}(d:A.handled=ab)(it l:ad)(b:l≠it)(items:Array af) :
  Draws prog w A it [it,l] items.size (fun i v=>items[i]?=aa v) (fun i h=>h.IsTupleIter it l i/\h.IsTuple l items) where
 live:=fun _ _ st=>let ⟨o,ho,_⟩:=st.1;⟨o,ho⟩
 frame:=fun _ _ _ st c=>⟨let ⟨o,ho,r⟩:=st.1;⟨o,c it (by simp) o ho,r⟩,let ⟨o,ho,r⟩:=st.2;⟨o,c l (by simp) o ho,r⟩⟩
 item:=fun i s Q E hi st e=>zhJ st.1 st.2 (x:=items[i]) (by simp[hi]) fun h' a H=>e _ h' s.toks (by simp[hi]) ⟨a,st.2.extBut H.extBut b⟩ H
 done:=fun s Q E st f=>ziz d st.1 st.2 (by simp) f
theorem ze8(l:ad)(items:Array af) :
  Meets (aK.«enumerate.__new__» ⟨[.type "enumerate", .ref l],[]⟩) (fun _ R s=>s.heap.IsTuple l items ∧
   R (.ok (.ret (.ref (s.heap.push { cls := .type "tuple_iterator", data := .fields #[.ref l,.int 0 0] }).objs.size)))
    { s with heap:=(s.heap.push { cls := .type "tuple_iterator", data := .fields #[.ref l,.int 0 0] }).push { cls := .type "enumerate", data := .fields #[.none,.bool ag,.ref s.heap.objs.size,be 0,.none,.none] } }) :=
 .of_wp fun prog w A R s h=>by
  obtain⟨b,g,d,tk,os⟩:=s;obtain⟨a,h⟩:=h;have H:=sub_enumerate
  wp_walk
  refine wpAny_stack_any fun st=>aw ?_;split
  ·rename_i c _ _ _ _ _;cases (c==yaM "enumerate") <;> (wp_walk using bL a;exact⟨_,rfl,h⟩)
  ·wp_walk using bL a
   exact⟨_,rfl,h⟩
theorem zfQ{w:al}{l:ad}(c:s.heap.IsTuple l items)
  (h:∀h',IsEnum h' (s.heap.objs.size+1) s.heap.objs.size 0 .none->h'.IsTupleIter s.heap.objs.size l 0->(∀b o,s.heap.get? b=aa o->h'.get? b=aa o)->Q (.ref (s.heap.objs.size+1)) { s with heap:=h' }) :
  wpAny (ao prog w) A (call (.type "enumerate") [.ref l]) Q E s:=by
 refine callType_new F.called_enumerate (by decide) (F.typeCall_enumerate_1 _) (F.newCall_enumerate_1 _) (fun obj=>F.args_object_init_2 obj _) F.entry_enumerate_new (ze8 l items) ⟨c,?_⟩;have H:(s.heap.push { cls := .type "tuple_iterator", data := .fields #[.ref l,.int 0 0] }).objs.size=s.heap.objs.size+1:=yap ..;show _/\_;rw[H];have a:IsEnum ((s.heap.push { cls := .type "tuple_iterator", data := .fields #[.ref l,.int 0 0] }).push { cls := .type "enumerate", data := .fields #[.none,.bool ag,.ref s.heap.objs.size,be 0,.none,.none] }) (s.heap.objs.size+1) s.heap.objs.size 0 .none:=by
  rw[<- H];exact yC _ rfl
 exact⟨⟨_,a,rfl⟩,h _ a ⟨_,yt _ (yC _ rfl),rfl,rfl⟩ fun b o e=>yt _ (yt _ e)⟩
end PySem
namespace L2
open PySem PySem.Spec PyProof.Rows
structure SeqKind(c:List V->HO)(IsS:ax->ad->Array af->Prop)(IsI:ax->ad->ad->Nat->Prop):Prop where
 obj:∀h it l i,IsI h it l i->∃o,h.get? it=aa o/\∀v,o.data ≠ .cell v
 kp:∀(h h':ax) it l i,IsI h it l i->(∀o,h.get? it=aa o->h'.get? it=aa o)->IsI h' it l i
 seq:∀(X:Cx)(pins:List (ad×av))(σ : St)(H:Hp)(s:aj)(l:ad)(xs:List V),Inv X pins σ H s->H l=aa (c xs)->∃its:List af,Vals xs its/\IsS s.heap l its.toArray
 dr:∀(P:ap)(w:al)(A:aA),A.handled=ab->∀(it l:ad),l≠it->∀items:Array af,Draws P w A it [it,l] items.size (fun i v=>items[i]?=aa v) (fun i h=>IsI h it l i/\IsS h l items)
 inj:∀a b,c a=c b->a=b
theorem seq_lst:SeqKind HO.lst Heap.IsList Heap.IsListIter where
 obj:=fun h it l i st=>by obtain⟨o,e,_,d⟩:=st;exact⟨o,e,fun v z=>by rw[d]at z;cases z⟩
 kp:=fun h h' it l i st k=>let ⟨o,e,r⟩:=st;⟨o,k o e,r⟩
 seq:=fun X pins σ H s l xs I e=>by
  obtain⟨its,r,p,_⟩:=I.list (SqL.of e)
  exact⟨its,r,p.isList⟩
 dr:=fun P w A f it l c items=>Draws.list f it l c items
 inj:=fun a b e=>by cases e;rfl
theorem seq_tup:SeqKind HO.tup Heap.IsTuple ydP where
 obj:=fun h it l i st=>by obtain⟨o,e,_,d⟩:=st;exact⟨o,e,fun v z=>by rw[d]at z;cases z⟩
 kp:=fun h h' it l i st k=>let ⟨o,e,r⟩:=st;⟨o,k o e,r⟩
 seq:=fun X pins σ H s l xs I e=>by
  obtain⟨its,r,p,_⟩:=I.tuple (SqT.of e)
  exact⟨its,r,p⟩
 dr:=fun P w A f it l c items=>Draws.tup f it l c items
 inj:=fun a b e=>by cases e;rfl
theorem ze3(ns:List Int):∀j,j<=ns.length->preSum (fun i=>ns.getD i 0) j=(ns.take j).sum
 |0,_=>by simp[preSum]|j+1,h=>by
  have h2:=ze3 ns j (by omega);rw[preSum,h2,ycR,yu (by omega),ycS];have H:j<ns.length:=by omega
  simp[H]
theorem zkq(B:Int)(c:0<=B):∀ns:List Int,(∀a,a∈ns->0<=a/\a<=B)->0<=ns.sum/\ns.sum<=ns.length*B
 |[],_=>by simp|a::r,h=>by
  have h1:=zkq B c r fun b H=>h b (yag _ H);have d:=h a (by simp);rw[ycT,yD];push_cast;rw[ycU];omega
theorem zlC{X:Cx}(w:X.calm=ac):CallR X (.builtin "sum") (fun xs H Q=>∃(l:ad)(ns:List Int),xs=[.ref l]/\SqL X.K H l (ns.map V.int)/\(∀a,a∈ns->0<=a/\a<=2^50)/\ns.length<=1000/\Q (.int ns.sum) H):=by
 intro pins s σ H xs us Q I r h;obtain⟨l,ns,rfl,p,m,hn,q⟩:=h;obtain⟨u,rfl,R⟩:=zcB r;cases R;obtain⟨its,r',pl,y⟩:=I.list p;have hl:=pl.isList;have g:l<s.heap.objs.size:=by obtain⟨_,e,_⟩:=hl;exact yA e
 have c:ns.length=its.length:=by rw[<- r'.length,yj]
 have f:∀j,j<=ns.length->0<=preSum (fun i=>ns.getD i 0) j/\preSum (fun i=>ns.getD i 0) j<=1000*2^50:=fun j d=>by
  rw[ze3 ns j d];have x:=zkq (2^50) (by decide) (ns.take j) fun a ha=>m a (ycV ha);have n:((ns.take j).length:Int)<=1000:=by rw[ya9];omega
  have B:((ns.take j).length:Int)*2^50<=1000*2^50:=ycW n (by decide);omega
 refine call_sum_walk (bU hl ?_);refine⟨s.heap.objs.size,_,_,its.toArray.size,_,_,fun i=>ns.getD i 0,rfl,ycd (A:=X.A.in1) (I.ok.hd w) _ l (yG g) its.toArray,⟨⟨_,yC _ rfl,rfl,rfl⟩,hl.push _⟩,fun b k=>?_,fun i v e=>zpz r' e,fun j d=>?_,fun h' tk t' t=>?_⟩
 ·have e:b=s.heap.objs.size∨b=l:=by simpa using k
  have z:(s.heap.push { cls := .type "list_iterator", data := .fields #[.ref l,.int 0 0] }).objs.size=s.heap.objs.size+1:=yap ..;show b<(s.heap.push { cls := .type "list_iterator", data := .fields #[.ref l,.int 0 0] }).objs.size;rw[z];rcases e with rfl|rfl
  ·exact ya6 _
  ·exact ydQ g
 ·rw[yM,<- c]at d;have x:=f (j+1) d;have n:=m (ns.getD j 0) (by rw[zrQ d];exact yaC d);refine⟨⟨?_,?_⟩,⟨by omega,by omega⟩⟩
  ·show -(2^63)<=ns.getD j 0;omega
  ·show ns.getD j 0<2^63;omega
 ·rw[yM,<- c,ze3 ns _ (yh _),ych];exact⟨.int ns.sum,H,I.kept fun b o e=>t b o (fun z=>yG (yA e) (y8.mp z)) (yt _ e),⟨t',rfl⟩,q⟩
end L2
namespace PySem
open Sem (wp)
open Builtin
open AutoSeq1 (wpAny_loadPart')
theorem zjk(l:ad)(items:Array af)(n:Nat)(D:Option ad)(sl:Array (Option af))(x:af)(e:af->Bool)(j:Nat)(v:j<items.size)(f:e items[j]=ac)(c:∀m (hm:m<items.size),m<j->e items[m]=ag) : Meets (aK.«tuple.index» ⟨[.ref l,x],[]⟩) (fun A R s=>s.heap.get? l=aa { cls := .type "tuple", dict:=D,data := .seq items n,slots:=sl }/\(∀y,y∈items->SeqAt.EqAt A.in1 s y x (e y))/\R (.ok (.ret (.int j s.toks))) { s with toks:=s.toks+1 }) :=
 .of_wp fun prog w A R s h=>by
  obtain⟨q,g,d,tk,os⟩:=s;obtain⟨hl,u,h⟩:=h;unfold aK.«tuple.index»;refine ai (aR (a:=(yN l,[x])) rfl ?_);refine ai (wpAny_tupleItemsOf hl rfl ?_);dsimp only;refine ai (aw ?_);refine ai (aw ?_);rw[Nat.min_self,Std.Legacy.Range.forIn_eq_forIn_range'];have p:yce ([:items.size]).start ([:items.size]).size ([:items.size]).step=yce 0 items.size 1:=by
   simp[Std.Legacy.Range.size]
  rw[p];refine ai (wpAny_forIn_list _ (fun r b S=>b=(ab,())/\S=⟨q,g,d,tk,os⟩/\∃i,i<=j/\r=yce i (items.size-i) 1) _ ?_ ?_ _ _ ⟨rfl,rfl,0,yav _,by simp⟩)
  ·rintro i r b S ⟨rfl,rfl,k,t,hr⟩;have H:k<items.size:=by omega
   rw[show items.size-k=(items.size-(k+1))+1 by omega,ydJ]at hr;obtain⟨rfl,rfl⟩:=List.cons.inj hr;have hi:items[i]?=aa items[i]:=by simp[H]
   rw[hi];dsimp only;refine ai (u _ (Array.getElem_mem H) prog w _ _ ?_);by_cases o:i=j
   ·subst o;rw[f,if_pos rfl];refine ai (ai (wpAny_mkInt (aw ?_)));exact aw (aw ⟨_,rfl,h⟩)
   ·rw[c i H (by omega),if_neg yR];exact aw ⟨rfl,rfl,i+1,by omega,rfl⟩
  ·rintro b S ⟨rfl,rfl,k,t,hr⟩;have:=congrArg ya8 hr;simp at this;omega
end PySem
namespace L2
open PySem PySem.Spec PyProof.Rows
variable{o:Option V}{y:V}{u:af}
section
variable{κ : Type}[DecidableEq κ]
def zlU(kvs:List (κ × V))(k : κ):Option V:=(kvs.find? fun K=>decide (K.1=k)).map (·.2)
def zfr(kvs:List (κ × V))(k : κ)(v:V):List (κ × V) :=
 if (kvs.any fun K=>decide (K.1=k))=ac then kvs.map (fun K=>if K.1=k then (K.1,v) else K) else kvs++[(k,v)]
theorem zg2{p : κ × V}{r:List (κ × V)}{k : κ}(e:p.1=k):zlU (p::r) k=aa p.2:=by simp[zlU,ybq,e]
theorem zg3{p : κ × V}{r:List (κ × V)}{k : κ}(e : ¬ p.1=k):zlU (p::r) k=zlU r k:=by simp[zlU,ybq,e]
theorem znk(k : κ):∀kvs:List (κ × V),(kvs.any fun K=>decide (K.1=k))=(zlU kvs k).isSome
 |[]=>rfl|p::r=>by
  rw[yaY];by_cases e:p.1=k
  ·simp only[zg2 e,decide_eq_true e,Bool.true_or,ydR]
  ·rw[zg3 e,decide_eq_false e,ycX];exact znk k r
theorem zfa(kvs:List (κ × V))(k : κ)(v:V):(zfr kvs k v).length<=kvs.length+1:=by
 unfold zfr;split
 ·rw[yj];omega
 ·rw[yI,yD,List.length_nil];omega
theorem RelO.isSome_eq{u:Option af}(r:RelO o u):o.isSome=u.isSome:=by
 cases o with
 |none=>cases u with
  |none=>rfl|some _=>exact(show False from r).elim
 |some _=>cases u with
  |none=>exact(show False from r).elim|some _=>rfl
theorem KV.val{kvs:List (κ × V)}{vs:List (κ × af)}(r:KV kvs vs)(k : κ):RelO (zlU kvs k) (bH vs k):=by
 unfold KV at r;induction r with
 |nil=>exact True.intro|@cons p q ps qs h t i=>
  obtain⟨H,a⟩:=h;by_cases e:p.1=k
  ·have E:q.1=k:=H.symm.trans e;have b:bH (q::qs) k=aa q.2:=by simp[bH,ybq,E]
   rw[zg2 e,b];exact a
  ·have E : ¬ q.1=k:=fun z=>e (H.trans z);have b:bH (q::qs) k=bH qs k:=by simp[bH,ybq,E]
   rw[zg3 e,b];exact i
theorem KV.any{kvs:List (κ × V)}{vs:List (κ × af)}(r:KV kvs vs)(k : κ):(kvs.any fun K=>decide (K.1=k))=vs.any fun K=>decide (K.1=k):=by
 unfold KV at r;induction r with
 |nil=>rfl|cons h t i=>rw[yaY,yaY,i,h.1]
theorem KV.repl{kvs:List (κ × V)}{vs:List (κ × af)}(r:KV kvs vs)(k : κ)(R:RelV y u) : KV (kvs.map fun K=>if K.1=k then (K.1,y) else K) (vs.map fun K=>if K.1=k then (K.1,u) else K):=by
 unfold KV at r ⊢;induction r with
 |nil=>exact .nil|@cons p q ps qs h t i=>
  rw[yE,yE];refine .cons ?_ i;obtain⟨H,a⟩:=h;by_cases e:p.1=k
  ·rw[if_pos e,if_pos (H.symm.trans e)];exact⟨H,R⟩
  ·rw[if_neg e,if_neg (fun z=>e (H.trans z))];exact⟨H,a⟩
theorem KV.put{kvs:List (κ × V)}{vs:List (κ × af)}(r:KV kvs vs)(k : κ)(R:RelV y u):KV (zfr kvs k y) (stored vs k u):=by
 unfold zfr stored;rw[r.any k];by_cases e:(vs.any fun K=>decide (K.1=k))=ac
 ·rw[if_pos e,if_pos e];exact r.repl k R
 ·rw[if_neg e,if_neg e];exact Paired.snoc r ⟨rfl,R⟩
theorem KV.keys{kvs:List (κ × V)}{vs:List (κ × af)}(r:KV kvs vs):kvs.map (·.1)=vs.map (·.1):=by
 unfold KV at r;induction r with
 |nil=>rfl|cons h t i=>rw[yE,yE,i,h.1]
theorem KV.length{kvs:List (κ × V)}{vs:List (κ × af)}(r:KV kvs vs):kvs.length=vs.length:=Paired.length r
end
variable{P:ap}
theorem zmO{w:al}{k:Key}(r:RelV (kV k) u):(zaP P w).is k u=ac:=by
 cases k with
 |inl i=>obtain⟨t,e⟩:=(show ∃t,u=ybz i t from r);subst e;exact zmH P w i t
 |inr x=>obtain⟨t,e⟩:=(show ∃t,u=ybA x t from r);subst e;exact zmG P w x t
theorem zlc{P:ap}{w:al}:∀{ks:List Key}{us:List af},Vals (ks.map kV) us->ItemsAre (zaP P w) ks us
 |[],_,r=>by rw[yba]at r;cases r;exact .nil|k::ks,_,r=>by
  rw[yE]at r;cases r with
  |cons h t=>exact .cons (zmO h) (zlc t)
abbrev KT(H:Hp):List (List Key×V)->List (List Key×ad×af)->Prop:=Paired fun p q=>p.1=q.1/\H q.2.1=aa (.tup (p.1.map kV))/\RelV p.2 q.2.2
variable{kvs:List (List Key×V)}{H:Hp}{xs:List (List Key×ad×af)}
theorem KT.val(r:KT H kvs xs)(k:List Key):RelO (zlU kvs k) ((bn xs k).map (·.2)):=by
 induction r with
 |nil=>exact True.intro|@cons p q ps qs h t i=>
  obtain⟨a,_,c⟩:=h;by_cases e:p.1=k
  ·have E:q.1=k:=a.symm.trans e;have b:bn (q::qs) k=aa q.2:=by simp[bn,ybq,E]
   rw[zg2 e,b];exact c
  ·have E : ¬ q.1=k:=fun z=>e (a.trans z);have b:bn (q::qs) k=bn qs k:=by simp[bn,ybq,E]
   rw[zg3 e,b];exact i
theorem KT.repl(r:KT H kvs xs)(k:List Key)(R:RelV y u) : KT H (kvs.map fun K=>if K.1=k then (K.1,y) else K) (xs.map (putAt k u)):=by
 induction r with
 |nil=>exact .nil|@cons p q ps qs h t i=>
  rw[yE,yE];refine .cons ?_ i;obtain⟨a,b,c⟩:=h;unfold putAt;by_cases e:p.1=k
  ·rw[if_pos e,if_pos (a.symm.trans e)];exact⟨a,b,R⟩
  ·rw[if_neg e,if_neg (fun z=>e (a.trans z))];exact⟨a,b,c⟩
theorem KT.put(r:KT H kvs xs)(k:List Key){b:ad}(h:H b=aa (.tup (k.map kV)))(R:RelV y u) : KT H (zfr kvs k y) (storedH xs k b u):=by
 have e:(kvs.any fun K=>decide (K.1=k))=(bn xs k).isSome:=by
  rw[znk,(r.val k).isSome_eq,yci]
 unfold zfr storedH;rw[e];by_cases q:(bn xs k).isSome=ac
 ·rw[if_pos q,if_pos q];exact r.repl k R
 ·rw[if_neg q,if_neg q];exact Paired.snoc r ⟨rfl,h,R⟩
variable{H':Hp}
theorem KT.keeps(r:KT H kvs xs)(h:∀b ys,H b=aa (.tup ys)->H' b=aa (.tup ys)):KT H' kvs xs :=
 Paired.mapP r fun _ _ z=>⟨z.1,h _ _ z.2.1,z.2.2⟩
variable{a:ad}
section
variable{w:al}{h:ax}
theorem rd_of{u:HO}(ok:HOk P w H h)(e:Rd H a u):ObjOk P w H h a u:=e.ok ok
theorem zmU{kvs:List (Key×V)}(ok:HOk P w H h)(e:Rd H a (.dK kvs)):kvs.length<=sizeLine/\(a==aS)=ag/\∃vs,KV kvs vs/\h.DictOf (zaP P w) a vs :=
 show ObjOk P w H h a (.dK kvs) from rd_of ok e
theorem dk_of{kvs:List (Key×V)}(ok:HOk P w H h)(e:H a=aa (.dK kvs)):kvs.length<=sizeLine/\(a==aS)=ag/\∃vs,KV kvs vs/\h.DictOf (zaP P w) a vs:=zmU ok (.inl e)
theorem zk7{ks:List Key}(ok:HOk P w H h)(e:H a=aa (.tup (ks.map kV))):(bQ (zaP P w)).is h ks a:=by
 obtain⟨_,its,r,⟨o,d,c,n,b⟩,_⟩:=(show ObjOk P w H h a (.tup (ks.map kV)) from ok a _ e);exact⟨o,its.toArray,n,d,c,b,by simpa using zlc r⟩
theorem zr9(ok:HOk P w H h)(e:Rd H a (.dT kvs)):kvs.length<=sizeLine/\(a==aS)=ag∧∃xs,KT H kvs xs/\h.DictOfH (bQ (zaP P w)) a xs:=by
 obtain⟨z,y,xs,r,o,es,ep,k,j,g,f,d⟩:=(show ObjOk P w H h a (.dT kvs) from rd_of ok e);refine⟨z,y,xs,r,o,es,ep,k,j,g,f,fun x b=>?_,d⟩;have all:∀{l:List (List Key×V)}{m:List (List Key×ad×af)},KT H l m->∀x∈m,(bQ (zaP P w)).is h x.1 x.2.1:=by
  intro l m q;induction q with
  |nil=>intro x b;exact nomatch b|@cons p q ps qs c t i=>
   intro x b;rcases yB.mp b with e|b
   ·subst e;exact zk7 ok (by rw[<- c.1];exact c.2.1)
   ·exact i x b
 exact all r x b
theorem dt_of(ok:HOk P w H h)(e:H a=aa (.dT kvs)):kvs.length<=sizeLine/\(a==aS)=ag ∧
  ∃xs,KT H kvs xs/\h.DictOfH (bQ (zaP P w)) a xs:=zr9 ok (.inl e)
end
def DGet(H:Hp)(a:ad)(y:V)(r:Option V):Prop :=
 (∃kvs k,Rd H a (.dK kvs)/\y=kV k/\r=zlU kvs k)∨∃kvs k b,Rd H a (.dT kvs)/\y = .ref b/\H b=aa (.tup (k.map kV))/\r=zlU kvs k
def DPut(H:Hp)(a:ad)(y v:V)(H':Hp):Prop :=
 (∃kvs k,H a=aa (.dK kvs)/\y=kV k/\kvs.length<sizeLine/\H'=upd H a (.dK (zfr kvs k v))) ∨
 ∃kvs k b,H a=aa (.dT kvs)/\y = .ref b/\H b=aa (.tup (k.map kV))/\kvs.length<sizeLine/\H'=upd H a (.dT (zfr kvs k v))
theorem DGet.k{kvs:List (Key×V)}{k:Key}(e:H a=aa (.dK kvs)):DGet H a (kV k) (zlU kvs k) := .inl ⟨kvs,k,.inl e,rfl,rfl⟩
variable{v:V}
theorem DPut.k{kvs:List (Key×V)}{k:Key}(e:H a=aa (.dK kvs))(hl:kvs.length<sizeLine):DPut H a (kV k) v (upd H a (.dK (zfr kvs k v))) := .inl ⟨kvs,k,e,rfl,hl,rfl⟩
variable{X:Cx}{pins:List (ad×av)}{σ : St}{s:aj}{A:aA}{E Q:af->aj->Prop}{h':ax}
section
variable{r:af}
theorem Inv.big(I:Inv X pins σ H s):aS<s.heap.objs.size:=by
 have h:aD<s.heap.objs.size:=(I.mod.glob.keeps I.bk).lt;exact Nat.lt_trans (by decide) h
theorem zsf(j:A.units+1<aF)(I:Inv X pins σ H s)(g:DGet H a y (aa v))(i:RelV y u)(h:∀w s',Inv X pins σ H s'->RelV v w->Q w s') : wpAny (ao X.prog X.w) A (br (.ref a) u) Q E s:=by
 rcases g with⟨kvs,k,e,f,l⟩|⟨kvs,k,b,e,f,n,l⟩
 ·subst f;obtain⟨z,hd,vs,R,D⟩:=zmU I.hok e;obtain⟨w,c,r⟩:=RelO.some_of (v:=v) (o:=bH vs k) (by rw[l];exact R.val k);exact wpAny_getItem_of (zmO i) D.mapOf c (h w _ (I.tok _) r)
 ·subst f;cases (show u=yN b from i);obtain⟨z,hd,xs,R,D⟩:=zr9 I.hok e;obtain⟨w,c,r⟩:=RelO.some_of (v:=v) (o:=(bn xs k).map (·.2)) (by rw[l];exact R.val k);obtain⟨p,m,d⟩:=yat.mp c;refine wpAny_getItem_heap (cc j) (zk7 I.hok n) D m ?_;rw[d];exact h w _ (I.tok _) r
theorem d_in(f:A.units+1<aF)(I:Inv X pins σ H s)(g:DGet H a y o)(R:RelV y u)(h:∀s',Inv X pins σ H s'->Q (.bool o.isSome) s') : wpAny (ao X.prog X.w) A (az .In u (.ref a)) Q E s:=by
 rcases g with⟨kvs,k,e,c,l⟩|⟨kvs,k,b,e,c,i,l⟩
 ·subst c;obtain⟨z,hd,vs,r,d⟩:=zmU I.hok e;refine wpAny_in_of (zmO R) hd d.mapOf ?_;rw[<- (r.val k).isSome_eq,<- l];exact h _ (I.tok _)
 ·subst c;cases (show u=yN b from R);obtain⟨z,hd,xs,r,d⟩:=zr9 I.hok e;refine wpAny_in_heap (cc f) (zk7 I.hok i) hd d ?_;have q:=(r.val k).isSome_eq;rw[yci]at q;rw[<- q,<- l];exact h _ (I.tok _)
theorem zwt(f:A.units+1<aF)(I:Inv X pins σ H s)(g:DGet H a y o)(R:RelV y u)(h:∀s',Inv X pins σ H s'->Q (.bool (!o.isSome)) s') : wpAny (ao X.prog X.w) A (az .NotIn u (.ref a)) Q E s:=by
 rcases g with⟨kvs,k,e,c,l⟩|⟨kvs,k,b,e,c,i,l⟩
 ·subst c;obtain⟨z,hd,vs,r,d⟩:=zmU I.hok e;refine wpAny_notIn_of (zmO R) hd d.mapOf ?_;rw[<- (r.val k).isSome_eq,<- l];exact h _ (I.tok _)
 ·subst c;cases (show u=yN b from R);obtain⟨z,hd,xs,r,d⟩:=zr9 I.hok e;refine wpAny_notIn_heap (cc f) (zk7 I.hok i) hd d ?_;have q:=(r.val k).isSome_eq;rw[yci]at q;rw[<- q,<- l];exact h _ (I.tok _)
theorem zmW{t':Nat}{ob:HO}(I:Inv X pins σ H s)(m:Mut (H a))(hs:ya2 a s.heap h')(h:∃q,h'.get? a=aa q)(new:ObjOk X.prog X.w (upd H a ob) h' a ob) : Inv X pins σ (upd H a ob) { s with heap:=h',toks:=t' } :=
 I.write (x:=a) (e:=a) m (.inl rfl) (fun b q c z=>(hs.2 b c).trans z) h new
theorem zuA{w:al}{kvs:List (Key×V)}{vs:List (Key×af)}(z:kvs.length<=sizeLine)(hd:(a==aS)=ag)(r:KV kvs vs)(d:h'.DictOf (zaP P w) a vs) :
  ObjOk P w H' h' a (.dK kvs):=⟨z,hd,vs,r,d⟩
theorem zse{Q:Unit->aj->Prop}(w:A.units+1<aF)(I:Inv X pins σ H s)(g:DPut H a y v H')(n:RelV y u)(o:RelV v r)(h:∀s',Inv X pins σ H' s'->Q () s') : wpAny (ao X.prog X.w) A (setItem (.ref a) u r) Q E s:=by
 rcases g with⟨kvs,k,e,j,l,m⟩|⟨kvs,k,b,e,j,t,l,m⟩
 ·subst j m;obtain⟨z,hd,vs,R,D⟩:=dk_of I.hok e;have i:vs.length<=sizeLine:=by rw[<- R.length];exact z
  have hl:(zfr kvs k v).length<=sizeLine:=by have:=zfa kvs k v;omega
  refine wpAny_setItem_pairs (hsz:=i) (zmO n) D fun h' d hs=>h _ ?_;have x:∃q,h'.get? a=aa q:=let ⟨q,_,_,f,_⟩:=d;⟨q,f⟩;exact zmW I (by rw[e];exact True.intro) hs x (zuA hl hd (R.put k o) d)
 ·subst j m;cases (show u=yN b from n);obtain⟨z,hd,xs,R,D⟩:=dt_of I.hok e;have i:xs.length<=sizeLine:=by rw[<- Paired.length R];exact z
  have hl:(zfr kvs k v).length<=sizeLine:=by have:=zfa kvs k v;omega
  refine wpAny_setItem_heap (hsz:=i) (cc w) (zk7 I.hok t) D fun h' d hs=>h _ ?_;obtain⟨q,es,ep,f,G,F,C,_,B⟩:=d;refine zmW I (by rw[e];exact True.intro) hs ⟨q,f⟩ ⟨hl,hd,_,(R.put k t o).keeps fun c ys p=>?_,q,es,ep,f,G,F,C,B⟩;rw[zax (ne_of p e (fun z=>nomatch z))];exact p
end
section
variable{kvs:List (Key×V)}{k:Key}
theorem d_len(I:Inv X pins σ H s)(e:Rd H a (.dK kvs))(h:∀t s',Inv X pins σ H s'->Q (.int kvs.length t) s'):wpAny (ao X.prog X.w) A (call (.builtin "len") [.ref a]) Q E s:=by
 obtain⟨z,hd,vs,r,d⟩:=zmU I.hok e;refine call_len_dict hd d (by rw[<- r.length];rw[bq]at z;omega) ?_;rw[<- r.length];exact h _ _ (I.tok _)
end
theorem zmV(I:Inv X pins σ H s)(g:DGet H a y o):s.TypeIs (.ref a) "dict" := by
 rcases g with⟨kvs,k,e,_,_⟩|⟨kvs,k,b,e,_,_,_⟩
 ·obtain⟨_,_,vs,_,d⟩:=zmU I.hok e;exact d.typeIs
 ·obtain⟨_,_,xs,_,d⟩:=zr9 I.hok e;exact d.typeIs
def sDPut(td ty tv:TE):TS:=fun D σ H=>tv σ H fun v H1=>td σ H1 fun x H2=>ty σ H2 fun y h=>∃a H4,x = .ref a/\DPut h a y v H4/\D.nx σ H4
variable{pos:ay}{tv:TE}
section
variable{o i e value:ak}{pos' tpos:ay}{td ty:TE}
theorem zvr(e:X.A.units+1<aF)(f:PE X o td)(hi:PE X i ty)(hv:PE X value tv)(hs:bo value (aa (.Subscript o i pos')) pos.line X.env=pure ag) : PS X (.Assign [.Subscript o i pos'] value pos) (sDPut td ty tv):=by
 intro pins s σ H D I h;refine wpAny_Assign_Subscript (thn (hv pins s σ H _ I h) fun r s1 ⟨v,t,m,c,d⟩=>thn (f pins s1 σ t _ m d) fun u s2 ⟨x,p,l,b,Q⟩=>thn (hi pins s2 σ p _ l Q) fun z w ⟨y,A,k,R,a,n,ex,g,q⟩=>?_) hs;subst ex;obtain rfl:u=yN a:=b;exact zse e k g R c fun S j=>⟨σ,n,j,q⟩
end
theorem zoh{w:al}(h:ax)(a:aS<h.objs.size):ObjOk P w H (h.push { cls := .type "dict", data := .dict #[] }) h.objs.size (.dK []) :=
 ⟨yav _,beq_eq_false_iff_ne.mpr (Ne.symm (yG a)),[],.nil,ydS h⟩
def tDNewK:TE:=fun _ H Q=>∀p,H p=ab->Q (.ref p) (upd H p (.dK []))
section
theorem ztp:PE X (.Dict [] [] pos) tDNewK:=fun pins s σ H Q I h=>
 wpAny_Dict_empty ⟨.ref s.heap.objs.size,_,I.laid (a:=s.heap.objs.size) (o := .dK []) (t':=s.toks) (fun _ _ q=>yt _ q) (yh _) (zoh s.heap I.big),rfl,h _ (I.hok.fresh (yh _))⟩
end
def znr:List (TE×TE)->St->Hp->(List (V×V)->Hp->Prop)->Prop
 |[],_,H,Q=>Q [] H| (tk,tv)::r,σ,H,Q=>tk σ H fun x H1=>tv σ H1 fun y H2=>znr r σ H2 fun ps h=>Q ((x,y)::ps) h
abbrev VV:List (V×V)->List (af×af)->Prop:=Paired fun p q=>RelV p.1 q.1/\RelV p.2 q.2
def PPs(X:Cx)(p:ay)(keys:List (Option ak))(v:List ak)(t:List (TE×TE)):Prop :=
 ∀(pins:List (ad×av))(s:aj)(σ : St)(H:Hp)(Q:List (V×V)->Hp->Prop),Inv X pins σ H s->znr t σ H Q →
  wpAny (ao X.prog X.w) X.A (evalPairs (pairTrees keys v X.env p)) (fun vs s'=>∃ps H',Inv X pins σ H' s'/\VV ps vs/\Q ps H') X.xe s
theorem zvs:PPs X pos [] [] []:=fun pins s σ H Q I h=>pairTrees_nil_walk ⟨[],H,I,.nil,h⟩
variable{trs:List (TE×TE)}
theorem ztk{k v:ak}{ks:List (Option ak)}{vs:List ak}{tk:TE}(d:PE X k tk)(hv:PE X v tv)(hr:PPs X pos ks vs trs) :
  PPs X pos (aa k::ks) (v::vs) ((tk,tv)::trs):=fun pins s σ H Q I h=>
 pairTrees_cons_walk (thn (d pins s σ H _ I h) fun u s1 ⟨x,l,f,a,c⟩=>thn (hv pins s1 σ l _ f c) fun w s2 ⟨y,j,e,R,b⟩=>
  thn (hr pins s2 σ j _ e b) fun ws S ⟨ps,g,i,r,q⟩=>⟨(x,y)::ps,g,i,.cons ⟨a,R⟩ r,q⟩)
def zef(kvs more:List (Key×V)):List (Key×V):=more.foldl (fun a k=>zfr a k.1 k.2) kvs
theorem KV.merge:∀{more:List (Key×V)}{rs:List (Key×af)}{kvs:List (Key×V)}{vs:List (Key×af)},KV more rs->KV kvs vs->KV (zef kvs more) (merged vs rs):=by
 intro more rs kvs vs r;unfold KV at r;induction r generalizing kvs vs with
 |nil=>intro q;exact q|@cons p q ps qs h t i=>
  intro R;have e:KV (zfr kvs p.1 p.2) (stored vs q.1 q.2):=by
   have:=R.put p.1 h.2;rw[<- h.1];exact this
  exact i e
theorem zfw:∀(more kvs:List (Key×V)),(zef kvs more).length<=kvs.length+more.length
 |[],kvs=>by show kvs.length<=kvs.length+0;omega|p::r,kvs=>by
  have h1:=zfw r (zfr kvs p.1 p.2);have h:=zfa kvs p.1 p.2;show (zef (zfr kvs p.1 p.2) r).length<=_;rw[yD];omega
theorem zjc{P:ap}{w:al}:∀{kvs:List (Key×V)}{ws:List (af×af)},VV (kvs.map fun k=>(kV k.1,k.2)) ws->∃rs,Carries (zaP P w) ws rs/\KV kvs rs
 |[],_,r=>by rw[yba]at r;cases r;exact⟨[],True.intro,.nil⟩|p::kvs,_,r=>by
  rw[yE]at r;cases r with
  |@cons a b as bs h t=>
   obtain⟨rs,c,q⟩:=zjc (P:=P) (w:=w) t;obtain⟨b1,b2⟩:=b;exact⟨(p.1,b2)::rs,⟨zmO h.1,rfl,c⟩,.cons ⟨rfl,h.2⟩ q⟩
def tDisp(t:List (TE×TE)):TE:=fun σ H Q=>∀p,H p=ab->znr t σ (upd H p (.dK [])) fun ps H2=>H2 p=aa (.dK [])/\∃kvs:List (Key×V),ps=kvs.map (fun k=>(kV k.1,k.2))/\kvs.length<=15/\Q (.ref p) (upd H2 p (.dK (zef [] kvs)))
theorem zvH{keys:List (Option ak)}{v:List ak}(h:PPs X pos keys v trs)(b:keys.all (·.isSome)=ac)(hl:keys.length=v.length)(n:keys≠[])(f:keys.length<=15):PE X (.Dict keys v pos) (tDisp trs):=by
 intro pins s σ H Q I q;have hn:=I.hok.fresh (yh s.heap.objs.size);have p:=I.laid (a:=s.heap.objs.size) (o := .dK []) (h':=s.heap.push { cls := .type "dict", data := .dict #[] }) (t':=s.toks) (fun _ _ q=>yt _ q) (yh _) (zoh s.heap I.big);refine wpAny_Dict_walk (knd:=zaP X.prog X.w) b hl n f (thn (h pins _ σ _ _ p (q _ hn)) ?_);rintro ws s2 ⟨ps,t,i,r,e,kvs,ep,L,j⟩;subst ep;obtain⟨rs,c,R⟩:=zjc (P:=X.prog) (w:=X.w) r;obtain⟨z,hd,V,g,D⟩:=dk_of i.hok e;cases g;refine⟨rs,c,D,fun h' d hs=>⟨.ref s.heap.objs.size,_,?_,rfl,j⟩⟩;have k:(zef [] kvs).length<=sizeLine:=by
  have m:=zfw kvs [];rw[List.length_nil]at m;rw[bq];omega
 have l:∃q,h'.get? s.heap.objs.size=aa q:=let ⟨q,_,_,hq,_⟩:=d;⟨q,hq⟩;exact zmW i (by rw[e];exact True.intro) hs l (zuA k hd (R.merge .nil) d)
section
theorem op_isT:OpR X (az .Is) (fun x y H Q=>∃b c,x = .bl b/\y = .bl c/\Q (.bl (b==c)) H):=by
 intro pins s σ H x y v u Q I R r h;obtain⟨b,c,rfl,rfl,q⟩:=h;cases R;cases r;exact is_bool ⟨.bl (b==c),H,I,rfl,q⟩
theorem ztv:OpR X (az .IsNot) (fun x y H Q=>∃b c,x = .bl b/\y = .bl c/\Q (.bl (b != c)) H):=by
 intro pins s σ H x y v u Q I R r h;obtain⟨b,c,rfl,rfl,q⟩:=h;cases R;cases r;exact isnot_bool ⟨.bl (b != c),H,I,rfl,q⟩
end
end L2
namespace PySem
open Sem (wp)
open Builtin
variable{prog:ap}{A:aA}{E:af->aj->Prop}{s:aj}{a b:af}{z i1 i2:ad}{fp1 fp2:List ad}{n1 n2:Nat}{P1 P2:Nat->af->Prop}{S1 S2:Nat->ax->Prop}{Q:af->aj->Prop}
section
variable{w:al}
theorem zhg{h h':ax}{c T:ad}(hs:ya2 c h h')(n:T≠c)(e:aC h T a b):aC h' T a b:=(hs.2 T n).trans e
theorem zii{TI TO:ad}{k:Nat}
  (D1:Draws prog w A i1 fp1 n1 P1 S1) (V:Draws prog w A i2 fp2 n2 P2 S2) (L:aO s.heap z TI TO .none) (hTI:aC s.heap TI (.ref i1) (.ref i2)) (hTO:aC s.heap TO a b)
  (h1:S1 k s.heap) (h2:S2 k s.heap) (k1:k<n1) (k2:k<n2) (N:TO≠z) (nTI:TI≠z) (n1z:i1≠z) (n2z:i2≠z) (n1T:i1≠TO) (n2T:i2≠TO)
  (R:z∉fp1) (f1T:TO∉fp1) (f12:i2∉fp1) (O:z∉fp2) (P:TO∉fp2) (f21:i1∉fp2)
  (hQ:∀x y h' tk,P1 k x->P2 k y->aO h' z TI TO (be s.heap.objs.size)->aC h' TO x y->S1 (k+1) h'->S2 (k+1) h'->aC h' s.heap.objs.size x y->h'.objs.size=s.heap.objs.size+1 →
   (∀c o,c≠z->c≠TO->c≠i1->c≠i2->s.heap.get? c=aa o->h'.get? c=aa o)->Q (.ref s.heap.objs.size) { s with heap:=h',toks:=tk }) :
  wpAny (ao prog w) A (aK.«zip.__next__» ⟨[.ref z],[]⟩) (fun fin s'=>∃v,fin = .done (.ret v)/\Q v s') E s:=by
 show wpAny _ _ (field (.ref z) 2 >>= _) _ _ s;refine ai (aI L rfl (x := .bool ag) rfl ?_);refine ai (aI L rfl (x := .ref TI) rfl ?_);refine ai (aY hTI rfl ?_);refine ai (m:=SmallTypes.ownedTupleIsFree (.ref z)) (ai (aI L rfl (x := .none) rfl (aw ?_)));show wpAny _ _ (if ac=ac then _ else _) _ _ s;rw[if_pos rfl];refine ai (bp ?_);refine ai (aI L rfl (x := .ref TO) rfl ?_);refine ai (bZ L (by simp) fun g1 hz1 f=>?_);have Z:S1 k g1:=D1.frame k _ _ h1 fun c H o e=>(f.2 c fun q=>R (q ▸ H)).trans e;have Y:S2 k g1:=V.frame k _ _ h2 fun c H o e=>(f.2 c fun q=>O (q ▸ H)).trans e;have M:=zhg f N hTO;refine ai ?_;show wpAny _ _ (forIn [(yN i1,0),(yN i2,1)] _ _) _ _ _;rw[ycY];refine ai (ai (cn ?_));refine ai (m:=SmallTypes.nextOf (.ref i1)) (D1.item k { s with heap:=g1 } _ _ k1 Z fun x g2 W px I d=>aw ?_);have t:=zhg d (Ne.symm n1T) M;refine ai (aY t rfl ?_);refine ai (wpAny_updateSeq_pair t fun g3 g l=>?_);refine ai (bP (aw ?_));have g:aC g3 TO x b:=g;have F:S2 k g3:=V.frame k _ _ Y fun c H o e=>(l.2 c fun q=>P (q ▸ H)).trans ((d.2 c fun q=>f21 (q ▸ H)).trans e);show wpAny _ _ (forIn [(yN i2,1)] _ _) _ _ _;rw[ycY];refine ai (ai (cn ?_));refine ai (m:=SmallTypes.nextOf (.ref i2)) (V.item k { s with heap:=g3,toks:=W } _ _ k2 F fun y g4 T py u j=>aw ?_);have r:=zhg j (Ne.symm n2T) g;refine ai (aY r rfl ?_);refine ai (wpAny_updateSeq_pair r fun G h i=>?_);refine ai (bP (aw ?_));have h:aC G TO x y:=h;show wpAny _ _ (forIn [] _ _) _ _ _;rw[List.forIn_nil];refine aw ?_;refine ai (aY h rfl ?_);refine ai (wpAny_newTuple ?_);have K:aO G z TI TO .ellipsis:=(i.2 z (Ne.symm N)).trans ((j.2 z (Ne.symm n2z)).trans ((l.2 z (Ne.symm N)).trans ((d.2 z (Ne.symm n1z)).trans hz1)));have S:G.objs.size=s.heap.objs.size:=by rw[i.1,j.1,l.1,d.1,f.1]
 have hz6:=yt { cls:=yaM "tuple", data:=Data.seq #[x,y] } K;refine ai (m:=SmallTypes.ownedTupleHandOut _ _) ?_;refine ai (m:=setField _ 0 _) (bZ hz6 (by simp) fun g7 hz7 C=>?_);refine bZ hz7 (by simp) fun D hz8 B=>?_;have lt:∀{c:ad}{o:av},s.heap.get? c=aa o->c<G.objs.size:=fun e=>by rw[S];exact yA e
 have nw:G.objs.size≠z:=yaJ (yA K);have fr:∀c o,c≠z->G.get? c=aa o->D.get? c=aa o:=fun c o n e=>(B.2 c n).trans ((C.2 c n).trans (yt _ e));have up:∀c o,c≠z->c≠TO->c≠i2->g2.get? c=aa o->D.get? c=aa o:=fun c o c1 U c3 e=>fr c o c1 ((i.2 c U).trans ((j.2 c c3).trans ((l.2 c U).trans e)));have p:D.get? G.objs.size=aa { cls:=yaM "tuple", data:=Data.seq #[x,y] }:=(B.2 _ nw).trans ((C.2 _ nw).trans (yC _ rfl));have X:D.objs.size=s.heap.objs.size+1:=by
  rw[B.1];show g7.objs.size=_;rw[C.1];show (G.push _).objs.size=_;rw[yap,S]
 have J:aO D z TI TO (be s.heap.objs.size):=by
  rw[<- S];exact hz8
 refine aw ⟨_,rfl,?_⟩;show Q (yN G.objs.size) { s with heap:=D,toks:=T };rw[S]at p ⊢;refine hQ x y D T px py J (fr _ _ N h) (D1.frame _ _ _ I fun c H o e=>up c o (fun q=>R (q ▸ H)) (fun q=>f1T (q ▸ H)) (fun q=>f12 (q ▸ H)) e) (V.frame _ _ _ u fun c H o e=>fr c o (fun q=>O (q ▸ H)) ((i.2 c fun q=>P (q ▸ H)).trans e)) p X fun c o c1 U c3 c4 e=>up c o c1 U c4 ((d.2 c c3).trans ((f.2 c c1).trans e))
theorem zjh{TI TO:ad}
  (D:Draws prog w A i1 fp1 n1 P1 S1) (H:aO s.heap z TI TO .none) (j:aC s.heap TI (.ref i1) (.ref i2)) (B:aC s.heap TO a b)
  (G:S1 n1 s.heap) (N:TO≠z) (n:i1≠z) (k:z∉fp1)
  (C:∀h' e,(∃o,h'.get? e=aa o/\o.cls = .type "StopIteration")->(∀c o,c≠z->c≠TO->c≠i1->c≠i2->s.heap.get? c=aa o->h'.get? c=aa o)->E (.ref e) { s with heap:=h' }) :
  wpAny (ao prog w) A (aK.«zip.__next__» ⟨[.ref z],[]⟩) (fun F r=>∃v,F = .done (.ret v)/\Q v r) E s:=by
 show wpAny _ _ (field (.ref z) 2 >>= _) _ _ s;refine ai (aI H rfl (x := .bool ag) rfl ?_);refine ai (aI H rfl (x := .ref TI) rfl ?_);refine ai (aY j rfl ?_);refine ai (m:=SmallTypes.ownedTupleIsFree (.ref z)) (ai (aI H rfl (x := .none) rfl (aw ?_)));show wpAny _ _ (if ac=ac then _ else _) _ _ s;rw[if_pos rfl];refine ai (bp ?_);refine ai (aI H rfl (x := .ref TO) rfl ?_);refine ai (bZ H (by simp) fun g1 i g=>?_);have S:S1 n1 g1:=D.frame n1 _ _ G fun c y o e=>(g.2 c fun q=>k (q ▸ y)).trans e;refine ai ?_;show wpAny _ _ (forIn [(yN i1,0),(yN i2,1)] _ _) _ _ _;rw[ycY];refine ai (ai (cn ?_));refine ai (m:=SmallTypes.nextOf (.ref i1)) (D.done { s with heap:=g1 } _ _ S fun I e f u=>?_);have h:I.get? z=aa _:=f z _ (Ne.symm n) i;refine bZ h (by simp) fun g3 t d=>?_;obtain⟨O,l,p⟩:=u;have J:e≠z:=fun q=>by
  rw[q,h]at l;cases l;exact absurd (Value.type.inj p) (by decide)
 exact C g3 e ⟨O,(d.2 e J).trans l,p⟩ fun c o c1 M K L q=>(d.2 c c1).trans (f c o K ((g.2 c c1).trans q))
theorem zdW{TI TO:ad}{k:Nat}{Q:Option af->aj->Prop}
  (G:Draws prog w A.in1 i1 fp1 n1 P1 S1) (D:Draws prog w A.in1 i2 fp2 n2 P2 S2) (r:aO s.heap z TI TO .none) (H:aC s.heap TI (.ref i1) (.ref i2)) (h:aC s.heap TO a b)
  (C:S1 k s.heap) (B:S2 k s.heap) (u:k<n1) (K:k<n2) (n:TO≠z) (N:TI≠z) (f:i1≠z) (d:i2≠z) (g:i1≠TO) (e:i2≠TO)
  (m:z∉fp1) (p:TO∉fp1) (q:i2∉fp1) (i:z∉fp2) (j:TO∉fp2) (l:i1∉fp2)
  (v:∀x y h' tk,P1 k x->P2 k y->aO h' z TI TO (be s.heap.objs.size)->aC h' TO x y->S1 (k+1) h'->S2 (k+1) h'->aC h' s.heap.objs.size x y->h'.objs.size=s.heap.objs.size+1 →
   (∀c o,c≠z->c≠TO->c≠i1->c≠i2->s.heap.get? c=aa o->h'.get? c=aa o)->Q (aa (.ref s.heap.objs.size)) { s with heap:=h',toks:=tk }) :
  wpAny (ao prog w) A (bh (.ref z)) Q E s:=by
 have t:s.TypeIs (.ref z) "zip" := ⟨_,r,rfl⟩;exact ai (wpAny_attempt (bN t ycj (bu ycj t F.entry_zip_next
  (zii G D r H h C B u K n N f d g e m p q i j l fun x y h' tk a0 b0 a1 a2 a3 a4 a5 a6 a7=>aw (v x y h' tk a0 b0 a1 a2 a3 a4 a5 a6 a7)) (F.args_zip_next_1 (yN z)))))
theorem zdZ{TI TO:ad}{Q:Option af->aj->Prop}
  (D:Draws prog w A.in1 i1 fp1 n1 P1 S1) (d:aO s.heap z TI TO .none) (H:aC s.heap TI (.ref i1) (.ref i2)) (h:aC s.heap TO a b)
  (l:S1 n1 s.heap) (n:TO≠z) (N:i1≠z) (f:z∉fp1)
  (j:∀h',(∀c o,c≠z->c≠TO->c≠i1->c≠i2->s.heap.get? c=aa o->h'.get? c=aa o)->Q ab { s with heap:=h' }) :
  wpAny (ao prog w) A (bh (.ref z)) Q E s:=by
 have g:s.TypeIs (.ref z) "zip" := ⟨_,d,rfl⟩;exact ai (wpAny_attempt (bN g ycj (bu ycj g F.entry_zip_next
  (zjh D d H h l n N f fun h' e i k=>let ⟨o,ho,hc⟩:=i;ai (wpAny_isInstance ⟨o,ho,hc⟩ isSubtype_stop (aw (j h' k)))) (F.args_zip_next_1 (yN z)))))
end
def zpH(h:ax)(o O:av):ax :=
 ((((h.push o).push O).push { cls := .type "tuple", data := .seq #[.ref h.objs.size,.ref (h.push o).objs.size] }).push { cls := .type "tuple", data := .seq #[.none,.none] }).push
  { cls := .type "zip", data := .fields #[.none,.bool ag,.bool ag,.ref ((h.push o).push O).objs.size,.ref (((h.push o).push O).push { cls := .type "tuple", data := .seq #[.ref h.objs.size,.ref (h.push o).objs.size] }).objs.size] }
abbrev tIt(l:ad):av:={ cls := .type "tuple_iterator", data := .fields #[.ref l,.int 0 0] }
abbrev lIt(l:ad):av:={ cls := .type "list_iterator", data := .fields #[.ref l,.int 0 0] }
theorem zk1(l1 l2:ad)(xs ys:Array af) :
  Meets (aK.«zip.__new__» ⟨[.type "zip", .ref l1,.ref l2],[]⟩) (fun _ R s=>s.heap.IsTuple l1 xs/\s.heap.IsList l2 ys ∧
   R (.ok (.ret (.ref ((((s.heap.push (tIt l1)).push (lIt l2)).push { cls := .type "tuple", data := .seq #[.ref s.heap.objs.size,.ref (s.heap.push (tIt l1)).objs.size] }).push { cls := .type "tuple", data := .seq #[.none,.none] }).objs.size)))
    { s with heap:=zpH s.heap (tIt l1) (lIt l2) }) :=
 .of_wp fun prog w A R s h=>by
  obtain⟨c,g,d,tk,os⟩:=s;obtain⟨hl1,hl2,h⟩:=h;have b:=sub_zip;have a:=hl1;have H:=Heap.IsList.push hl2 (tIt l1)
  wp_walk using bL a,bU H
  exact⟨_,rfl,h⟩
variable{l2:ad}{xs ys:Array af}
theorem zm2{w:al}{l1:ad}(c:s.heap.IsTuple l1 xs)(H:s.heap.IsList l2 ys)
  (h:∀h',aO h' (s.heap.objs.size+4) (s.heap.objs.size+2) (s.heap.objs.size+3) .none->aC h' (s.heap.objs.size+2) (.ref s.heap.objs.size) (.ref (s.heap.objs.size+1))->aC h' (s.heap.objs.size+3) .none .none →
   h'.IsTupleIter s.heap.objs.size l1 0->h'.IsListIter (s.heap.objs.size+1) l2 0->(∀b o,s.heap.get? b=aa o->h'.get? b=aa o)->Q (.ref (s.heap.objs.size+4)) { s with heap:=h' }) :
  wpAny (ao prog w) A (call (.type "zip") [.ref l1,.ref l2]) Q E s:=by
 refine callType_new F.called_zip (by decide) (F.typeCall_zip_2 _ _) (F.newCall_zip_2 _ _) (fun obj=>ydT obj _ _) F.entry_zip_new (zk1 l1 l2 xs ys) ⟨c,H,?_⟩;have Z:(s.heap.push (tIt l1)).objs.size=s.heap.objs.size+1:=yap ..;have z:((s.heap.push (tIt l1)).push (lIt l2)).objs.size=s.heap.objs.size+2:=by rw[yap,Z]
 have z3:(((s.heap.push (tIt l1)).push (lIt l2)).push { cls := .type "tuple", data := .seq #[.ref s.heap.objs.size,.ref (s.heap.push (tIt l1)).objs.size] }).objs.size=s.heap.objs.size+3:=by rw[yap,z]
 have a:((((s.heap.push (tIt l1)).push (lIt l2)).push { cls := .type "tuple", data := .seq #[.ref s.heap.objs.size,.ref (s.heap.push (tIt l1)).objs.size] }).push { cls := .type "tuple", data := .seq #[.none,.none] }).objs.size=s.heap.objs.size+4:=by rw[yap,z3]
 have g:aO (zpH s.heap (tIt l1) (lIt l2)) (s.heap.objs.size+4) (s.heap.objs.size+2) (s.heap.objs.size+3) .none:=by
  rw[<- a,<- z3,<- z];exact yC _ rfl
 have G:aC (zpH s.heap (tIt l1) (lIt l2)) (s.heap.objs.size+3) .none .none:=by
  rw[<- z3];exact yt _ (yC _ rfl)
 have g3:aC (zpH s.heap (tIt l1) (lIt l2)) (s.heap.objs.size+2) (.ref s.heap.objs.size) (.ref (s.heap.objs.size+1)):=by
  rw[<- z,<- Z];exact yt _ (yt _ (yC _ rfl))
 have d:(zpH s.heap (tIt l1) (lIt l2)).get? (s.heap.objs.size+1)=aa (lIt l2):=by
  rw[<- Z];exact yt _ (yt _ (yt _ (yC _ rfl)))
 have g1:(zpH s.heap (tIt l1) (lIt l2)).get? s.heap.objs.size=aa (tIt l1):=yt _ (yt _ (yt _ (yt _ (yC _ rfl))));show _/\_;rw[a];exact⟨⟨_,g,rfl⟩,h _ g g3 G ⟨_,g1,rfl,rfl⟩ ⟨_,d,rfl,rfl⟩ fun b o e=>yt _ (yt _ (yt _ (yt _ (yt _ e))))⟩
theorem zk0(l1 l2:ad)(xs ys:Array af) :
  Meets (aK.«zip.__new__» ⟨[.type "zip", .ref l1,.ref l2],[]⟩) (fun _ R s=>s.heap.IsTuple l1 xs/\s.heap.IsTuple l2 ys ∧
   R (.ok (.ret (.ref ((((s.heap.push (tIt l1)).push (tIt l2)).push { cls := .type "tuple", data := .seq #[.ref s.heap.objs.size,.ref (s.heap.push (tIt l1)).objs.size] }).push { cls := .type "tuple", data := .seq #[.none,.none] }).objs.size)))
    { s with heap:=zpH s.heap (tIt l1) (tIt l2) }) :=
 .of_wp fun prog w A R s h=>by
  obtain⟨c,g,d,tk,os⟩:=s;obtain⟨hl1,hl2,h⟩:=h;have b:=sub_zip;have a:=hl1;have H:=Heap.IsTuple.push hl2 (tIt l1)
  wp_walk using bL a,bL H
  exact⟨_,rfl,h⟩
theorem zm1{w:al}{l1:ad}(c:s.heap.IsTuple l1 xs)(H:s.heap.IsTuple l2 ys)
  (h:∀h',aO h' (s.heap.objs.size+4) (s.heap.objs.size+2) (s.heap.objs.size+3) .none->aC h' (s.heap.objs.size+2) (.ref s.heap.objs.size) (.ref (s.heap.objs.size+1))->aC h' (s.heap.objs.size+3) .none .none →
   h'.IsTupleIter s.heap.objs.size l1 0->h'.IsTupleIter (s.heap.objs.size+1) l2 0->(∀b o,s.heap.get? b=aa o->h'.get? b=aa o)->Q (.ref (s.heap.objs.size+4)) { s with heap:=h' }) :
  wpAny (ao prog w) A (call (.type "zip") [.ref l1,.ref l2]) Q E s:=by
 refine callType_new F.called_zip (by decide) (F.typeCall_zip_2 _ _) (F.newCall_zip_2 _ _) (fun obj=>ydT obj _ _) F.entry_zip_new (zk0 l1 l2 xs ys) ⟨c,H,?_⟩;have Z:(s.heap.push (tIt l1)).objs.size=s.heap.objs.size+1:=yap ..;have z:((s.heap.push (tIt l1)).push (tIt l2)).objs.size=s.heap.objs.size+2:=by rw[yap,Z]
 have z3:(((s.heap.push (tIt l1)).push (tIt l2)).push { cls := .type "tuple", data := .seq #[.ref s.heap.objs.size,.ref (s.heap.push (tIt l1)).objs.size] }).objs.size=s.heap.objs.size+3:=by rw[yap,z]
 have a:((((s.heap.push (tIt l1)).push (tIt l2)).push { cls := .type "tuple", data := .seq #[.ref s.heap.objs.size,.ref (s.heap.push (tIt l1)).objs.size] }).push { cls := .type "tuple", data := .seq #[.none,.none] }).objs.size=s.heap.objs.size+4:=by rw[yap,z3]
 have g:aO (zpH s.heap (tIt l1) (tIt l2)) (s.heap.objs.size+4) (s.heap.objs.size+2) (s.heap.objs.size+3) .none:=by
  rw[<- a,<- z3,<- z];exact yC _ rfl
 have G:aC (zpH s.heap (tIt l1) (tIt l2)) (s.heap.objs.size+3) .none .none:=by
  rw[<- z3];exact yt _ (yC _ rfl)
 have g3:aC (zpH s.heap (tIt l1) (tIt l2)) (s.heap.objs.size+2) (.ref s.heap.objs.size) (.ref (s.heap.objs.size+1)):=by
  rw[<- z,<- Z];exact yt _ (yt _ (yC _ rfl))
 have d:(zpH s.heap (tIt l1) (tIt l2)).get? (s.heap.objs.size+1)=aa (tIt l2):=by
  rw[<- Z];exact yt _ (yt _ (yt _ (yC _ rfl)))
 have g1:(zpH s.heap (tIt l1) (tIt l2)).get? s.heap.objs.size=aa (tIt l1):=yt _ (yt _ (yt _ (yt _ (yC _ rfl))));show _/\_;rw[a];exact⟨⟨_,g,rfl⟩,h _ g g3 G ⟨_,g1,rfl,rfl⟩ ⟨_,d,rfl,rfl⟩ fun b o e=>yt _ (yt _ (yt _ (yt _ (yt _ e))))⟩
end PySem
namespace L2
open PySem PySem.Spec PyProof.Rows
variable{X:Cx}{pins:List (ad×av)}{σ : St}{H:Hp}{s:aj}{h':ax}{t':Nat}{ch:List ad}
theorem Inv.turnN(I:Inv X pins σ H s)(f:∀b∈ch,zfT X pins H b)(k:∀c o,c∉ch->s.heap.get? c=aa o->h'.get? c=aa o):Inv X pins σ H { s with heap:=h',toks:=t' }:=by
 have N:∀c u,H c=aa u->c∉ch:=fun c u e z=>by have:=(f c z).1;rw[e]at this;cases this
 refine I.step (g':=s.gens) (d':=s.drawn) (ch:=ch) (fun c h=>?_) (fun c o _ _ h e _=>k c o h e) (fun c o _ _ h e _=>⟨o.slots,k c o h e⟩)
  (fun _ _ _ _ n=>n) (fun c o h e=>⟨o,k c o h e⟩) (fun _ _ e=>e) (fun _ _ _ e=>e) (fun c ps e=>⟨#[],by rw[e];simp⟩) (fun m hm=>?_) (fun c u e=>?_) I.bare
 ·obtain⟨a0,a1,a2,a3,a4,a5⟩:=f c h;exact⟨a3,a1,a4,a5⟩
 ·obtain⟨o,es,ep,a,r⟩:=hm;exact⟨o,es,ep,k _ o (fun z=>(f _ z).2.1 rfl) a,r⟩
 ·refine(I.hok c u e).stay (fun d v hd q=>?_) (fun _ q=>q) fun _ _ q=>q;rcases hd with z|z
  ·rw[z]at q ⊢;exact k c v (N c u e) q
  ·exact k d v (N d _ z) q
theorem Inv.turnNl{T:ad}{o':HO}(I:Inv X pins σ H s)(f:∀b∈ch,zfT X pins H b)(k:∀c o,c∉ch->s.heap.get? c=aa o->h'.get? c=aa o)(a:s.heap.objs.size<=T)(new:ObjOk X.prog X.w (upd H T o') h' T o'):Inv X pins σ (upd H T o') { s with heap:=h',toks:=t' }:=by
 have J:Inv X pins σ H { s with heap:=h',toks:=t' }:=I.turnN f k;have hn:H T=ab:=I.hok.fresh a;have N:∀c o,s.heap.get? c=aa o->c≠T:=fun c o q=>yG (yQ (yA q) a);refine I.step (g':=s.gens) (d':=s.drawn) (ch:=ch) (fun c h=>?_) (fun c o _ _ h e _=>k c o h e) (fun c o _ _ h e _=>⟨o.slots,k c o h e⟩)
  (fun c o _ q n=>by rw[zax (N c o q)];exact n) (fun c o h e=>⟨o,k c o h e⟩) (fun c xs e=>by rw[zax (zaI e hn)];exact e) (fun c u xs e=>by rw[zax (zaI e hn)];exact e)
  (fun c ps e=>⟨#[],by rw[zax (zaI e hn),e];simp⟩) (fun m hm=>?_) (zfx J.hok hn new) I.bare
 ·obtain⟨a0,a1,a2,a3,a4,a5⟩:=f c h;exact⟨a3,a1,a4,a5⟩
 ·obtain⟨o,es,ep,d,r⟩:=hm;exact⟨o,es,ep,k _ o (fun z=>(f _ z).2.1 rfl) d,r⟩
end L2
namespace PySem
open Sem (wp)
open Builtin
theorem zld(a:Int)(t:Tok)(l:ad)(items:Array af)(n:Nat)(D:Option ad)(sl:Array (Option af)) : Meets (aK.«int.__rmul__» ⟨[.int a t,.ref l],[]⟩) (fun _ R s=>s.heap.get? l=aa ⟨.type "tuple", D,.seq items n,sl⟩/\R (.ok (.ret .notImplemented)) s) :=
 .of_wp fun prog w A R s h=>by
  obtain⟨H,g,d,tk,os⟩:=s;obtain⟨hl,h⟩:=h
  wp_walk
  exact⟨_,rfl,h⟩
theorem zgY:fillsNumberSlot (yaM "tuple") "mul" = pure ag:=PySem.fillsNumberSlot_seq yck.lookup (by first | rfl | decide) F.slot_tuple_rmul.lookup (by first | rfl | decide)
theorem zkA:seqRepeat? (yaM "tuple")=pure (aa (Value.builtin "tuple.__mul__")):=by
 unfold seqRepeat?;have H:seqSlot? (yaM "tuple") (yaa "__mul__")=_:=ydU yck.lookup (by first | rfl | decide);have h:seqSlot? (yaM "tuple") (yaa "__rmul__")=_:=ydU F.slot_tuple_rmul.lookup (by first | rfl | decide);rw[H,h];rfl
theorem zsH(l:ad)(v:af)(t:Tok)(n:Nat)(D:Option ad)(sl:Array (Option af)) : Meets (aK.«tuple.__mul__» ⟨[.ref l,.int 1 t],[]⟩) (fun _ R s=>s.heap.get? l=aa ⟨.type "tuple", D,.seq #[v] n,sl⟩/\R (.ok (.ret (.ref l))) s) :=
 .of_wp fun prog w A R s h=>by
  obtain⟨H,g,d,tk,os⟩:=s;obtain⟨hl,h⟩:=h;unfold aK.«tuple.__mul__»
  wp_walk
  exact⟨_,rfl,h⟩
theorem zgO(v:af):∀(n:Nat)(a:Array af),ycZ (fun x1 x=>x1++x) a (yn n #[v])=a++(yn n v).toArray
 |0,a=>by simp|n+1,a=>by
  rw[ybr,ybs,zgO v n,ybr];apply yb9;simp
theorem zod(v:af)(n:Nat):ycZ (fun x1 x=>x1++x) #[] (yn n #[v])=(yn n v).toArray:=by rw[zgO];simp
theorem zsG(l:ad)(v:af)(x:Int)(t:Tok)(n:Nat)(D:Option ad)(sl:Array (Option af))(i:2<=x)(f:x<=1000) : Meets (aK.«tuple.__mul__» ⟨[.ref l,.int x t],[]⟩) (fun _ R s=>s.heap.get? l=aa ⟨.type "tuple", D,.seq #[v] n,sl⟩∧R (.ok (.ret (.ref s.heap.objs.size))) { s with heap:=s.heap.push { cls := .type "tuple", data := .seq (ycZ (fun x1 X=>x1++X) #[] (yn x.toNat #[v])) } }) :=
 .of_wp fun prog w A R s h=>by
  obtain⟨H,g,d,tk,os⟩:=s;obtain⟨hl,h⟩:=h;have c:(decide (x < -2^63)||decide (x ≥ 2^63))=ag:=by simp;omega
  have b:((#[v]:Array af).isEmpty||x==1)=ag:=by simp;omega
  have a:(decide (x<=0)||(#[v]:Array af).isEmpty)=ag:=by simp;omega
  have E : ¬ (((#[v]:Array af).size:Int)*x>(2^63-1)/8):=by simp;omega
  have e:yc0 (((#[v]:Array af).size:Int)*x)=ag:=by
   unfold yc0;have:(sizeLine:Int)=16777216:=by decide
   rw[this];simp;omega
  unfold aK.«tuple.__mul__»
  wp_walk
  rw[c,if_neg yR];refine ai (m:=ycN _) (ai (aY hl rfl (aw ?_)));show wpAny _ _ (if ((#[v]:Array af).isEmpty||x==1)=ac then _ else _) _ _ _;rw[b,if_neg yR];show wpAny _ _ (if (decide (x<=0)||(#[v]:Array af).isEmpty)=ac then _ else _) _ _ _;rw[a,if_neg yR];show wpAny _ _ (if (((#[v]:Array af).size:Int)*x>(2^63-1)/8) then _ else _) _ _ _;rw[if_neg E];show wpAny _ _ (if yc0 (((#[v]:Array af).size:Int)*x)=ac then _ else _) _ _ _;rw[e,if_neg yR];refine ai (m:=ybI _) (aQ (aw ⟨_,rfl,h⟩) ?_);rw[zod];show (yn x.toNat v).toArray.size<=sizeLine;rw[yM,ybo];have:sizeLine=16777216:=by decide
  omega
end PySem
namespace L2
open PySem PySem.Spec PyProof.Rows
section
variable{X:Cx}
theorem znj{v:V}{u:af}(r:RelV v u):∀n:Nat,Vals (yn n v) (yn n u)
 |0=>.nil|n+1=>.cons r (znj r n)
def tPar3(i j k:Nat)(t:TA):TS:=fun D σ H=>t σ H fun vs H1=>∃u v w,vs=[u,v,w]/\D.nx (((σ.set i (aa u)).set j (aa v)).set k (aa w)) H1
theorem zvp{i j k:Nat}{x y z:ae}{a b c:ak}{T:TA}{g py f pt P:ay} {kt k2 pt2} (Y:X.calm=ac) (A:X.N.Nodup) (hi:X.N[i]?=aa x) (W:X.N[j]?=aa y) (S:X.N[k]?=aa z) (t:i≠j) (n:i≠k) (m:j≠k) (E:X.env.scope.names.lookup x=aa .local) (C:X.env.scope.names.lookup y=aa .local) (B:X.env.scope.names.lookup z=aa .local) (ha:PA X [a,b,c] T) (O:bK [.Tuple [.Name x g,.Name y py,.Name z f] kt pt] (.Tuple [a,b,c] k2 pt2) X.env=pure (aa [x,y,z])) (hs:autoParam (bJ [.Tuple [.Name x g,.Name y py,.Name z f] kt pt] (.Tuple [a,b,c] k2 pt2) P.line X.env=pure ag) AutoP.a3._auto_1) : PS X (.Assign [.Tuple [.Name x g,.Name y py,.Name z f] kt pt] (.Tuple [a,b,c] k2 pt2) P) (tPar3 i j k T):=by
 intro pins s σ H D I h
 rw[exec_Assign_arm]
 refine ai (bx ?_)
 rw[hs]
 refine ai (aw ?_)
 rw[if_neg (by decide)]
 refine ai (Tuple_ (thn (ha _ pins s σ H _ I h) ?_))
 rintro us s1 ⟨vs,G,I1,K,Q⟩
 obtain⟨V,v,w,Z,Q⟩:=Q
 subst Z
 obtain⟨d,U,u,rfl,J,R,r⟩:∃d U u,us=[d,U,u]/\RelV V d/\RelV v U/\RelV w u:=by
  cases K with
  |cons M q0=>
   cases q0 with
   |cons p q=>
    cases q with
    |cons N L=>
     cases L
     exact⟨_,_,_,rfl,M,p,N⟩
 refine aQ ?_ (by show 3<=sizeLine;decide)
 have I2:Inv X pins σ G { s1 with heap:=s1.heap.push { cls := .type "tuple", data := .seq [d,U,u].toArray } }:=I1.kept (t':=s1.toks) fun b o e=>yt _ e
 rw[O]
 refine ai (aw ?_)
 show wpAny (ao X.prog X.w) X.A (do rule "assign.swapped-stores"; let items <- unpackItems (.ref s1.heap.objs.size) 3 ab;bR [fun v=>bd X.env z v,fun v=>bd X.env y v,fun v=>bd X.env x v] items.reverse;pure Flow.next) _ _ _
 refine ai (bp (ai (unpackItems_tuple (items := #[d,U,u]) (I.ok.hd Y) (IsTup.new s1.heap _) fun h' l=>?_)))
 have I3:=I2.kept (h':=h') (t':=s1.toks) fun b o e=>l b o (yG (yA e)) e
 show wpAny _ _ (bR [fun v=>bd X.env z v,fun v=>bd X.env y v,fun v=>bd X.env x v] [u,U,d] >>= fun _=>pure Flow.next) _ _ _
 refine ai (bI (bS (zdB I3 A S (.inl B) r (fun s2 I4=>?_) (.inr B))))
 refine bI (bS (zdB I4 A W (.inl C) R (fun s3 I5=>?_) (.inr C)))
 refine bI (bS (zdB I5 A hi (.inl E) J (fun s4 F=>cd (aw ?_)) (.inr E)))
 rw[ybY _ _ (Ne.symm t),ybY _ _ (Ne.symm n),ybY _ _ (Ne.symm m)]at F
 exact⟨_,G,F,Q⟩
end
end L2
namespace Mth
open PySem PyProof.Rows
theorem ztU(xs:Array Nat)(a n:Nat)(h:a+n<=xs.size):List.filterMap (fun i=>xs[i]?) ((yJ n).map fun k=>a+k)=(xs.toList.drop a).take n:=by
 induction n with
 |zero=>simp|succ n I=>
  rw[List.range_succ,yak,List.filterMap_append,I (by omega),ycR];have H:a+n<xs.size:=by omega
  simp[H]
theorem zmR(u:Option Int)(n:Nat):ybt ab u 1 n=ybt (aa ((0:Nat):Int)) u 1 n:=by
 unfold ybt;simp;rw[show min 0 (n:Int)=0 by omega,Int.max_self]
theorem zmS(l:Option Int)(n:Nat):ybt l ab 1 n=ybt l (aa (n:Int)) 1 n:=by
 unfold ybt;simp;rw[if_neg (by omega),Int.min_self,show max 0 (n:Int)=n by omega]
theorem slice_mid(z:ae)(a b:Nat)(c:a<=b)(H:b<=z.cps.size):(Txt.slice z (aa (a:Int)) (aa (b:Int))).cps.toList=(z.cps.toList.drop a).take (b-a):=by
 unfold Txt.slice;have hl:z.length=z.cps.size:=rfl;rw[hl,StrLaws.strSliceIndices_plain c H,yj,ybb];split
 ·rename_i h;have d:b-a=z.cps.size:=by simpa using h
  have ha:a=0:=by omega
  subst ha;rw[ybM,ybu (by simp;omega)]
 ·exact ztU z.cps a (b-a) (by omega)
theorem slice_lo(z:ae)(b:Nat)(h:b<=z.cps.size):(Txt.slice z ab (aa (b:Int))).cps.toList=z.cps.toList.take b:=by
 have e:Txt.slice z ab (aa (b:Int))=Txt.slice z (aa ((0:Nat):Int)) (aa (b:Int)):=by
  unfold Txt.slice;rw[zmR]
 rw[e,slice_mid z 0 b (yav _) h];simp
theorem slice_hi(z:ae)(a:Nat)(h:a<=z.cps.size):(Txt.slice z (aa (a:Int)) ab).cps.toList=z.cps.toList.drop a:=by
 have e:Txt.slice z (aa (a:Int)) ab=Txt.slice z (aa (a:Int)) (aa (z.cps.size:Int)):=by
  unfold Txt.slice;rw[zmS];rfl
 rw[e,slice_mid z a z.cps.size h (yh _),ybu (by simp)]
end Mth
namespace L2
open PySem PySem.Spec PyProof.Rows
variable{X:Cx}
end L2
namespace PySem
open Sem (wp)
open Builtin
end PySem
namespace L2
open PySem PySem.Spec PyProof.Rows
end L2
namespace MD
open PySem PySem.Spec PyProof.Rows L2
inductive D where
 |non | bl (b:Bool) | int (i:Int) | str (x:ae) | flt (b:UInt64) | byt (b:Array UInt8) | ob (k:Nat) | tup (xs:List D) | lst (xs:List D) | scr (xs:List D)
 |exn (c:ae) (ds:List D)
inductive MO where
 |lst (xs:List D) | dct (kvs:List (L2.Key×D)) | ins (c:ae) (fs:List (ae×D))
 |hid
abbrev Sto:=List MO
abbrev En:=List (Option D)
structure Exc where
 cls:ae
 args:List D
inductive Res(α : Type) where
 |ok (a:α) (m:Sto) | exc (c:Exc) (m:Sto) | bad
def Res.bind{α β : Type}(r:Res α)(k:α -> Sto->Res β):Res β := match r with
 |.ok a m=>k a m|.exc c m=>.exc c m|.bad=>.bad
def Post{α : Type}(r:Res α)(Q:α -> Sto->Prop)(E:Exc->Sto->Prop):Prop:=match r with
 |.ok a m=>Q a m|.exc c m=>E c m|.bad=>False
def TupAt(K:ye)(H:Hp)(a:ad)(xs:List V):Prop :=
 H a=aa (.tup xs)∨∃(o:av)(its:Array af)(n:Nat),K.lookup a=aa o/\o.cls = .type "tuple" /\ o.dict=ab/\o.data = .seq its n/\its.size<=sizeLine/\Vals xs its.toList
variable{K:ye}{H:Hp}{a:ad}{xs:List V}
theorem TupAt.sq(h:TupAt K H a xs):SqT K H a xs:=by
 rcases h with h|⟨o,its,n,f,e,_,d,c,b⟩
 ·exact .inl (.inl h)
 ·exact .inr ⟨o,its,n,f,e,d,c,b⟩
def KL(K:ye)(a:ad)(xs:List V):Prop:=∃(o:av)(its:Array af)(n:Nat),K.lookup a=aa o/\o.cls = .type "list" /\ o.dict=ab/\o.data = .seq its n/\its.size<=sizeLine/\Vals xs its.toList
def LstAt(K:ye)(α : List ad)(H:Hp)(a:ad)(xs:List V):Prop:=(a∉α /\ Rd H a (.lst xs))∨KL K a xs
variable{α : List ad}
theorem LstAt.sq(h:LstAt K α H a xs):SqL K H a xs:=by
 rcases h with h|h
 ·exact .inl h.2
 ·exact .inr h
def ExcO(C:af)(d:Option ad)(e:ad):ax->Prop:=fun h=>∃o vs,h.get? e=aa o/\o.cls=C/\o.dict=d/\o.data = .fields vs
def XdAt(H:Hp)(d:Option ad)(xs:List V):Prop:=(d=ab/\xs=[])∨∃dx x,d=aa dx/\xs=[x]/\H dx=aa (.xd [("row", x)])
mutual
def Rep(K:ye)(α : List ad)(H:Hp):D->V->Prop
 |.non,v=>v = .non|.bl b,v=>v = .bl b|.int i,v=>v = .int i|.str x,v=>v = .str x|.flt x,v=>v = .flt x|.byt x,v=>v = .byt x|.ob k,v=>∃a,α[k]?=aa a/\v = .ref a|.tup ds,v=>∃a xs,v = .ref a/\TupAt K H a xs/\RepL K α H ds xs|.lst ds,v=>∃a xs,v = .ref a/\a∉α /\ Rd H a (.lst xs)/\RepL K α H ds xs|.scr ds,v=>∃a xs,v = .ref a/\LstAt K α H a xs/\RepL K α H ds xs|.exn c ds,v=>∃a C dd xs,v = .ref a/\yca K aD c=aa (aa (.ref C))/\H a=aa (.ext (ExcO (.ref C) dd a))/\XdAt H dd xs/\RepL K α H ds xs
def RepL(K:ye)(α : List ad)(H:Hp):List D->List V->Prop
 |[],vs=>vs=[]|d::ds,vs=>∃v r,vs=v::r/\Rep K α H d v/\RepL K α H ds r
end
def RepKV(K:ye)(α : List ad)(H:Hp):List (L2.Key×D)->List (L2.Key×V)->Prop
 |[],vs=>vs=[]|d::ds,vs=>∃v r,vs=(d.1,v)::r/\Rep K α H d.2 v/\RepKV K α H ds r
def RepF(K:ye)(α : List ad)(H:Hp):List (ae×D)->List (ae×V)->Prop
 |[],vs=>vs=[]|d::ds,vs=>∃v r,vs=(d.1,v)::r/\Rep K α H d.2 v/\RepF K α H ds r
def MoRep(K:ye)(cl:ae->ad)(α : List ad)(H:Hp)(a:ad):MO->Prop
 |.lst ds=>∃xs,H a=aa (.lst xs)/\RepL K α H ds xs|.dct ds=>∃xs,H a=aa (.dK xs)/\RepKV K α H ds xs|.ins c ds=>∃dx xs,H a=aa (.ins (cl c) dx xs)/\RepF K α H ds xs|.hid=>∃o xs,H a=aa (.frz o (.dK xs))
structure Wd(K:ye)(cl:ae->ad)(α : List ad)(m:Sto)(H:Hp):Prop where
 len:α.length=m.length
 nd:α.Nodup
 at':∀(k:Nat)(a:ad)(o:MO),α[k]?=aa a->m[k]?=aa o->MoRep K cl α H a o
structure Ext(α : List ad)(H:Hp)(α':List ad)(H':Hp):Prop where
 pre:∃β,α'=α ++ β /\ ∀b ∈ β,H b=ab
 keep:∀a o,H a=aa o->a∉α -> H' a=aa o
 there:∀a∈α,H' a≠ab
 frzs:∀a o u,H a=aa (.frz o u)->H' a=aa (.frz o u)
variable{cl:ae->ad}{α' α2:List ad}{m m':Sto}{H' H2:Hp}{u:HO}{d:D}{v:V}{ds:List D}{vs:List V}{o:MO}{p:ad}
section
theorem Wd.is(W:Wd K cl α m H)(ha:a∈α):(∃xs,H a=aa (.lst xs))∨(∃xs,H a=aa (.dK xs))∨(∃c dx xs,H a=aa (.ins c dx xs))∨∃o xs,H a=aa (.frz o (.dK xs)):=by
 obtain⟨k,b,rfl⟩:=ycl.mp ha;have hm:k<m.length:=by rw[<- W.len];exact b
 have h:=W.at' k α[k] m[k] (by simp[b]) (by simp[hm]);cases e:m[k] with
 |lst ds=>rw[e]at h;obtain⟨xs,h,_⟩:=h;exact .inl ⟨xs,h⟩
 |dct ds=>rw[e]at h;obtain⟨xs,h,_⟩:=h;exact .inr (.inl ⟨xs,h⟩)
 |ins c ds=>rw[e]at h;obtain⟨dx,xs,h,_⟩:=h;exact .inr (.inr (.inl ⟨_,dx,xs,h⟩))
 |hid=>rw[e]at h;obtain⟨o,xs,h⟩:=h;exact .inr (.inr (.inr ⟨o,xs,h⟩))
theorem Wd.has(W:Wd K cl α m H)(ha:a∈α):H a≠ab:=by
 rcases W.is ha with⟨_,h⟩|⟨_,h⟩|⟨_,_,_,h⟩|⟨_,_,h⟩ <;> rw[h] <;> exact fun z=>nomatch z
theorem Wd.notup(W:Wd K cl α m H)(h:Rd H a (.tup xs)):a∉α := fun ha=>by
 rcases h with h|⟨o,h⟩ <;> rcases W.is ha with⟨_,e⟩|⟨_,e⟩|⟨_,_,_,e⟩|⟨_,_,e⟩ <;> rw[h]at e <;> cases e
theorem Wd.noext(W:Wd K cl α m H){φ : ax->Prop}(h:H a=aa (.ext φ)):a∉α := fun ha=>by
 rcases W.is ha with⟨_,e⟩|⟨_,e⟩|⟨_,_,_,e⟩|⟨_,_,e⟩ <;> rw[h]at e <;> cases e
theorem Wd.noxd(W:Wd K cl α m H){fs:List (ae×V)}(h:H a=aa (.xd fs)):a∉α := fun ha=>by
 rcases W.is ha with⟨_,e⟩|⟨_,e⟩|⟨_,_,_,e⟩|⟨_,_,e⟩ <;> rw[h]at e <;> cases e
theorem Ext.rd(E:Ext α H α' H')(h:Rd H a u)(n:a∉α):Rd H' a u:=by
 rcases h with h|⟨o,h⟩
 ·exact .inl (E.keep a _ h n)
 ·exact .inr ⟨o,E.keep a _ h n⟩
theorem Rd.ne(h:Rd H a u):H a≠ab:=by
 rcases h with h|⟨o,h⟩ <;> rw[h] <;> exact fun z=>nomatch z
theorem Ext.sqt(E:Ext α H α' H')(W:Wd K cl α m H)(h:SqT K H a xs):SqT K H' a xs:=by
 rcases h with h|h
 ·exact .inl (E.rd h (W.notup h))
 ·exact .inr h
structure Kp(α : List ad)(H:Hp)(α':List ad)(H':Hp):Prop where
 pre:∃β,α'=α ++ β
 tup:∀a xs,H a=aa (.tup xs)->H' a=aa (.tup xs)
 lst:∀a xs,a∉α -> Rd H a (.lst xs)->a∉α'/\Rd H' a (.lst xs)
 ext:∀a φ,H a=aa (.ext φ)->H' a=aa (.ext φ)
 xd:∀a fs,H a=aa (.xd fs)->H' a=aa (.xd fs)
theorem Ext.kp(E:Ext α H α' H')(W:Wd K cl α m H):Kp α H α' H':=⟨let ⟨β,e,_⟩:=E.pre;⟨β,e⟩,fun a xs h=>E.keep a _ h (W.notup (.inl h)),fun a xs n h=>⟨fun z=>by
  obtain⟨β,rfl,b⟩:=E.pre;rcases yae.mp z with z|z
  ·exact n z
  ·exact Rd.ne h (b a z),E.rd h n⟩,(fun a φ h=>E.keep a _ h (W.noext h)),(fun a fs h=>E.keep a _ h (W.noxd h))⟩
theorem Kp.xdAt(E:Kp α H α' H'){d:Option ad}(h:XdAt H d xs):XdAt H' d xs:=by
 rcases h with h|⟨dx,x,c,b,a⟩
 ·exact .inl h
 ·exact .inr ⟨dx,x,c,b,E.xd _ _ a⟩
theorem Kp.lstAt(E:Kp α H α' H')(h:LstAt K α H a xs):LstAt K α' H' a xs:=by
 rcases h with h|h
 ·exact .inl (E.lst a xs h.1 h.2)
 ·exact .inr h
mutual
theorem Rep.kp(E:Kp α H α' H'):∀{d:D}{v:V},Rep K α H d v->Rep K α' H' d v
 |.non,_,h=>by simpa [Rep] using h|.bl _,_,h=>by simpa [Rep] using h|.int _,_,h=>by simpa [Rep] using h|.str _,_,h=>by simpa [Rep] using h|.flt _,_,h=>by simpa [Rep] using h|.byt _,_,h=>by simpa [Rep] using h|.ob k,_,h=>by
  rw[Rep]at h ⊢;obtain⟨a,h1,h2⟩:=h;obtain⟨β,rfl⟩:=E.pre;exact⟨a,by rw[yab (yi.mp h1).1];exact h1,h2⟩
 |.tup ds,_,h=>by
  rw[Rep]at h ⊢;obtain⟨a,xs,e,h1,h2⟩:=h;refine⟨a,xs,e,?_,RepL.kp E h2⟩;rcases h1 with h1|h1
  ·exact .inl (E.tup a xs h1)
  ·exact .inr h1
 |.lst ds,_,h=>by
  rw[Rep]at h ⊢;obtain⟨a,xs,e,n,h1,h2⟩:=h;exact⟨a,xs,e,(E.lst a xs n h1).1,(E.lst a xs n h1).2,RepL.kp E h2⟩
 |.scr ds,_,h=>by
  rw[Rep]at h ⊢;obtain⟨a,xs,e,h1,h2⟩:=h;exact⟨a,xs,e,E.lstAt h1,RepL.kp E h2⟩
 |.exn c ds,_,h=>by
  rw[Rep]at h ⊢;obtain⟨a,C,f,xs,e,n,h1,h2,b⟩:=h;exact⟨a,C,f,xs,e,n,E.ext _ _ h1,E.xdAt h2,RepL.kp E b⟩
theorem RepL.kp(E:Kp α H α' H'):∀{ds:List D}{vs:List V},RepL K α H ds vs->RepL K α' H' ds vs
 |[],_,h=>by rw[RepL]at h ⊢;exact h|_::_,_,h=>by
  rw[RepL]at h ⊢;obtain⟨v,r,e,h1,h2⟩:=h;exact⟨v,r,e,Rep.kp E h1,RepL.kp E h2⟩
end
theorem Rep.mono(W:Wd K cl α m H)(E:Ext α H α' H')(h:Rep K α H d v):Rep K α' H' d v:=h.kp (E.kp W)
theorem RepL.mono(W:Wd K cl α m H)(E:Ext α H α' H')(h:RepL K α H ds vs):RepL K α' H' ds vs:=h.kp (E.kp W)
theorem Ext.refl(W:Wd K cl α m H):Ext α H α H:=⟨⟨[],by simp,fun _ h=>nomatch h⟩,fun _ _ h _=>h,fun _ h=>W.has h,fun _ _ _ h=>h⟩
theorem Ext.trans(a:Ext α H α' H')(b:Ext α' H' α2 H2):Ext α H α2 H2:=by
 obtain⟨β,rfl,f⟩:=a.pre;obtain⟨g,rfl,d⟩:=b.pre;refine⟨⟨β ++ g,by simp,fun c h=>?_⟩,fun x o h n=>b.keep x o (a.keep x o h n) fun z=>?_,fun x h=>b.there x (yaj _ h),fun x o u h=>b.frzs x o u (a.frzs x o u h)⟩
 ·rcases yae.mp h with h|h
  ·exact f c h
  ·cases e:H c with
   |none=>rfl|some o=>
    by_cases hm:c∈α
    ·exact absurd (d c h) (a.there c hm)
    ·have:=a.keep c o e hm;rw[d c h]at this;cases this
 ·rcases yae.mp z with z|z
  ·exact n z
  ·rw[f x z]at h;cases h
theorem Ext.of_same(W:Wd K cl α m H)(s:Same H H'):Ext α H α H':=by
 refine⟨⟨[],by simp,fun _ h=>nomatch h⟩,fun a o h _=>s a o h,fun a ha z=>?_,fun a o u h=>s a _ h⟩;cases e:H a with
 |none=>exact W.has ha e|some o=>rw[s a o e]at z;cases z
theorem RepKV.kp(E:Kp α H α' H'):∀{ds:List (L2.Key×D)}{vs:List (L2.Key×V)},RepKV K α H ds vs->RepKV K α' H' ds vs
 |[],_,h=>h|_::_,_,⟨v,r,e,h1,h2⟩=>⟨v,r,e,Rep.kp E h1,RepKV.kp E h2⟩
theorem RepF.kp(E:Kp α H α' H'):∀{ds:List (ae×D)}{vs:List (ae×V)},RepF K α H ds vs->RepF K α' H' ds vs
 |[],_,h=>h|_::_,_,⟨v,r,e,h1,h2⟩=>⟨v,r,e,Rep.kp E h1,RepF.kp E h2⟩
theorem RepKV.mono(W:Wd K cl α m H)(E:Ext α H α' H'){ds:List (L2.Key×D)}{vs:List (L2.Key×V)}(h:RepKV K α H ds vs):RepKV K α' H' ds vs:=h.kp (E.kp W)
theorem RepF.mono(W:Wd K cl α m H)(E:Ext α H α' H'){ds:List (ae×D)}{vs:List (ae×V)}(h:RepF K α H ds vs):RepF K α' H' ds vs:=h.kp (E.kp W)
theorem MoRep.kp(E:Kp α H α' H')(s:∀o,H a=aa o->H' a=aa o):∀{o:MO},MoRep K cl α H a o->MoRep K cl α' H' a o
 |.lst _,⟨xs,h1,h2⟩=>⟨xs,s _ h1,h2.kp E⟩|.dct _,⟨xs,h1,h2⟩=>⟨xs,s _ h1,h2.kp E⟩|.ins _ _,⟨dx,xs,h1,h2⟩=>⟨dx,xs,s _ h1,h2.kp E⟩|.hid,⟨o,xs,h1⟩=>⟨o,xs,s _ h1⟩
theorem MoRep.mono(W:Wd K cl α m H)(E:Ext α H α' H')(s:∀o,H a=aa o->H' a=aa o)(h:MoRep K cl α H a o):MoRep K cl α' H' a o:=h.kp (E.kp W) s
theorem Wd.same(W:Wd K cl α m H)(s:Same H H'):Wd K cl α m H':=⟨W.len,W.nd,fun k a o c b=>(W.at' k a o c b).mono W (Ext.of_same W s) fun o h=>s a o h⟩
theorem Wd.join(W:Wd K cl α m H)(hn:p∉α)(kp:Kp α H (α ++ [p]) (upd H p u))(h:MoRep K cl (α ++ [p]) (upd H p u) p o):Wd K cl (α ++ [p]) (m++[o]) (upd H p u):=by
 refine⟨by rw[yI,yI,W.len];rfl,?_,fun k a o' c d=>?_⟩
 ·rw[ycm];exact⟨W.nd,by simp,fun a ha b i e=>hn (by rw[<- y8.mp i,<- e];exact ha)⟩
 ·by_cases g:k < α.length
  ·rw[yab g]at c;rw[yab (by rw[<- W.len];exact g)]at d;exact(W.at' k a o' c d).kp kp fun o h=>by rw[zax (fun z=>hn (by rw[<- z];exact yai c))];exact h
  ·have f:k=α.length:=by
    have:=(yi.mp c).1;rw[yI]at this;have:[p].length=1:=rfl;omega
   subst f;rw[yan (yh _)]at c;rw[W.len,yan (yh _)]at d;simp at c d;subst c d;exact h
theorem Wd.new(W:Wd K cl α m H)(c:H p=ab)(h:MoRep K cl (α ++ [p]) (upd H p u) p o):Wd K cl (α ++ [p]) (m++[o]) (upd H p u)/\Ext α H (α ++ [p]) (upd H p u):=by
 have s:Same H (upd H p u):=fun b o e=>by rw[zax (zaI e c)];exact e
 have E:Ext α H (α ++ [p]) (upd H p u):=⟨⟨[p],rfl,fun b d=>by rw[y8.mp d];exact c⟩,fun a o h _=>s a o h,(Ext.of_same W s).there,fun a o u h=>s a _ h⟩;exact⟨W.join (fun z=>W.has z c) (E.kp W) h,E⟩
end
theorem ex3{A B C:Type}{P Q R:A->B->C->Prop}{G:Prop}(h:∃a b c,P a b c/\Q a b c/\R a b c)(k:∀a b c,P a b c->Q a b c->R a b c->G):G:=h.elim fun a h=>h.elim fun b h=>h.elim fun c h=>k a b c h.1 h.2.1 h.2.2
abbrev XD:=Exc->List ad->Sto->Hp->Prop
abbrev RD(a : Type) := a -> List ad->Sto->Hp->Prop
variable{τ : Type}
def PQ(K:ye)(cl:ae->ad)(ex:XD)(r:Res τ)(α : List ad)(H:Hp)(R:RD τ):Prop :=
 Post r (fun d m'=>∀α' H',Ext α H α' H'->Wd K cl α' m' H'->R d α' m' H') fun c m'=>∀α' H',Ext α H α' H'->Wd K cl α' m' H'->ex c α' m' H'
structure RepE(K:ye)(α : List ad)(H:Hp)(ρ : En)(σ : L2.St):Prop where
 len:ρ.length=σ.length
 at':∀(i:Nat)(d:D),ρ[i]?=aa (aa d)->∃v,σ[i]?=aa (aa v)/\Rep K α H d v
variable{ex:XD}{i:Nat}{R:RD τ}{Q:VK}
section
variable{ρ ρ':En}{σ σ':L2.St}{υ : Type}
theorem RepE.mono(W:Wd K cl α m H)(E:Ext α H α' H')(h:RepE K α H ρ σ):RepE K α' H' ρ σ := ⟨h.len,fun i d e=>let ⟨v,a,b⟩:=h.at' i d e;⟨v,a,b.mono W E⟩⟩
theorem RepE.set(h:RepE K α H ρ σ)(r:Rep K α H d v):RepE K α H (ρ.set i (aa d)) (σ.set i (aa v)):=by
 refine⟨by rw[yaw,yaw,h.len],fun j e a=>?_⟩;by_cases b:i=j
 ·subst b;have hl:i < ρ.length:=by
   have:=(yi.mp a).1
   rwa [yaw]at this
  rw[ya3 hl]at a;cases a;exact⟨v,ya3 (by rw[<- h.len];exact hl),r⟩
 ·rw[ybl b]at a ⊢;exact h.at' j e a
theorem RepE.more(h:RepE K α H ρ σ)(n:Nat):RepE K α H (ρ ++ yn n ab) (σ ++ yn n ab):=by
 refine⟨by simp[h.len],fun j e a=>?_⟩;by_cases hl:j < ρ.length
 ·rw[yab hl]at a;rw[yab (by rw[<- h.len];exact hl)];exact h.at' j e a
 ·rw[yan (by omega),ycH]at a;split at a <;> cases a
theorem PQ.mono{r:Res τ}{a:RD τ}(E:Ext α H α' H')(h:PQ K cl ex r α H R)(b:∀d α2 m2 H2,Ext α' H' α2 H2->Wd K cl α2 m2 H2->R d α2 m2 H2->a d α2 m2 H2):PQ K cl ex r α' H' a:=by
 cases r with
 |ok d m2=>exact fun α2 H2 e W=>b d α2 m2 H2 e W (h α2 H2 (E.trans e) W)|exc c m2=>exact fun α2 H2 e W=>h α2 H2 (E.trans e) W|bad=>exact h
theorem PQ.bind{r:Res τ}{k : τ -> Sto->Res υ}{R:RD υ}(h:PQ K cl ex (r.bind k) α H R):PQ K cl ex r α H fun d a m1 H1=>PQ K cl ex (k d m1) a H1 R:=by
 cases r with
 |ok d m1=>exact fun a H1 E _=>PQ.mono E h fun _ _ _ _ _ _ q=>q|exc c m1=>exact h|bad=>exact h
theorem PQ.ok{d : τ}(W:Wd K cl α m H)(h:PQ K cl ex (.ok d m) α H R):R d α m H:=h α H (Ext.refl W) W
theorem PQ.okS{d : τ}(W:Wd K cl α m H)(s:Same H H')(h:PQ K cl ex (.ok d m) α H R):R d α m H':=h α H' (Ext.of_same W s) (W.same s)
def tD(K:ye)(cl:ae->ad)(ex:XD)(f:En->Sto->Res D):TE:=fun σ H Q=>∃α ρ m,Wd K cl α m H/\RepE K α H ρ σ /\ PQ K cl ex (f ρ m) α H fun d α' _ H'=>∀v,Rep K α' H' d v->Q v H'
def tDT(K:ye)(cl:ae->ad)(ex:XD)(f:En->Sto->Res Bool):TT:=fun σ H Q=>∃α ρ m,Wd K cl α m H/\RepE K α H ρ σ /\ PQ K cl ex (f ρ m) α H fun d _ _ H'=>Q d H'
def tDA(K:ye)(cl:ae->ad)(ex:XD)(f:En->Sto->Res (List D)):TA:=fun σ H Q=>∃α ρ m,Wd K cl α m H/\RepE K α H ρ σ /\ PQ K cl ex (f ρ m) α H fun d α' _ H'=>∀v,RepL K α' H' d v->Q v H'
theorem tD.use{f:En->Sto->Res D}{k:D->Sto->Res τ}(W:Wd K cl α m H)(hr:RepE K α H ρ σ)(h:PQ K cl ex ((f ρ m).bind k) α H R)(b:∀a m1 H1 d v,Ext α H a H1->Wd K cl a m1 H1->RepE K a H1 ρ σ -> Rep K a H1 d v->PQ K cl ex (k d m1) a H1 R->Q v H1):tD K cl ex f σ H Q :=
 ⟨α,ρ,m,W,hr,PQ.mono (Ext.refl W) h.bind fun d a m1 H1 E w q v r=>b a m1 H1 d v E w (hr.mono W E) r q⟩
theorem tDT.use{f:En->Sto->Res Bool}{k:Bool->Sto->Res τ}{Q:Bool->Hp->Prop}(W:Wd K cl α m H)(hr:RepE K α H ρ σ)(h:PQ K cl ex ((f ρ m).bind k) α H R)(b:∀a m1 H1 d,Ext α H a H1->Wd K cl a m1 H1->RepE K a H1 ρ σ -> PQ K cl ex (k d m1) a H1 R->Q d H1):tDT K cl ex f σ H Q :=
 ⟨α,ρ,m,W,hr,PQ.mono (Ext.refl W) h.bind fun d a m1 H1 E w q=>b a m1 H1 d E w (hr.mono W E) q⟩
theorem tDA.use{f:En->Sto->Res (List D)}{k:List D->Sto->Res τ}{Q:List V->Hp->Prop}(W:Wd K cl α m H)(hr:RepE K α H ρ σ)(h:PQ K cl ex ((f ρ m).bind k) α H R)(b:∀a m1 H1 d v,Ext α H a H1->Wd K cl a m1 H1->RepE K a H1 ρ σ -> RepL K a H1 d v->PQ K cl ex (k d m1) a H1 R->Q v H1):tDA K cl ex f σ H Q :=
 ⟨α,ρ,m,W,hr,PQ.mono (Ext.refl W) h.bind fun d a m1 H1 E w q v r=>b a m1 H1 d v E w (hr.mono W E) r q⟩
end
section
variable(X:Cx)(cl:ae->ad)(ex:XD)
abbrev EV:=En->Sto->Res D
abbrev TV:=En->Sto->Res Bool
abbrev AV:=En->Sto->Res (List D)
structure QE(e:ak)(f:EV):Prop where
 out:PE X e (tD X.K cl ex f)
structure QT(e:ak)(f:TV):Prop where
 out:PT X e (tDT X.K cl ex f)
structure QW(e:ak)(f:TV):Prop where
 out:PW X e (tDT X.K cl ex f)
structure QA(es:List ak)(f:AV):Prop where
 out:PA X es (tDA X.K cl ex f)
end
variable{X:Cx}{t:TE}
theorem PE.weak{e:ak}{t':TE}(h:PE X e t)(w:∀σ H Q,t' σ H Q->t σ H Q):PE X e t':=fun pins s σ H Q I q=>h pins s σ H Q I (w σ H Q q)
variable{t':TT}
theorem PT.weak{e:ak}{t:TT}(h:PT X e t)(w:∀σ H Q,t' σ H Q->t σ H Q):PT X e t':=fun pins s σ H Q I q=>h pins s σ H Q I (w σ H Q q)
theorem PW.weak{e:ak}{t:TT}(h:PW X e t)(w:∀σ H Q,t' σ H Q->t σ H Q):PW X e t':=fun W pins s σ H Q I q=>h W pins s σ H Q I (w σ H Q q)
theorem PA.weak{e:List ak}{t t':TA}(h:PA X e t)(w:∀σ H Q,t' σ H Q->t σ H Q):PA X e t':=fun p pins s σ H Q I q=>h p pins s σ H Q I (w σ H Q q)
theorem PS.weak{e:am}{t t':TS}(h:PS X e t)(w:∀D σ H,t' D σ H->t D σ H):PS X e t':=fun pins s σ H D I q=>h pins s σ H D I (w D σ H q)
theorem PSs.weak{e:List am}{t t':TS}(h:PSs X e t)(w:∀D σ H,t' D σ H->t D σ H):PSs X e t':=fun pins s σ H D I q=>h pins s σ H D I (w D σ H q)
def zad(i:Nat):EV:=fun ρ m=>match ρ[i]? with
 |some (aa d)=>.ok d m|_=>.bad
def eC(d:D):EV:=fun _ m=>.ok d m
def eOp(g:D->D->Sto->Res D)(F f:EV):EV:=fun ρ m=>(F ρ m).bind fun x m1=>(f ρ m1).bind fun y m2=>g x y m2
def eUn(g:D->Sto->Res D)(f:EV):EV:=fun ρ m=>(f ρ m).bind g
def eIf(c:TV)(F f:EV):EV:=fun ρ m=>(c ρ m).bind fun b m1=>if b=ac then F ρ m1 else f ρ m1
def zaj:AV:=fun _ m=>.ok [] m
def zac(f:EV)(fr:AV):AV:=fun ρ m=>(f ρ m).bind fun x m1=>(fr ρ m1).bind fun xs m2=>.ok (x::xs) m2
def eFn(g:List D->Sto->Res D)(f:AV):EV:=fun ρ m=>(f ρ m).bind g
def asB(d:D)(m:Sto):Res Bool:=match d with
 |.bl b=>.ok b m|_=>.bad
def tV(f:EV):TV:=fun ρ m=>(f ρ m).bind asB
def zfY(a b:TV):TV:=fun ρ m=>(a ρ m).bind fun c m1=>if c=ac then b ρ m1 else .ok ag m1
def tOrM(a b:TV):TV:=fun ρ m=>(a ρ m).bind fun c m1=>if c=ac then .ok ac m1 else b ρ m1
def zfm(a:TV):TV:=fun ρ m=>(a ρ m).bind fun c m1=>.ok (!c) m1
def zr7(a b:EV):EV:=fun ρ m=>(a ρ m).bind fun c m1=>(asB c m1).bind fun c m1=>if c=ac then b ρ m1 else .ok (.bl ag) m1
def eOr(a b:EV):EV:=fun ρ m=>(a ρ m).bind fun c m1=>(asB c m1).bind fun c m1=>if c=ac then .ok (.bl ac) m1 else b ρ m1
def eNot(a:EV):EV:=fun ρ m=>(a ρ m).bind fun c m1=>(asB c m1).bind fun c m1=>.ok (.bl (!c)) m1
def OpD(K:ye)(cl:ae->ad)(ex:XD)(r:R2)(g:D->D->Sto->Res D):Prop :=
 ∀(α : List ad)(m:Sto)(H:Hp)(x y:D)(vx vy:V)(Q:VK),Wd K cl α m H->Rep K α H x vx->Rep K α H y vy->PQ K cl ex (g x y m) α H (fun d α' _ H'=>∀v,Rep K α' H' d v->Q v H')->r vx vy H Q
def UnD(K:ye)(cl:ae->ad)(ex:XD)(r:V->Hp->VK->Prop)(g:D->Sto->Res D):Prop :=
 ∀(α : List ad)(m:Sto)(H:Hp)(x:D)(vx:V)(Q:VK),Wd K cl α m H->Rep K α H x vx->PQ K cl ex (g x m) α H (fun d α' _ H'=>∀v,Rep K α' H' d v->Q v H')->r vx H Q
def FnD(K:ye)(cl:ae->ad)(ex:XD)(r:List V->Hp->VK->Prop)(g:List D->Sto->Res D):Prop :=
 ∀(α : List ad)(m:Sto)(H:Hp)(x:List D)(vx:List V)(Q:VK),Wd K cl α m H->RepL K α H x vx->PQ K cl ex (g x m) α H (fun d α' _ H'=>∀v,Rep K α' H' d v->Q v H')->r vx H Q
variable{r:List V->Hp->VK->Prop}{b c:ak}{es:List ak}{fa fb:EV}{ta tb:TV}{pos:ay}{x:ae}{g:D->D->Sto->Res D}{op:CmpOp}{r':R2}{g':D->D->Sto->Res D}{fc:EV}{op':CmpOp}
section
variable{a e:ak}{rest:List ak}{fr:AV}
theorem zab(i:Nat)(c:autoParam (X.N[i]?=aa x) AutoP.a3._auto_1)(hv:Vis X.env.scope x:=by first | exact ybc rfl | exact Or.inr (ybc rfl) | exact Or.inr (Or.inr rfl))(hd:autoParam ((x==("__debug__" : ae))=ag) AutoP.a1._auto_1)(a:autoParam ((x==("__classdict__" : ae))=ag) AutoP.a1._auto_1):QE X cl ex (.Name x pos) (zad i) :=
 ⟨PE.weak (pe_var c hv hd a) fun σ H Q b=>ex3 b fun α ρ m W hr h=>by
  unfold zad at h;split at h
  ·rename_i d e;obtain⟨v,E,r⟩:=hr.at' i d e;exact⟨v,E,PQ.ok W h v r⟩
  ·exact h.elim⟩
theorem qe_c(h:PE X e (tC v))(r:∀α H,Rep X.K α H d v):QE X cl ex e (eC d) :=
 ⟨PE.weak h fun σ H Q a=>ex3 a fun α ρ m W hr h=>PQ.ok W h v (r α H)⟩
theorem zae{i:Int} {j}:QE X cl ex (.Constant (.int i) j pos) (eC (.int i)):=qe_c pe_int fun α H=>by rw[Rep]
theorem zgV{i:Bool} {j}:QE X cl ex (.Constant (.bool i) j pos) (eC (.bl i)):=qe_c pe_bl fun α H=>by rw[Rep]
theorem za1 {j}:QE X cl ex (.Constant .none j pos) (eC .non):=qe_c pe_non fun α H=>by rw[Rep]
theorem zat{i:ae} {j}:QE X cl ex (.Constant (.str i) j pos) (eC (.str i)):=qe_c zui fun α H=>by rw[Rep]
theorem zns{r:R2}(hd:OpD X.K cl ex r g):∀σ H Q,tD X.K cl ex (eOp g fa fb) σ H Q->tOp r (tD X.K cl ex fa) (tD X.K cl ex fb) σ H Q:=fun σ H Q e=>ex3 e fun α ρ m W hr h=>
 tD.use W hr h fun b m1 l d v n w hr1 c i=>tD.use w hr1 i fun a m2 k D V E j hr2 R f=>hd a m2 k d D v V Q j (c.mono w E) R f
theorem zal{o:Operator}{r:R2}(h:OpR X (aE o) r)(hd:OpD X.K cl ex r g)(ha:QE X cl ex a fa)(H:QE X cl ex b fb):QE X cl ex (.BinOp a o b pos) (eOp g fa fb) :=
 ⟨PE.weak (pe_op h ha.out H.out) (zns hd)⟩
theorem zte{o:UnaryOp}{r:V->Hp->VK->Prop}{g:D->Sto->Res D}(c:UnR X (unaryOp o) r)(hd:UnD X.K cl ex r g)(ha:QE X cl ex a fa):QE X cl ex (.UnaryOp o a pos) (eUn g fa) :=
 ⟨PE.weak (pe_un c ha.out) fun σ H Q e=>ex3 e fun α ρ m W hr h=>tD.use W hr h fun b m1 i d v E w hr1 R f=>hd b m1 i d v Q w R f⟩
theorem qe_ix{r:R2}(h:IxR X r)(hd:OpD X.K cl ex r g)(ha:QE X cl ex a fa)(H:QE X cl ex b fb)(hs:znd b):QE X cl ex (.Subscript a b pos) (eOp g fa fb) :=
 ⟨PE.weak (pe_ix h ha.out H.out hs) (zns hd)⟩
theorem zcu{r:R2}(h:OpR X (az op) r)(hd:OpD X.K cl ex r g)(ha:QE X cl ex a fa)(H:QE X cl ex b fb)(hm:bM op b=ag):QE X cl ex (.Compare a [op] [b] pos) (eOp g fa fb) :=
 ⟨PE.weak (zvI h ha.out H.out hm) (zns hd)⟩
theorem zjl(h:∀σ H Q,tD X.K cl ex fa σ H Q->t σ H Q):∀σ H Q,tDT X.K cl ex (tV fa) σ H Q->zuN t σ H Q:=fun σ H Q e=>ex3 e fun α ρ m W hr q=>
 h σ H _ (tD.use W hr q fun c m1 f d v E w hr1 r a=>by
  cases d with
  |bl b=>rw[Rep]at r;exact⟨b,r,PQ.ok w a⟩|_=>exact a.elim)
theorem zav{r:R2}(h:OpR X (az op) r)(hd:OpD X.K cl ex r g)(ha:QE X cl ex a fa)(H:QE X cl ex b fb)(hm:bM op b=ag):QT X cl ex (.Compare a [op] [b] pos) (tV (eOp g fa fb)) :=
 ⟨PT.weak (zvm h ha.out H.out hm) (zjl (zns hd))⟩
theorem zbJ(H:QE X cl ex e fa)(a:autoParam (∀whole,isTrue e X.env whole=(do let v <- whole;bf e.pos;holding [v] (truthy v))) AutoP.a2._auto_1):QT X cl ex e (tV fa) :=
 ⟨PT.weak (pt_val H.out a) (zjl fun _ _ _ h=>h)⟩
def zfO(g g':D->D->Sto->Res D)(b F f:EV):EV:=fun ρ m=>(b ρ m).bind fun x m1=>(F ρ m1).bind fun y m2=>(g x y m2).bind fun z M=>(asB z M).bind fun k M=>if k=ac then (f ρ M).bind fun w a=>g' y w a else .ok (.bl ag) M
theorem OpD.go{r:R2}(hd:OpD K cl ex r g){x y:D}{c b:V}{k:D->Sto->Res τ}(W:Wd K cl α m H)(f:Rep K α H x c)(e:Rep K α H y b)(h:PQ K cl ex ((g x y m).bind k) α H R)(j:∀a m1 H1 d v,Ext α H a H1->Wd K cl a m1 H1->Rep K a H1 d v->PQ K cl ex (k d m1) a H1 R->Q v H1):r c b H Q :=
 hd α m H x y c b Q W f e (PQ.mono (Ext.refl W) h.bind fun d a m1 H1 E w q v i=>j a m1 H1 d v E w i q)
theorem zkp{r:R2}(hd:OpD X.K cl ex r g)(e:OpD X.K cl ex r' g'):∀σ H Q,tD X.K cl ex (zfO g g' fa fb fc) σ H Q->zpM r r' (tD X.K cl ex fa) (tD X.K cl ex fb) (tD X.K cl ex fc) σ H Q:=fun σ H Q s=>ex3 s fun α ρ m W hr h=>
 tD.use W hr h fun o m1 L d v N j hr1 q x=>tD.use j hr1 x fun n m2 K z p F i hr2 a u=>hd.go i (q.mono j F) a u fun l I J y G E w R f=>by
  cases y with
  |bl k=>
   rw[Rep]at R;refine⟨k,R,?_⟩;cases k with
   |true=>exact tD.use w (hr2.mono i E) f fun b M B D V C A hr4 c t=>e b M B z D p V Q A ((a.mono i E).mono w C) c t|false=>exact PQ.ok w f _ (by rw[Rep])
  |_=>exact f.elim
theorem znG{r:R2}(d:OpR X (az op) r)(hd:OpD X.K cl ex r g)(h:OpR X (az op') r')(H:OpD X.K cl ex r' g')(ha:QE X cl ex a fa)(f:QE X cl ex b fb)(e:QE X cl ex c fc)(hm:autoParam (lastMarks [op,op'] [b,c]=ag) AutoP.a4._auto_1):QE X cl ex (.Compare a [op,op'] [b,c] pos) (zfO g g' fa fb fc) :=
 ⟨PE.weak (zts d h ha.out f.out e.out hm) (zkp hd H)⟩
theorem ztd{r:R2}(d:OpR X (az op) r)(hd:OpD X.K cl ex r g)(h:OpR X (az op') r')(H:OpD X.K cl ex r' g')(ha:QE X cl ex a fa)(f:QE X cl ex b fb)(e:QE X cl ex c fc)(hm:autoParam (lastMarks [op,op'] [b,c]=ag) AutoP.a4._auto_1):QT X cl ex (.Compare a [op,op'] [b,c] pos) (tV (zfO g g' fa fb fc)) :=
 ⟨PT.weak (ztg d h ha.out f.out e.out hm) (zjl (zkp hd H))⟩
theorem zeb(ha:QT X cl ex a ta):QW X cl ex (.BoolOp .And [a] pos) ta:=⟨zvj ha.out⟩
theorem zue(ha:QT X cl ex a ta):QW X cl ex (.BoolOp .Or [a] pos) ta:=⟨pw_or1 ha.out⟩
theorem zgz(ha:QT X cl ex a ta)(g:QW X cl ex (.BoolOp .And (b::rest) pos) tb):QW X cl ex (.BoolOp .And (a::b::rest) pos) (zfY ta tb) :=
 ⟨PW.weak (pw_and ha.out g.out) fun σ H Q f=>ex3 f fun α ρ m W hr h=>tDT.use W hr h fun c m1 i d E w hr1 e=>by
  cases d with
  |true=>exact⟨c,ρ,m1,w,hr1,e⟩|false=>exact PQ.ok w e⟩
theorem qw_or(ha:QT X cl ex a ta)(g:QW X cl ex (.BoolOp .Or (b::rest) pos) tb):QW X cl ex (.BoolOp .Or (a::b::rest) pos) (tOrM ta tb) :=
 ⟨PW.weak (pw_or ha.out g.out) fun σ H Q f=>ex3 f fun α ρ m W hr h=>tDT.use W hr h fun c m1 i d E w hr1 e=>by
  cases d with
  |false=>exact⟨c,ρ,m1,w,hr1,e⟩|true=>exact PQ.ok w e⟩
theorem zdg(h:QW X cl ex a ta):QT X cl ex a ta:=⟨PW.pt h.out⟩
theorem zeG(ha:QT X cl ex a ta):QT X cl ex (.UnaryOp .Not a pos) (zfm ta) :=
 ⟨PT.weak (pt_not ha.out) fun σ H Q c=>ex3 c fun α ρ m W hr h=>tDT.use W hr h fun b m1 f d E w hr1 e=>PQ.ok w e⟩
theorem zed {op} (ha:QE X cl ex a fa):QE X cl ex (.BoolOp op [a] pos) fa:=⟨pe_one ha.out⟩
theorem asB.use{k:Bool->Sto->Res τ}(W:Wd X.K cl α m H)(r:Rep X.K α H d v)(h:PQ X.K cl ex ((asB d m).bind k) α H R):∃b,v = .bl b/\PQ X.K cl ex (k b m) α H R:=by
 cases d with
 |bl b=>rw[Rep]at r;exact⟨b,r,h⟩|_=>exact h.elim
theorem zfq(ha:QE X cl ex a fa)(j:QE X cl ex (.BoolOp .And (b::rest) pos) fb):QE X cl ex (.BoolOp .And (a::b::rest) pos) (zr7 fa fb) :=
 ⟨PE.weak (pe_and ha.out j.out) fun σ H Q i=>ex3 i fun α ρ m W hr h=>tD.use W hr h fun f m1 l d v E w hr1 r k=>by
  obtain⟨c,e,g⟩:=asB.use w r k;refine⟨c,e,?_⟩;cases c with
  |true=>exact⟨f,ρ,m1,w,hr1,g⟩|false=>exact PQ.ok w g _ (by rw[Rep])⟩
theorem zvg(ha:QE X cl ex a fa)(j:QE X cl ex (.BoolOp .Or (b::rest) pos) fb):QE X cl ex (.BoolOp .Or (a::b::rest) pos) (eOr fa fb) :=
 ⟨PE.weak (pe_or ha.out j.out) fun σ H Q i=>ex3 i fun α ρ m W hr h=>tD.use W hr h fun f m1 l d v E w hr1 r k=>by
  obtain⟨c,e,g⟩:=asB.use w r k;refine⟨c,e,?_⟩;cases c with
  |false=>exact⟨f,ρ,m1,w,hr1,g⟩|true=>exact PQ.ok w g _ (by rw[Rep])⟩
theorem qe_not(ha:QE X cl ex a fa):QE X cl ex (.UnaryOp .Not a pos) (eNot fa) :=
 ⟨PE.weak (pe_not ha.out) fun σ H Q f=>ex3 f fun α ρ m W hr h=>tD.use W hr h fun b m1 j d v E w hr1 r i=>by
  obtain⟨c,e,g⟩:=asB.use w r i;exact⟨c,e,PQ.ok w g _ (by rw[Rep])⟩⟩
theorem zkH(i:QT X cl ex c ta)(ha:QE X cl ex a fa)(j:QE X cl ex b fb):QE X cl ex (.IfExp c a b pos) (eIf ta fa fb) :=
 ⟨PE.weak (zto i.out ha.out j.out) fun σ H Q g=>ex3 g fun α ρ m W hr h=>tDT.use W hr h fun e m1 k d E w hr1 f=>by
  cases d with
  |true=>exact⟨e,ρ,m1,w,hr1,f⟩|false=>exact⟨e,ρ,m1,w,hr1,f⟩⟩
theorem zaf:QA X cl ex [] zaj:=⟨PA.weak zgA fun σ H Q a=>ex3 a fun α ρ m W hr h=>PQ.ok W h _ (by rw[RepL])⟩
theorem zaa(ha:QE X cl ex e fa)(a:QA X cl ex es fr)(hs:autoParam (au (e::es) X.env=(ag,eval e X.env)::au es X.env) AutoP.a3._auto_1):QA X cl ex (e::es) (zac fa fr) :=
 ⟨PA.weak (zcT ha.out a.out hs) fun σ H Q f=>ex3 f fun α ρ m W hr h=>tD.use W hr h fun c m1 l d v n w hr1 R i=>tDA.use w hr1 i fun b m2 k D V E j hr2 r g=>PQ.ok j g _ (by rw[RepL];exact⟨v,V,rfl,R.mono w E,r⟩)⟩
theorem RepL.length{K:ye}{α : List ad}{H:Hp}:∀{ds:List D}{vs:List V},RepL K α H ds vs->ds.length=vs.length
 |[],_,h=>by rw[RepL]at h;rw[h];rfl|_::_,_,h=>by
  rw[RepL]at h;obtain⟨v,r,rfl,_,h2⟩:=h;rw[yD,yD,RepL.length h2]
def zbr:List D->Sto->Res D:=fun ds m=>if ds.length<=sizeLine then .ok (.tup ds) m else .bad
def zcZ:List D->Sto->Res D:=fun ds m=>if ds.length<=sizeLine then .ok (.lst ds) m else .bad
def zfE:List D->Sto->Res D:=fun ds m=>if ds.length<=sizeLine then .ok (.ob m.length) (m++[.lst ds]) else .bad
theorem PQ.if{c:Prop}[Decidable c]{r:Res τ}(h:PQ K cl ex (if c then r else .bad) α H R):c/\PQ K cl ex r α H R:=by
 by_cases a:c
 ·rw[if_pos a]at h;exact⟨a,h⟩
 ·rw[if_neg a]at h;exact h.elim
theorem Same.new{o:HO}(h:H p=ab):Same H (upd H p o):=fun b u e=>by rw[zax (zaI e h)];exact e
theorem zaF {x1} (b:QA X cl ex es fr):QE X cl ex (.Tuple es x1 pos) (eFn zbr fr) :=
 ⟨PE.weak (pe_tup b.out) fun σ H Q e=>ex3 e fun α ρ m W hr h=>tDA.use W hr h fun a m1 i d v E w hr1 r g=>by
  obtain⟨hl,f⟩:=g.if;refine⟨by rw[<- r.length];exact hl,fun p c=>?_⟩;have s:=Same.new (o := .tup v) c;exact PQ.okS w s f _ (by rw[Rep];exact⟨p,v,rfl,.inl zaD,r.mono w (Ext.of_same w s)⟩)⟩
theorem Wd.nin(W:Wd K cl α m H)(h:H p=ab):p∉α := fun z=>W.has z h
theorem zcj(W:Wd K cl α m H)(h:H p=ab)(r:RepL K α H ds vs):Rep K α (upd H p (.lst vs)) (.lst ds) (.ref p):=by
 rw[Rep];exact⟨p,vs,rfl,W.nin h,.inl zaD,r.mono W (Ext.of_same W (Same.new h))⟩
theorem zbn(c:QA X cl ex es fr):QE X cl ex (.List es pos) (eFn zcZ fr) :=
 ⟨PE.weak (zuj c.out) fun σ H Q e=>ex3 e fun α ρ m W hr h=>tDA.use W hr h fun b m1 i d v E w hr1 r g=>by
  obtain⟨hl,f⟩:=g.if;exact⟨by rw[<- r.length];exact hl,fun p a=>PQ.okS w (Same.new a) f _ (zcj w a r)⟩⟩
theorem zvY{R:RD D}(W:Wd K cl α m H)(c:H p=ab)(r:RepL K α H ds vs)(h:PQ K cl ex (.ok (.ob m.length) (m++[.lst ds])) α H R):∃α' m',R (.ob m.length) α' m' (upd H p (.lst vs))/\Rep K α' (upd H p (.lst vs)) (.ob m.length) (.ref p):=by
 have E0:Ext α H (α ++ [p]) (upd H p (.lst vs)):=⟨⟨[p],rfl,fun b d=>by rw[y8.mp d];exact c⟩,fun a o h _=>Same.new c a o h,(Ext.of_same W (Same.new c)).there,fun a o u h=>Same.new c a _ h⟩;obtain⟨w,E⟩:=W.new (u := .lst vs) (o := .lst ds) c ⟨vs,zaD,r.mono W E0⟩;refine⟨_,_,h _ _ E w,?_⟩;rw[Rep];refine⟨p,?_,rfl⟩;rw[<- W.len,yan (yh _)];simp
theorem zdh(b:QA X cl ex es fr):QE X cl ex (.List es pos) (eFn zfE fr) :=
 ⟨PE.weak (zuj b.out) fun σ H Q e=>ex3 e fun α ρ m W hr h=>tDA.use W hr h fun a m1 i d v E w hr1 R g=>by
  obtain⟨hl,f⟩:=g.if;refine⟨by rw[<- R.length];exact hl,fun p c=>?_⟩;obtain⟨_,_,q,r⟩:=zvY w c R f;exact q _ r⟩
theorem zt9{g:List D->Sto->Res D}(hd:FnD X.K cl ex r g):∀σ H Q,tD X.K cl ex (eFn g fr) σ H Q->tCB r (tDA X.K cl ex fr) σ H Q:=fun σ H Q b=>ex3 b fun α ρ m W hr h=>
 tDA.use W hr h fun a m1 e d v E w hr1 R c=>hd a m1 e d v Q w R c
theorem zaz{id:String}{p:ay}{g:List D->Sto->Res D}(c:CallR X (.builtin id) r)(hd:FnD X.K cl ex r g)(a:Gl X x)(hm:X.mg x=ab)(hv:aZ x=aa (.builtin id))(ha:QA X cl ex (e::es) fr)(hn:autoParam (x ≠ "__name__") AutoP.a1._auto_1)(H:autoParam ((x==("__debug__" : ae))=ag) AutoP.a1._auto_1)(b:autoParam (au (e::es) X.env=(ag,eval e X.env)::au es X.env) AutoP.a3._auto_1)(h:autoParam ((aB pos (au es X.env)).any (·.1)=ag) AutoP.a3._auto_1):QE X cl ex (.Call (.Name x p) (e::es) [] pos) (eFn g fr) :=
 ⟨PE.weak (znK c a hm hv ha.out hn H b h) (zt9 hd)⟩
theorem za7{T:String}{p:ay}{g:List D->Sto->Res D}(c:CallR X (.type T) r)(hd:FnD X.K cl ex r g)(a:Gl X x)(hm:X.mg x=ab)(hv:aZ x=aa (.type T))(ha:QA X cl ex (e::es) fr)(hn:autoParam (x ≠ "__name__") AutoP.a1._auto_1)(H:autoParam ((x==("__debug__" : ae))=ag) AutoP.a1._auto_1)(b:autoParam (au (e::es) X.env=(ag,eval e X.env)::au es X.env) AutoP.a3._auto_1)(h:autoParam ((aB pos (au es X.env)).any (·.1)=ag) AutoP.a3._auto_1):QE X cl ex (.Call (.Name x p) (e::es) [] pos) (eFn g fr) :=
 ⟨PE.weak (zkJ c a hm hv ha.out hn H b h) (zt9 hd)⟩
end
inductive Fl where
 |nx (ρ : En) | rt (d:D) | bk (ρ : En) | ct (ρ : En)
abbrev SV:=En->Sto->Res Fl
def zjg(K:ye)(D:Ends)(f:Fl)(α : List ad)(H:Hp):Prop:=match f with
 |.nx ρ=> ∀σ,RepE K α H ρ σ -> D.nx σ H|.rt d=>∀v,Rep K α H d v->D.rt v H|.bk ρ=> ∀σ,RepE K α H ρ σ -> D.bk σ H|.ct ρ=> ∀σ,RepE K α H ρ σ -> D.ct σ H
def tDS(K:ye)(cl:ae->ad)(ex:XD)(f:SV):TS:=fun D σ H=>∃α ρ m,Wd K cl α m H/\RepE K α H ρ σ /\ PQ K cl ex (f ρ m) α H fun F α' _ H'=>zjg K D F α' H'
abbrev GV:=D->En->Sto->Res En
def tDG(K:ye)(cl:ae->ad)(ex:XD)(f:GV):TG:=fun v σ H Q=>∃α ρ m d,Wd K cl α m H/\RepE K α H ρ σ /\ Rep K α H d v/\PQ K cl ex (f d ρ m) α H fun ρ' α' _ H'=>∀σ',RepE K α' H' ρ' σ'->Q σ' H'
def tDGs(K:ye)(cl:ae->ad)(ex:XD)(f:List D->En->Sto->Res En):TGs:=fun v σ H Q=>∃α ρ m d,Wd K cl α m H/\RepE K α H ρ σ /\ RepL K α H d v/\PQ K cl ex (f d ρ m) α H fun ρ' α' _ H'=>∀σ',RepE K α' H' ρ' σ'->Q σ' H'
def ItD(K:ye)(cl:ae->ad)(α : List ad)(H:Hp)(J:It)(ds:List D):Prop :=
 ∀(i:Nat)(a:List ad)(m1:Sto)(H1:Hp),Ext α H a H1->Wd K cl a m1 H1->(∀d,ds[i]?=aa d->J.go i H1/\∀x H2,J.yld i H1 x H2->Same H1 H2/\Rep K a H2 d x)/\(i=ds.length->J.stop i H1)
def tDI(K:ye)(cl:ae->ad)(ex:XD)(f:AV):TI:=fun σ H R=>∃α ρ m,Wd K cl α m H/\RepE K α H ρ σ /\ PQ K cl ex (f ρ m) α H fun ds α' _ H'=>∀J,ItD K cl α' H' J ds->R J H'
section
variable(X:Cx)(cl:ae->ad)(ex:XD)
structure QS(st:am)(f:SV):Prop where
 out:PS X st (tDS X.K cl ex f)
structure QSs(st:List am)(f:SV):Prop where
 out:PSs X st (tDS X.K cl ex f)
structure QG(tg:ak)(f:GV):Prop where
 out:PG X tg (tDG X.K cl ex f)
structure QGs(tg:List ak)(f:List D->En->Sto->Res En):Prop where
 out:PGs X tg (tDGs X.K cl ex f)
structure QI(tg it:ak)(f:AV):Prop where
 out:PI X tg it (tDI X.K cl ex f)
end
theorem PG.weak{e:ak}{t t':TG}(h:PG X e t)(w:∀v σ H Q,t' v σ H Q->t v σ H Q):PG X e t':=fun pins s σ H v u Q I r q=>h pins s σ H v u Q I r (w v σ H Q q)
theorem PGs.weak{e:List ak}{t t':TGs}(h:PGs X e t)(w:∀v σ H Q,t' v σ H Q->t v σ H Q):PGs X e t':=fun pins s σ H v u Q I r q=>h pins s σ H v u Q I r (w v σ H Q q)
variable{tg:ak}
theorem PI.weak{e:ak}{t t':TI}(h:PI X tg e t)(w:∀σ H Q,t' σ H Q->t σ H Q):PI X tg e t':=fun pins s σ H Q I q=>h pins s σ H Q I (w σ H Q q)
def zar(f g:SV):SV:=fun ρ m=>(f ρ m).bind fun fl m1=>match fl with
 |.nx a=>g a m1|fl=>.ok fl m1
def za3:SV:=fun ρ m=>.ok (.nx ρ) m
def zmi:SV:=fun _ _=>.bad
def zaE(f:EV):SV:=fun ρ m=>(f ρ m).bind fun d m1=>.ok (.rt d) m1
def sRetN:SV:=fun _ m=>.ok (.rt .non) m
def zbs(f:EV):SV:=fun ρ m=>(f ρ m).bind fun _ m1=>.ok (.nx ρ) m1
def sIf(c:TV)(f g:SV):SV:=fun ρ m=>(c ρ m).bind fun b m1=>if b=ac then f ρ m1 else g ρ m1
def zaJ(f:EV)(g:GV):SV:=fun ρ m=>(f ρ m).bind fun d m1=>(g d ρ m1).bind fun a m2=>.ok (.nx a) m2
def gN(i:Nat):GV:=fun d ρ m=>.ok (ρ.set i (aa d)) m
def zcw:List D->En->Sto->Res En:=fun ds ρ m=>match ds with
 |[]=>.ok ρ m|_::_=>.bad
def zaA(g:GV)(G:List D->En->Sto->Res En):List D->En->Sto->Res En:=fun ds ρ m=>match ds with
 |[]=>.bad|d::r=>(g d ρ m).bind fun a m1=>G r a m1
def gT(n:Nat)(g:List D->En->Sto->Res En):GV:=fun d ρ m=>match d with
 |.tup ds=>if ds.length=n then g ds ρ m else .bad|_=>.bad
def sPar(i j:Nat)(f:AV):SV:=fun ρ m=>(f ρ m).bind fun ds m1=>match ds with
 |[x,y]=>.ok (.nx ((ρ.set i (aa x)).set j (aa y))) m1|_=>.bad
def zu4(i j k:Nat)(f:AV):SV:=fun ρ m=>(f ρ m).bind fun ds m1=>match ds with
 |[x,y,z]=>.ok (.nx (((ρ.set i (aa x)).set j (aa y)).set k (aa z))) m1|_=>.bad
def ze9(g:GV)(b:SV):List D->En->Sto->Res Fl
 |[],ρ,m=>.ok (.nx ρ) m|d::r,ρ,m=>(g d ρ m).bind fun c m1=>(b c m1).bind fun f m2=>match f with
  |.nx a=>ze9 g b r a m2|.ct a=>ze9 g b r a m2|.bk a=>.ok (.nx a) m2|.rt d=>.ok (.rt d) m2
def zkl(it:AV)(g:GV)(b:SV):SV:=fun ρ m=>(it ρ m).bind fun ds m1=>ze9 g b ds ρ m1
def zgk(c:TV)(B:SV):Nat->En->Sto->Res Fl
 |0,_,_=>.bad|n+1,ρ,m=>(c ρ m).bind fun b m1=>if b=ac then (B ρ m1).bind fun f m2=>match f with
  |.nx a=>zgk c B n a m2|.ct a=>zgk c B n a m2|.bk a=>.ok (.nx a) m2|.rt d=>.ok (.rt d) m2 else .ok (.nx ρ) m1
def zhj(n:Nat)(c:TV)(b:SV):SV:=fun ρ m=>zgk c b n ρ m
def zgs(g:GV)(c:TV)(el:EV)(ρ : En):List D->Sto->Res (List D)
 |[],m=>.ok [] m|d::r,m=>(g d ρ m).bind fun a m1=>(c a m1).bind fun b m2=>if b=ac then (el a m2).bind fun x e=>(zgs g c el ρ r e).bind fun xs M=>.ok (x::xs) M else zgs g c el ρ r m2
def zc6(n:Nat)(it:AV)(g:GV)(c:TV)(el:EV):AV:=fun ρ m=>(it ρ m).bind fun ds m1=>if ds.length<=1000000 then zgs g c el (ρ ++ yn n ab) ds m1 else .bad
def zcf:TV:=fun _ m=>.ok ac m
variable{gs:List D->En->Sto->Res En}{n j:Nat}{y:ae}{px:ay}
section
variable{a e it:ak}{fr:AV}{st:am}{sts sts':List am}{f g:SV}{gt:GV}
theorem zao:QSs X cl ex [] za3:=⟨PSs.weak zvo fun D σ H a=>ex3 a fun α ρ m W hr h=>PQ.ok W h σ hr⟩
theorem zah(h:QS X cl ex st f):QSs X cl ex [st] f:=⟨zvn h.out⟩
theorem zag(j:QS X cl ex st f)(i:QSs X cl ex sts g):QSs X cl ex (st::sts) (zar f g) :=
 ⟨PSs.weak (zth j.out i.out) fun D σ H e=>ex3 e fun α ρ m W hr h=>⟨α,ρ,m,W,hr,PQ.mono (Ext.refl W) h.bind fun F b m1 k E w q=>by
  cases F with
  |nx a=>exact fun c hr1=>⟨b,a,m1,w,hr1,q⟩|rt d=>exact PQ.ok w q|bk a=>exact PQ.ok w q|ct a=>exact PQ.ok w q⟩⟩
theorem zbY:QS X cl ex st zmi:=⟨PS.weak ztj fun D σ H a=>ex3 a fun α ρ m W hr h=>h.elim⟩
theorem zak(c:QE X cl ex e fa):QS X cl ex (.Return (aa e) pos) (zaE fa) :=
 ⟨PS.weak (ps_ret c.out) fun D σ H b=>ex3 b fun α ρ m W hr h=>tD.use W hr h fun a m1 g d v E w hr1 r f=>PQ.ok w f v r⟩
theorem za4(c:QE X cl ex e fa)(hs:autoParam (bo e ab pos.line X.env=pure ag) AutoP.a3._auto_1):QS X cl ex (.Expr e pos) (zbs fa) :=
 ⟨PS.weak (zvq c.out hs) fun D σ H b=>ex3 b fun α ρ m W hr h=>tD.use W hr h fun a m1 g d v E w hr1 r f=>PQ.ok w f _ hr1⟩
theorem zaG(i:QT X cl ex c ta)(ha:QSs X cl ex sts f)(j:QSs X cl ex sts' g):QS X cl ex (.If c sts sts' pos) (sIf ta f g) :=
 ⟨PS.weak (ps_if i.out ha.out j.out) fun D σ H e=>ex3 e fun α ρ m W hr h=>tDT.use W hr h fun a m1 k d E w hr1 b=>by
  cases d with
  |true=>exact⟨a,ρ,m1,w,hr1,b⟩|false=>exact⟨a,ρ,m1,w,hr1,b⟩⟩
theorem zap(c:X.N.Nodup)(hi:X.N[i]?=aa x)(a:Loc X.env.scope x)(b:autoParam (X.fn x=ac∨X.env.scope.names.lookup x=aa .local) AutoP.a0._auto_1):QG X cl ex (.Name x pos) (gN i) :=
 ⟨PG.weak (zvD c hi a b) fun v σ H Q ⟨α,ρ,m,d,W,hr,r,h⟩=>PQ.ok W h _ (hr.set r)⟩
theorem zbt:QGs X cl ex [] zcw:=⟨PGs.weak zvC fun v σ H Q ⟨α,ρ,m,d,W,hr,R,h⟩=>by
 cases d with
 |nil=>rw[RepL]at R;exact⟨R,PQ.ok W h _ hr⟩|cons d r=>exact h.elim⟩
theorem zau(j:QG X cl ex e gt)(i:QGs X cl ex es gs)(hs:autoParam ((aU (e::es) X.env).map (·.2)=bg e X.env::(aU es X.env).map (·.2)) AutoP.a3._auto_1):QGs X cl ex (e::es) (zaA gt gs) :=
 ⟨PGs.weak (ztm j.out i.out hs) fun v σ H Q ⟨α,ρ,m,d,W,hr,R,h⟩=>by
  cases d with
  |nil=>exact h.elim|cons d r=>
   rw[RepL]at R;obtain⟨V,vr,rfl,g,f⟩:=R;refine⟨V,vr,rfl,α,ρ,m,d,W,hr,g,PQ.mono (Ext.refl W) (show PQ X.K cl ex ((gt d ρ m).bind fun a m1=>gs r a m1) α H _ from h).bind fun a b m1 k E w q c hr1=>?_⟩;exact⟨b,a,m1,r,w,hr1,f.mono W E,q⟩⟩
theorem zcd{k:Nat}(g:X.calm=ac)(f:QGs X cl ex es gs)(hn:autoParam ((aU es X.env).length=n) AutoP.a3._auto_1)(b:autoParam ((aU es X.env).findIdx? (·.1)=ab) AutoP.a3._auto_1):QG X cl ex (.Tuple es k pos) (gT n gs) :=
 ⟨PG.weak (pg_tup g f.out hn b) fun v σ H Q ⟨α,ρ,m,d,W,hr,r,h⟩=>by
  cases d with
  |tup ds=>
   rw[Rep]at r;obtain⟨a,xs,e,j,c⟩:=r;obtain⟨hl,i⟩:=PQ.if h;exact⟨a,xs,e,j.sq,by rw[<- c.length];exact hl,α,ρ,m,ds,W,hr,c,i⟩
  |_=>exact h.elim⟩
theorem zpN{u:TG}(i:∀σ H Q,tD X.K cl ex fa σ H Q->t σ H Q)(g:∀v σ H Q,tDG X.K cl ex gt v σ H Q->u v σ H Q):∀D σ H,tDS X.K cl ex (zaJ fa gt) D σ H->tAsg t u D σ H:=fun D σ H f=>ex3 f fun α ρ m W hr h=>
 i σ H _ (tD.use W hr h fun a m1 k d v n w hr1 r q=>g v σ k _ ⟨a,ρ,m1,d,w,hr1,r,PQ.mono (Ext.refl w) q.bind fun b c m2 l E j e=>PQ.ok j e⟩)
theorem zan{p:ay}(f:X.N.Nodup)(hi:X.N[i]?=aa x)(a:Loc X.env.scope x)(c:QE X cl ex e fa)(hs:autoParam (bo e (aa (.Name x p)) pos.line X.env=pure ag) AutoP.a3._auto_1)(b:autoParam (X.fn x=ac∨X.env.scope.names.lookup x=aa .local) AutoP.a0._auto_1) : QS X cl ex (.Assign [.Name x p] e pos) (zaJ fa (gN i)) :=
 ⟨PS.weak (ps_set f hi a c.out hs b) (zpN (fun _ _ _ h=>h) fun v σ H Q ⟨α,ρ,m,d,W,hr,r,h⟩=>PQ.ok W h _ (hr.set r))⟩
theorem zfo(b:QE X cl ex e fa)(a:QG X cl ex tg gt)(hs:autoParam (bJ [tg] e pos.line X.env=pure ag) AutoP.a3._auto_1)(H:autoParam (bK [tg] e X.env=pure ab) AutoP.a3._auto_1)(c:autoParam ((aU [tg] X.env).map (·.2)=[bg tg X.env]) AutoP.a3._auto_1):QS X cl ex (.Assign [tg] e pos) (zaJ fa gt) :=
 ⟨PS.weak (ps_asg b.out a.out hs H c) (zpN (fun _ _ _ h=>h) fun _ _ _ _ h=>h)⟩
theorem zuf{py pt:ay} {kt k2 pt2} (t:X.calm=ac) (u:X.N.Nodup) (hi:X.N[i]?=aa x) (o:X.N[j]?=aa y) (e:i≠j) (l:X.env.scope.names.lookup x=aa .local) (k:X.env.scope.names.lookup y=aa .local) (ha:QA X cl ex [a,b] fr) (n:bK [.Tuple [.Name x px,.Name y py] kt pt] (.Tuple [a,b] k2 pt2) X.env=pure (aa [x,y])) (hs:autoParam (bJ [.Tuple [.Name x px,.Name y py] kt pt] (.Tuple [a,b] k2 pt2) pos.line X.env=pure ag) AutoP.a3._auto_1) : QS X cl ex (.Assign [.Tuple [.Name x px,.Name y py] kt pt] (.Tuple [a,b] k2 pt2) pos) (sPar i j fr) :=
 ⟨PS.weak (ps_par t u hi o e l k ha.out n hs) fun D σ H s=>ex3 s fun α ρ m W hr h=>tDA.use W hr h fun f m1 z d v E w hr1 r c=>by
  match d,r,c with
  |[p,q],r,c=>
   rw[RepL]at r;obtain⟨g,R,rfl,a1,r⟩:=r;rw[RepL]at r;obtain⟨V,r2,rfl,a2,r⟩:=r;rw[RepL]at r;subst r;exact⟨g,V,rfl,PQ.ok w c _ ((hr1.set a1).set a2)⟩
  |[],_,c=>exact c.elim|[_],_,c=>exact c.elim|_::_::_::_,_,c=>exact c.elim⟩
theorem zvc{k:Nat}{z:ae}{py P pt:ay} {kt k2 pt2} (G:X.calm=ac) (I:X.N.Nodup) (hi:X.N[i]?=aa x) (E:X.N[j]?=aa y) (C:X.N[k]?=aa z) (l:i≠j) (g:i≠k) (f:j≠k) (A:X.env.scope.names.lookup x=aa .local) (w:X.env.scope.names.lookup y=aa .local) (u:X.env.scope.names.lookup z=aa .local) (ha:QA X cl ex [a,b,c] fr) (B:bK [.Tuple [.Name x px,.Name y py,.Name z P] kt pt] (.Tuple [a,b,c] k2 pt2) X.env=pure (aa [x,y,z])) (hs:autoParam (bJ [.Tuple [.Name x px,.Name y py,.Name z P] kt pt] (.Tuple [a,b,c] k2 pt2) pos.line X.env=pure ag) AutoP.a3._auto_1) : QS X cl ex (.Assign [.Tuple [.Name x px,.Name y py,.Name z P] kt pt] (.Tuple [a,b,c] k2 pt2) pos) (zu4 i j k fr) :=
 ⟨PS.weak (zvp G I hi E C l g f A w u ha.out B hs) fun D σ H F=>ex3 F fun α ρ m W hr h=>tDA.use W hr h fun n m1 L d v M J hr1 r e=>by
  match d,r,e with
  |[p,q,o],r,e=>
   rw[RepL]at r;obtain⟨t,K,rfl,a1,r⟩:=r;rw[RepL]at r;obtain⟨s,r2,rfl,a2,r⟩:=r;rw[RepL]at r;obtain⟨V,R,rfl,a3,r⟩:=r;rw[RepL]at r;subst r;exact⟨t,s,V,rfl,PQ.ok J e _ (((hr1.set a1).set a2).set a3)⟩
  |[],_,e=>exact e.elim|[_],_,e=>exact e.elim|[_,_],_,e=>exact e.elim|_::_::_::_::_,_,e=>exact e.elim⟩
theorem zc9(V:PassesOwn (ao X.prog X.w) X.A X.env X.xe)(hc:X.calm=ac)(hi:QI X cl ex tg it fr)(Z:QG X cl ex tg gt)(hb:QSs X cl ex sts f)(hs:autoParam (∀x,bi it X.env x=pure x) AutoP.a2._auto_1):QS X cl ex (.For tg it sts [] pos) (zkl fr gt f) :=
 ⟨PS.weak (ps_for V hc hi.out Z.out hb.out hs) fun D σ H Y=>ex3 Y fun α ρ m W hr h=>⟨α,ρ,m,W,hr,PQ.mono (Ext.refl W) h.bind fun ds l m1 L E1 K q J hJ=>by
  refine⟨fun i n k r=>n=ds.length-i/\i<=ds.length/\∃a m2 j,Ext l L a r/\Wd X.K cl a m2 r/\RepE X.K a r j k/\PQ X.K cl ex (ze9 gt f (ds.drop i) j m2) a r fun F α' _ H'=>zjg X.K D F α' H',
   ⟨ds.length,by simp,yav _,l,m1,ρ,Ext.refl K,K,hr.mono W E1,q⟩,?_⟩
  rintro i n k r ⟨rfl,hi,a,m2,j,N,w,hr2,Q⟩;obtain⟨go,stop⟩:=hJ i a m2 r N w;by_cases o:i<ds.length
  ·have hd:ds[i]?=aa ds[i]:=by simp[o]
   obtain⟨g1,g2⟩:=go _ hd;rw[ybN o,ze9]at Q;refine .inr ⟨g1,fun s p=>∃b M g,Ext l L b p/\Wd X.K cl b M p/\RepE X.K b p g s/\PQ X.K cl ex (ze9 gt f (ds.drop (i+1)) g M) b p fun F α' _ H'=>zjg X.K D F α' H',
    fun s p ⟨b,M,g,E3,B,hr3,T⟩=>⟨ds.length-(i+1),by omega,rfl,o,b,M,g,E3,B,hr3,T⟩,fun x p y=>?_⟩
   obtain⟨S,R⟩:=g2 x p y;have C:=Ext.of_same w S;have B:=w.same S;refine⟨a,j,m2,ds[i],B,hr2.mono w C,R,PQ.mono C Q.bind fun z A U H4 E4 I P O hr4=>?_⟩;have E:=N.trans (C.trans E4);refine⟨A,z,U,I,hr4,PQ.mono (Ext.refl I) P.bind fun F t G H5 E5 u q5=>?_⟩;cases F with
   |nx c=>exact fun v hr5=>⟨t,G,c,E.trans E5,u,hr5,q5⟩|ct c=>exact fun v hr5=>⟨t,G,c,E.trans E5,u,hr5,q5⟩|bk c=>exact PQ.ok u q5|rt d=>exact PQ.ok u q5
  ·have e:i=ds.length:=by omega
   subst e;rw[ybO (yh _),ze9]at Q;exact .inl ⟨stop rfl,PQ.ok w Q k hr2⟩⟩⟩
theorem znC(x:PassesOwn (ao X.prog X.w) X.A X.env X.xe)(z:QT X cl ex c ta)(A:QSs X cl ex sts f):QS X cl ex (.While c sts [] pos) (zhj n ta f) :=
 ⟨PS.weak (zti x z.out A.out) fun D σ H y=>ex3 y fun α ρ m W hr h=>by
  refine⟨fun k i p=>∃g m2 e,Wd X.K cl g m2 p/\RepE X.K g p e i/\PQ X.K cl ex (zgk ta f k e m2) g p fun F α' _ H'=>zjg X.K D F α' H',⟨n,α,m,ρ,W,hr,h⟩,?_⟩;rintro k i p ⟨g,m2,e,B,hr2,Q⟩;cases k with
  |zero=>exact Q.elim|succ k=>
   rw[zgk]at Q;refine tDT.use B hr2 Q fun r v E b G s hr3 t=>?_;cases b with
   |false=>exact PQ.ok s t i hr3|true=>
    refine⟨fun j o=>∃α4 m4 ρ4,Wd X.K cl α4 m4 o/\RepE X.K α4 o ρ4 j/\PQ X.K cl ex (zgk ta f k ρ4 m4) α4 o fun F α' _ H'=>zjg X.K D F α' H',fun j o u=>⟨k,ya6 _,u⟩,?_⟩;refine⟨r,e,v,s,hr3,PQ.mono (Ext.refl s) t.bind fun F l M C E5 w q5=>?_⟩;cases F with
    |nx a=>exact fun q hr5=>⟨l,M,a,w,hr5,q5⟩|ct a=>exact fun q hr5=>⟨l,M,a,w,hr5,q5⟩|bk a=>exact PQ.ok w q5|rt d=>exact PQ.ok w q5⟩
end
end MD
namespace L2
open PySem PySem.Spec PyProof.Rows
abbrev CQ:=ye->Hp->ad->List V->Prop
structure SeqKd(c:CQ)(IsS:ax->ad->Array af->Prop)(IsI:ax->ad->ad->Nat->Prop):Prop where
 obj:∀h it l i,IsI h it l i->∃o,h.get? it=aa o/\∀v,o.data ≠ .cell v
 kp:∀(h h':ax) it l i,IsI h it l i->(∀o,h.get? it=aa o->h'.get? it=aa o)->IsI h' it l i
 seq:∀(X:Cx)(pins:List (ad×av))(σ : St)(H:Hp)(s:aj)(l:ad)(xs:List V),Inv X pins σ H s->c X.K H l xs->∃its:List af,Vals xs its/\IsS s.heap l its.toArray
 dr:∀(P:ap)(w:al)(A:aA),A.handled=ab->∀(it l:ad),l≠it->∀items:Array af,Draws P w A it [it,l] items.size (fun i v=>items[i]?=aa v) (fun i h=>IsI h it l i/\IsS h l items)
 ne:∀(X:Cx)(pins:List (ad×av))(σ : St)(H:Hp)(s:aj)(l:ad)(xs:List V)(b:ad),Inv X pins σ H s->c X.K H l xs->zfT X pins H b->l≠b
 inj:∀(X:Cx)(pins:List (ad×av))(σ : St)(H:Hp)(s:aj)(l:ad)(xs ys:List V),Inv X pins σ H s->c X.K H l xs->c X.K H l ys->xs=ys
variable{X:Cx}{pins:List (ad×av)}{σ : St}{H:Hp}{s:aj}{b:ad}
theorem zsw{l:ad}{o:av}(I:Inv X pins σ H s)(e:X.K.lookup l=aa o)(f:zfT X pins H b):l≠b:=fun z=>by
 subst z;have a:X.base.get? l=aa o:=I.mod.kin l o e;rcases f.2.2.2.1 with h|h
 ·exact I.ok.noex l o a h
 ·have d:=yA a;have c:=I.ok.bsz;exact absurd (yQ d (yO c h)) (yao _)
theorem rd_ne{l:ad}{u:HO}(h:Rd H l u)(n:H b=ab):l≠b:=by
 rcases h with h|⟨o,h⟩
 ·exact zaI h n
 ·exact zaI h n
theorem sq_lst:SeqKd SqL Heap.IsList Heap.IsListIter where
 obj:=seq_lst.obj
 kp:=seq_lst.kp
 seq:=fun X pins σ H s l xs I e=>by
  obtain⟨its,r,p,_⟩:=I.list e
  exact⟨its,r,p.isList⟩
 dr:=seq_lst.dr
 ne:=fun X pins σ H s l xs b I e f=>by
  rcases e with e|⟨o,_,_,e,_⟩
  ·exact rd_ne e f.1
  ·exact zsw I e f
 inj:=fun X pins σ H s l xs ys I=>I.list_inj
theorem sq_tup:SeqKd SqT Heap.IsTuple ydP where
 obj:=seq_tup.obj
 kp:=seq_tup.kp
 seq:=fun X pins σ H s l xs I e=>by
  obtain⟨its,r,p,_⟩:=I.tuple e
  exact⟨its,r,p⟩
 dr:=seq_tup.dr
 ne:=fun X pins σ H s l xs b I e f=>by
  rcases e with e|⟨o,_,_,e,_⟩
  ·exact rd_ne e f.1
  ·exact zsw I e f
 inj:=fun X pins σ H s l xs ys I=>I.tuple_inj
def IteQ(c:CQ)(K:ye)(l:ad):It :=
 ⟨fun i H=>∃xs x,c K H l xs/\xs[i]?=aa x,fun i H x H'=>∃T y,H T=ab/\x = .ref T/\(∀xs,c K H l xs->xs[i]?=aa y)/\H'=upd H T (.tup [.int (i:Int),y]),fun i H=>∃xs,c K H l xs/\xs.length=i⟩
variable{c:CQ}{IsS:ax->ad->Array af->Prop}{IsI:ax->ad->ad->Nat->Prop}{P:ap}{K:ye}{elts:List ak}{kt:Nat}
theorem zox(S:SeqKd c IsS IsI){w:al}{pt:ay}{e it l:ad}(a:e≠it) :
  Turn P w K (.Tuple elts kt pt) (IteQ c K l) [e,it] e (fun i h=>(∃O,IsEnum h e it i O)/\IsI h it l i) where
 mem:=by simp
 obj:=fun i h st b U=>by
  obtain⟨⟨O,d⟩,st⟩:=st
  have q:b=e∨b=it:=by simpa using U
  rcases q with rfl|rfl
  ·exact⟨_,d,fun v z=>by cases z⟩
  ·exact S.obj _ _ _ _ st
 keep:=fun i h h' st k=>⟨let ⟨O,d⟩:=st.1;⟨O,k e (by simp) _ d⟩,S.kp _ _ _ _ _ st.2 fun o q=>k it (by simp) o q⟩
 item:=by
  intro X m C V T i pins s σ H E I n st M
  subst m C V
  obtain⟨xs,y,hl,Z⟩:=M
  obtain⟨its,R,p⟩:=S.seq X pins σ H s l xs I hl
  obtain⟨u,hu,ru⟩:=R.get Z
  have F:=n e (by simp)
  have fi:=n it (by simp)
  have j:l≠e:=S.ne X pins σ H s l xs e I hl F
  have g:l≠it:=S.ne X pins σ H s l xs it I hl fi
  have J:i<its.toArray.size:=by
   have:=yi.mp hu
   simpa using this.1
  obtain⟨⟨O,d⟩,hs⟩:=st
  have r:e<s.heap.objs.size:=yA d
  have L:it<s.heap.objs.size:=by obtain⟨o,q,_⟩:=S.obj _ _ _ _ hs;exact yA q
  refine wpAny_pyNext_enum_itemD (S.dr X.prog X.w X.A.in1 (I.ok.hd T) it l g its.toArray) d ⟨hs,p⟩ J a (by simp[a,Ne.symm j]) fun x h' tk hx G D hT hsz hk=>?_
  refine⟨.ref s.heap.objs.size,rfl,wpAny_letOwnedTupleGo_enum (s:={ s with heap:=h',toks:=tk+1 }) G fun h2 N f=>?_⟩
  have B:x=u:=by
   have h1:its[i]?=aa x:=by simpa using hx
   rw[hu]at h1
   exact(yad h1).symm
  subst B
  have t:h2.get? s.heap.objs.size=aa { cls := .type "tuple", data := .seq #[.int i tk,x] }:=(f.2 _ (yaJ r)).trans hT
  have new:ObjOk X.prog X.w (upd H s.heap.objs.size (.tup [.int (i:Int),y])) h2 s.heap.objs.size (.tup [.int (i:Int),y]):=⟨(by show 2<=sizeLine;decide),[.int i tk,x],.cons ⟨tk,rfl⟩ (.cons ru .nil),⟨_,t,rfl,_,rfl⟩,_,t,rfl⟩
  refine⟨.ref s.heap.objs.size,_,I.turn2l F fi (fun c o c1 Y q=>(f.2 c c1).trans (hk c o c1 Y q)) (yh _) new,rfl,⟨s.heap.objs.size,y,I.hok.fresh (yh _),rfl,fun us h=>by rw[S.inj X pins σ H s l us xs I h hl];exact Z,rfl⟩,⟨⟨x,by simpa using N⟩,S.kp _ _ _ _ _ D.1 fun o q=>(f.2 it (Ne.symm a)).trans q⟩,fun b U=>?_⟩
  have q:b=e∨b=it:=by simpa using U
  rcases q with rfl|rfl
  ·rw[zax (yG r)];exact F.1
  ·rw[zax (yG L)];exact fi.1
 done:=by
  intro X m C V T i pins s σ H E I n st M
  subst m C V
  obtain⟨xs,hl,hn⟩:=M
  obtain⟨its,R,p⟩:=S.seq X pins σ H s l xs I hl
  have F:=n e (by simp)
  have fi:=n it (by simp)
  have j:l≠e:=S.ne X pins σ H s l xs e I hl F
  have g:l≠it:=S.ne X pins σ H s l xs it I hl fi
  have hi:i=its.toArray.size:=by rw[<- hn,R.length];simp
  subst hi
  have W:=WalksT.enumerateD (S.dr X.prog X.w X.A.in1 (I.ok.hd T) it l g its.toArray) e a (by simp[a,Ne.symm j]) (by simp)
  exact W.done s _ _ ⟨st.1,st.2,p⟩ fun h' tk kk=>⟨rfl,I.turn2 F fi fun c o c1 Y q=>kk c o (by simp[c1,Y]) q⟩
 self:=fun A i s Q E st q=>by
  obtain⟨⟨O,d⟩,_⟩:=st
  exact cp d q
def zut(c:CQ)(K:ye)(te:TE):TI:=fun σ H R=>te σ H fun x H1=>∃l xs,[x]=[V.ref l]/\c K H1 l xs/\R (IteQ c K l) H1
variable{p pos:ay}{R:It->Hp->Prop}{h':ax}
section
variable{pt:ay}{e:ak}{te:TE}
theorem zlx(S:SeqKd c IsS IsI){l:ad}(I:Inv X pins σ H s)(h:IsEnum h' (s.heap.objs.size+1) s.heap.objs.size 0 .none)(hi:IsI h' s.heap.objs.size l 0)(k:∀b o,s.heap.get? b=aa o->h'.get? b=aa o)(q:R (IteQ c X.K l) H) : PIE X pins σ (.Tuple elts kt pt) R (.ref (s.heap.objs.size+1)) { s with heap:=h' }:=by
 refine⟨s.heap.objs.size+1,[s.heap.objs.size+1,s.heap.objs.size],_,_,H,rfl,I.kept (t':=s.toks) k,zox S (yaJ (ya6 _)),⟨⟨.none,h⟩,hi⟩,fun b a=>?_,q⟩;have e:b=s.heap.objs.size+1∨b=s.heap.objs.size:=by simpa using a
 rcases e with rfl|rfl
 ·exact I.fpOk (ybn _) (I.hok.fresh (ybn _))
 ·exact I.fpOk (yh _) (I.hok.fresh (yh _))
theorem zqw(f:Gl X "enumerate")(hm:X.mg "enumerate" = ab)(g:PE X e te)(hs:autoParam (au [e] X.env=[(ag,eval e X.env)]) AutoP.a3._auto_1):PI X (.Tuple elts kt pt) (.Call (.Name "enumerate" p) [e] [] pos) (zut SqL X.K te):=by
 intro pins s σ H R I h;refine Call_ (zeg I f hm boot_enumerate (PyProof.Rows.callWith_type1 (thn (zcT g zgA hs pos pins s σ H (fun z b=>∃l xs,z=[V.ref l]/\SqL X.K b l xs/\R (IteQ SqL X.K l) b) I h) fun us s1 ⟨vs,b,i,d,Q⟩=>?_) hs rfl));obtain⟨l,xs,rfl,hl,q⟩:=Q;obtain⟨u,rfl,r⟩:=zcB d;cases r;obtain⟨its,j,pl⟩:=sq_lst.seq X pins σ b s1 l xs i hl;exact call_enumerate_list pl fun h' a c _ k=>cp a (zlx sq_lst i a c k q)
theorem zqv(f:Gl X "enumerate")(hm:X.mg "enumerate" = ab)(g:PE X e te)(hs:autoParam (au [e] X.env=[(ag,eval e X.env)]) AutoP.a3._auto_1):PI X (.Tuple elts kt pt) (.Call (.Name "enumerate" p) [e] [] pos) (zut SqT X.K te):=by
 intro pins s σ H R I h;refine Call_ (zeg I f hm boot_enumerate (PyProof.Rows.callWith_type1 (thn (zcT g zgA hs pos pins s σ H (fun z b=>∃l xs,z=[V.ref l]/\SqT X.K b l xs/\R (IteQ SqT X.K l) b) I h) fun us s1 ⟨vs,b,i,d,Q⟩=>?_) hs rfl));obtain⟨l,xs,rfl,hl,q⟩:=Q;obtain⟨u,rfl,r⟩:=zcB d;cases r;obtain⟨its,j,pl⟩:=sq_tup.seq X pins σ b s1 l xs i hl;exact zfQ pl fun h' a c k=>cp a (zlx sq_tup i a c k q)
end
def zpo(c1 c:CQ)(K:ye)(l1 l2:ad):It :=
 ⟨fun i H=>∃xs ys x y,c1 K H l1 xs/\c K H l2 ys/\xs[i]?=aa x/\ys[i]?=aa y,fun i H v H'=>∃T x y,H T=ab/\v = .ref T/\(∀xs,c1 K H l1 xs->xs[i]?=aa x)/\(∀ys,c K H l2 ys->ys[i]?=aa y)/\H'=upd H T (.tup [x,y]),fun i H=>∃xs,c1 K H l1 xs/\xs.length=i⟩
variable{c1 c2:CQ}{IsS1 IsS2:ax->ad->Array af->Prop}{IsI1 IsI2:ax->ad->ad->Nat->Prop}{l2:ad}
theorem zpD(S:SeqKd c1 IsS1 IsI1)(p:SeqKd c2 IsS2 IsI2){w:al}{pt:ay}{z TI TO i1 j l1:ad}(N:TO≠z)(C:TI≠z)(n:i1≠z)(D:j≠z)(nTT:TI≠TO)(n1I:TI≠i1)(n2I:TI≠j)(L:i1≠TO)(J:j≠TO)(M:i1≠j) :
  Turn P w K (.Tuple elts kt pt) (zpo c1 c2 K l1 l2) [z,TI,TO,i1,j] z (fun i h=>aO h z TI TO .none/\aC h TI (.ref i1) (.ref j)/\(∃a b,aC h TO a b)/\IsI1 h i1 l1 i/\IsI2 h j l2 i) where
 mem:=by simp
 obj:=fun i h st b l=>by
  obtain⟨f,t,⟨a,c,B⟩,u,G⟩:=st
  simp only[yB,y9,or_false]at l
  rcases l with rfl|rfl|rfl|rfl|rfl
  ·exact⟨_,f,fun v z=>by cases z⟩
  ·exact⟨_,t,fun v z=>by cases z⟩
  ·exact⟨_,B,fun v z=>by cases z⟩
  ·exact S.obj _ _ _ _ u
  ·exact p.obj _ _ _ _ G
 keep:=fun i h h' st k=>by
  obtain⟨f,t,⟨a,c,B⟩,u,G⟩:=st
  exact⟨k _ (by simp) _ f,k _ (by simp) _ t,⟨a,c,k _ (by simp) _ B⟩,S.kp _ _ _ _ _ u fun o q=>k _ (by simp) o q,p.kp _ _ _ _ _ G fun o q=>k _ (by simp) o q⟩
 item:=by
  intro X F hw hK e i pins s σ H E I r st hg
  subst F hw hK
  obtain⟨xs,ys,x,y,hl1,hl2,hx,hy⟩:=hg
  obtain⟨d,R,p1⟩:=S.seq X pins σ H s l1 xs I hl1
  obtain⟨m,rv2,p2⟩:=p.seq X pins σ H s l2 ys I hl2
  obtain⟨u1,U,ru1⟩:=R.get hx
  obtain⟨u2,T,ru2⟩:=rv2.get hy
  have fz:=r z (by simp)
  have fT:=r TO (by simp)
  have f1:=r i1 (by simp)
  have f2:=r j (by simp)
  have W:i<d.toArray.size:=by
   have:=yi.mp U
   simpa using this.1
  have V:i<m.toArray.size:=by
   have:=yi.mp T
   simpa using this.1
  obtain⟨f,t,⟨a,c,B⟩,u,G⟩:=st
  have a1:=S.ne X pins σ H s l1 xs z I hl1 fz
  have a2:=S.ne X pins σ H s l1 xs TO I hl1 fT
  have a3:=S.ne X pins σ H s l1 xs i1 I hl1 f1
  have a4:=S.ne X pins σ H s l1 xs j I hl1 f2
  have b1:=p.ne X pins σ H s l2 ys z I hl2 fz
  have b2:=p.ne X pins σ H s l2 ys TO I hl2 fT
  have b3:=p.ne X pins σ H s l2 ys i1 I hl2 f1
  have b4:=p.ne X pins σ H s l2 ys j I hl2 f2
  refine zdW (S.dr X.prog X.w X.A.in1 (I.ok.hd e) i1 l1 a3 d.toArray) (p.dr X.prog X.w X.A.in1 (I.ok.hd e) j l2 b4 m.toArray) f t B ⟨u,p1⟩ ⟨G,p2⟩ W V N C n D L J
   (by simp[Ne.symm n,Ne.symm a1]) (by simp[Ne.symm L,Ne.symm a2]) (by simp[Ne.symm M,Ne.symm a4]) (by simp[Ne.symm D,Ne.symm b1]) (by simp[Ne.symm J,Ne.symm b2]) (by simp[M,Ne.symm b3]) fun v1 Z h' tk e1 e2 q1 q2 q3 q4 q5 q6 q7=>?_
  refine⟨.ref s.heap.objs.size,rfl,wpAny_letOwnedTupleGo_zip (s:={ s with heap:=h',toks:=tk }) q1 fun g r1 r2=>?_⟩
  have hv1:v1=u1:=by
   have f:d[i]?=aa v1:=by simpa using e1
   rw[U]at f
   exact(yad f).symm
  have hv2:Z=u2:=by
   have f:m[i]?=aa Z:=by simpa using e2
   rw[T]at f
   exact(yad f).symm
  subst hv1 hv2
  have O:z<s.heap.objs.size:=yA f
  have Y:g.get? s.heap.objs.size=aa { cls := .type "tuple", data := .seq #[v1,Z] }:=(r2.2 _ (yaJ O)).trans q5
  have new:ObjOk X.prog X.w (upd H s.heap.objs.size (.tup [x,y])) g s.heap.objs.size (.tup [x,y]):=⟨(by show 2<=sizeLine;decide),[v1,Z],.cons ru1 (.cons ru2 .nil),⟨_,Y,rfl,_,rfl⟩,_,Y,rfl⟩
  refine⟨.ref s.heap.objs.size,_,I.turnNl (ch:=[z,TO,i1,j]) (fun b l=>r b ?_) (fun c o e q=>(r2.2 c ?_).trans (q7 c o ?_ ?_ ?_ ?_ q)) (yh _) new,rfl,⟨s.heap.objs.size,x,y,I.hok.fresh (yh _),rfl,(fun us h=>by rw[S.inj X pins σ H s l1 us xs I h hl1];exact hx),(fun us h=>by rw[p.inj X pins σ H s l2 us ys I h hl2];exact hy),rfl⟩,⟨r1,(r2.2 _ C).trans (q7 _ _ C nTT n1I n2I t),⟨_,_,(r2.2 _ N).trans q2⟩,S.kp _ _ _ _ _ q3.1 fun o q=>(r2.2 _ n).trans q,p.kp _ _ _ _ _ q4.1 fun o q=>(r2.2 _ D).trans q⟩,fun b l=>?_⟩
  ·simp only[yB,y9,or_false]at l ⊢
   rcases l with h|h|h|h <;> simp[h]
  ·exact fun z=>e (by simp[z])
  ·exact fun z=>e (by simp[z])
  ·exact fun z=>e (by simp[z])
  ·exact fun z=>e (by simp[z])
  ·exact fun z=>e (by simp[z])
  ·have fb:=r b l
   have lt:b<s.heap.objs.size:=by
    simp only[yB,y9,or_false]at l
    rcases l with rfl|rfl|rfl|rfl|rfl
    ·exact O
    ·exact yA t
    ·exact yA B
    ·obtain⟨o,q,_⟩:=S.obj _ _ _ _ u;exact yA q
    ·obtain⟨o,q,_⟩:=p.obj _ _ _ _ G;exact yA q
   rw[zax (yG lt)]
   exact fb.1
 done:=by
  intro X F hw hK e i pins s σ H E I r st hg
  subst F hw hK
  obtain⟨xs,hl1,hn⟩:=hg
  obtain⟨d,R,p1⟩:=S.seq X pins σ H s l1 xs I hl1
  have fz:=r z (by simp)
  have f1:=r i1 (by simp)
  obtain⟨f,t,⟨a,c,B⟩,u,G⟩:=st
  have a1:=S.ne X pins σ H s l1 xs z I hl1 fz
  have a3:=S.ne X pins σ H s l1 xs i1 I hl1 f1
  have hi:i=d.toArray.size:=by rw[<- hn,R.length];simp
  subst hi
  refine zdZ (S.dr X.prog X.w X.A.in1 (I.ok.hd e) i1 l1 a3 d.toArray) f t B ⟨u,p1⟩ N n (by simp[Ne.symm n,Ne.symm a1]) fun h' k=>⟨rfl,I.turnN (t':=s.toks) (ch:=[z,TO,i1,j]) (fun b l=>r b ?_) fun c o e q=>k c o (fun z=>e (by simp[z])) (fun z=>e (by simp[z])) (fun z=>e (by simp[z])) (fun z=>e (by simp[z])) q⟩
  simp only[yB,y9,or_false]at l ⊢
  rcases l with h|h|h|h <;> simp[h]
 self:=fun A i s Q E st q=>cq st.1 q
def iZipQ(c1 c:CQ)(K:ye)(T t:TE):TI:=fun σ H R=>T σ H fun x H1=>t σ H1 fun y H2=>∃l1 l2 xs ys,[x,y]=[V.ref l1,V.ref l2]/\c1 K H2 l1 xs/\c K H2 l2 ys/\R (zpo c1 c K l1 l2) H2
section
variable{pt:ay}{e1 e2:ak}{te1 te2:TE}
theorem zne(s:SeqKd c1 IsS1 IsI1)(S:SeqKd c2 IsS2 IsI2){H:Hp}{s1:aj}{l1:ad}(I:Inv X pins σ H s1)(a1:aO h' (s1.heap.objs.size+4) (s1.heap.objs.size+2) (s1.heap.objs.size+3) .none)(a2:aC h' (s1.heap.objs.size+2) (.ref s1.heap.objs.size) (.ref (s1.heap.objs.size+1)))(a3:aC h' (s1.heap.objs.size+3) .none .none)(a4:IsI1 h' s1.heap.objs.size l1 0)(a5:IsI2 h' (s1.heap.objs.size+1) l2 0)(k:∀b o,s1.heap.get? b=aa o->h'.get? b=aa o)(q:R (zpo c1 c2 X.K l1 l2) H) : PIE X pins σ (.Tuple elts kt pt) R (.ref (s1.heap.objs.size+4)) { s1 with heap:=h' }:=by
 have nn:∀i j:Nat,i≠j->s1.heap.objs.size+i≠s1.heap.objs.size+j:=fun i j h e=>h (by exact Nat.add_left_cancel e);refine⟨s1.heap.objs.size+4,[s1.heap.objs.size+4,s1.heap.objs.size+2,s1.heap.objs.size+3,s1.heap.objs.size,s1.heap.objs.size+1],_,_,H,rfl,I.kept (t':=s1.toks) k,zpD s S (nn 3 4 (by decide)) (nn 2 4 (by decide)) (nn 0 4 (by decide)) (nn 1 4 (by decide)) (nn 2 3 (by decide)) (nn 2 0 (by decide)) (nn 2 1 (by decide)) (nn 0 3 (by decide)) (nn 1 3 (by decide)) (nn 0 1 (by decide)),⟨a1,a2,⟨_,_,a3⟩,a4,a5⟩,fun b a=>?_,q⟩;have le:s1.heap.objs.size<=b:=by
  simp only[yB,y9,or_false]at a;rcases a with h|h|h|h|h
  ·rw[h];exact ybv _ _
  ·rw[h];exact ybv _ _
  ·rw[h];exact ybv _ _
  ·rw[h];exact yh _
  ·rw[h];exact ybv _ _
 exact I.fpOk le (I.hok.fresh le)
theorem zqr(n:Gl X "zip")(hm:X.mg "zip" = ab)(d:PE X e1 te1)(c:PE X e2 te2)(hs:autoParam (au [e1,e2] X.env=(ag,eval e1 X.env)::au [e2] X.env) AutoP.a3._auto_1)(b:autoParam (au [e2] X.env=[(ag,eval e2 X.env)]) AutoP.a3._auto_1):PI X (.Tuple elts kt pt) (.Call (.Name "zip" p) [e1,e2] [] pos) (iZipQ SqT SqL X.K te1 te2):=by
 intro pins s σ H R I h;refine Call_ (zeg I n hm boot_zip (PyProof.Rows.callWith_type1 (thn (zcT d (zcT c zgA b) hs pos pins s σ H (fun z a=>∃l1 l2 xs ys,z=[V.ref l1,V.ref l2]/\SqT X.K a l1 xs/\SqL X.K a l2 ys/\R (zpo SqT SqL X.K l1 l2) a) I h) fun us s1 ⟨vs,a,i,m,Q⟩=>?_) hs (by rw[b];rfl)));obtain⟨l1,l2,xs,ys,rfl,hl1,hl2,q⟩:=Q;obtain⟨u,v,rfl,l,j⟩:=zpA m;cases l;cases j;obtain⟨f,g,P⟩:=sq_tup.seq X pins σ a s1 l1 xs i hl1;obtain⟨e,r,p2⟩:=sq_lst.seq X pins σ a s1 l2 ys i hl2;exact zm2 P p2 fun h' a1 a2 a3 a4 a5 k=>cq a1 (zne sq_tup sq_lst i a1 a2 a3 a4 a5 k q)
theorem zqq(n:Gl X "zip")(hm:X.mg "zip" = ab)(d:PE X e1 te1)(c:PE X e2 te2)(hs:autoParam (au [e1,e2] X.env=(ag,eval e1 X.env)::au [e2] X.env) AutoP.a3._auto_1)(b:autoParam (au [e2] X.env=[(ag,eval e2 X.env)]) AutoP.a3._auto_1):PI X (.Tuple elts kt pt) (.Call (.Name "zip" p) [e1,e2] [] pos) (iZipQ SqT SqT X.K te1 te2):=by
 intro pins s σ H R I h;refine Call_ (zeg I n hm boot_zip (PyProof.Rows.callWith_type1 (thn (zcT d (zcT c zgA b) hs pos pins s σ H (fun z a=>∃l1 l2 xs ys,z=[V.ref l1,V.ref l2]/\SqT X.K a l1 xs/\SqT X.K a l2 ys/\R (zpo SqT SqT X.K l1 l2) a) I h) fun us s1 ⟨vs,a,i,m,Q⟩=>?_) hs (by rw[b];rfl)));obtain⟨l1,l2,xs,ys,rfl,hl1,hl2,q⟩:=Q;obtain⟨u,v,rfl,l,j⟩:=zpA m;cases l;cases j;obtain⟨f,g,P⟩:=sq_tup.seq X pins σ a s1 l1 xs i hl1;obtain⟨e,r,p2⟩:=sq_tup.seq X pins σ a s1 l2 ys i hl2;exact zm1 P p2 fun h' a1 a2 a3 a4 a5 k=>cq a1 (zne sq_tup sq_tup i a1 a2 a3 a4 a5 k q)
end
end L2
namespace MD
open PySem PySem.Spec PyProof.Rows L2
theorem Res.bind_assoc{α β b : Type}(r:Res α)(k:α -> Sto->Res β)(l : β -> Sto->Res b):(r.bind k).bind l=r.bind fun a m=>(k a m).bind l:=by
 cases r <;> rfl
theorem Res.bind_ok'{α : Type}(r:Res α):(r.bind fun a m=>.ok a m)=r:=by cases r <;> rfl
theorem RepL.append{K:ye}{α : List ad}{H:Hp}:∀{ds es:List D}{vs ws:List V},RepL K α H ds vs->RepL K α H es ws->RepL K α H (ds++es) (vs++ws)
 |[],_,_,_,h1,h2=>by rw[RepL]at h1;subst h1;exact h2|_::_,_,_,_,h1,h2=>by
  rw[RepL]at h1;obtain⟨v,r,rfl,a,b⟩:=h1;rw[List.cons_append,RepL];exact⟨v,r++_,rfl,a,RepL.append b h2⟩
variable{α : List ad}{K:ye}{H:Hp}{d:D}{v:V}
theorem RepL.one(h:Rep K α H d v):RepL K α H [d] [v]:=by
 rw[RepL];exact⟨v,[],rfl,h,by rw[RepL]⟩
theorem RepL.get{K:ye}{α : List ad}{H:Hp}:∀{ds:List D}{vs:List V}{i:Nat}{d:D},RepL K α H ds vs->ds[i]?=aa d->∃v,vs[i]?=aa v/\Rep K α H d v
 |[],_,_,_,_,e=>by simp at e|_::_,_,0,_,h,e=>by
  rw[RepL]at h;obtain⟨v,r,rfl,a,b⟩:=h;simp at e;subst e;exact⟨v,rfl,a⟩
 |_::_,_,i+1,d,h,e=>by
  rw[RepL]at h;obtain⟨v,r,rfl,a,b⟩:=h;obtain⟨w,f,c⟩:=RepL.get (i:=i) (d:=d) b (by simpa using e);exact⟨w,by simpa using f,c⟩
variable{cl:ae->ad}{ex:XD}{gt:GV}{ta:TV}{fa:EV}{n:Nat}{σ : L2.St}
section
variable{fr:AV}
theorem zsJ{f:List V->Hp->Prop}(h:∃α ρ m,Wd K cl α m H/\RepE K α H ρ σ /\ PQ K cl ex (zc6 n fr gt ta fa ρ m) α H fun ds α' _ H'=>∀vs,RepL K α' H' ds vs->f vs H') : zuP n (tDI K cl ex fr) (tDG K cl ex gt) (tDT K cl ex ta) (tD K cl ex fa) f σ H:=by
 obtain⟨α,ρ,m,W,hr,h⟩:=h;refine⟨α,ρ,m,W,hr,PQ.mono (Ext.refl W) h.bind fun ds j m1 H1 E1 B q J G=>?_⟩;obtain⟨U,q⟩:=PQ.if q;have hr1:=hr.mono W E1;refine zmZ (k:=ds.length) (fun i ys c=>∃a m2 done,Ext j H1 a c/\Wd K cl a m2 c/\RepL K a c done ys/\done.length<=i/\PQ K cl ex ((zgs gt ta fa (ρ ++ yn n ab) (ds.drop i) m2).bind fun xs M=>.ok (done++xs) M) a c fun ds α' _ H'=>∀vs,RepL K α' H' ds vs->f vs H') U ?_ ?_ ?_ ?_
 ·refine⟨j,m1,[],Ext.refl B,B,by rw[RepL],yh _,?_⟩;simp only[ybP,ybM,Res.bind_ok'];exact q
 ·rintro i ys c ⟨_,_,done,_,_,r,l,_⟩;rw[<- r.length];exact l
 ·rintro i ys c hi ⟨a,m2,done,s,w,r2,l2,o⟩;have hd:ds[i]?=aa ds[i]:=by simp[hi]
  obtain⟨g1,X⟩:=(G i a m2 c s w).1 _ hd;refine⟨g1,fun x H3 y=>?_⟩;obtain⟨S,R⟩:=X x H3 y;have p:=Ext.of_same w S;have A:=w.same S;rw[ybN hi,zgs,Res.bind_assoc]at o;have e:=s.trans p;refine⟨a,ρ ++ yn n ab,m2,ds[i],A,(hr1.mono B e).more n,R,PQ.mono p o.bind fun t N M H4 E4 Z C L hr4=>?_⟩;rw[Res.bind_assoc]at C;refine tDT.use Z hr4 C fun g F H5 b E5 z hr5 q5=>?_;have E:=E4.trans E5;cases b with
  |false=>exact⟨g,F,done,e.trans E,z,(r2.mono w p).mono A E,ybQ l2,q5⟩|true=>
   have Q:PQ K cl ex (((fa t F).bind fun x T=>(zgs gt ta fa (ρ ++ yn n ab) (ds.drop (i+1)) T).bind fun xs M=>.ok (x::xs) M).bind fun xs M=>.ok (done++xs) M) g H5 fun ds α' _ H'=>∀vs,RepL K α' H' ds vs->f vs H':=q5;rw[Res.bind_assoc]at Q;refine tD.use z hr5 Q fun u P H6 d v I Y hr6 O q6=>?_;rw[Res.bind_assoc]at q6;refine⟨u,P,done++[d],e.trans (E.trans I),Y,RepL.append (((r2.mono w p).mono A E).mono z I) (RepL.one O),by rw[yI];show done.length+1<=i+1;omega,?_⟩;simp only[yaq,yc1];exact q6
 ·rintro ys c ⟨a,m2,done,s,w,r2,l2,o⟩;rw[ybO (yh _),zgs]at o;refine⟨(G ds.length a m2 c s w).2 rfl,?_⟩;have D:PQ K cl ex (.ok (done++[]) m2) a c fun ds α' _ H'=>∀vs,RepL K α' H' ds vs->f vs H':=o;rw[yas]at D;exact PQ.ok w D ys r2
end
def gL1(ds:List D)(m:Sto):Res D := .ok (.lst ds) m
def zgR(z:ae):List D:=(yJ z.cps.size).map fun i=>.str ⟨#[z.cps.getD i 0]⟩
def zm6(d:D)(m:Sto):Res (List D):=match d with
 |.tup ds=>.ok ds m|.lst ds=>.ok ds m|.str z=>.ok (zgR z) m|.scr ds=>.ok ds m|_=>.bad
def aIt(f:EV):AV:=fun ρ m=>(f ρ m).bind zm6
def zdj(lo:Int)(n:Nat):List D:=(yJ n).map fun i=>.int (lo+(i:Nat))
def zu7(ds:List D)(m:Sto):Res (List D):=match ds with
 |[.int j]=>if -(2^62)<=j/\j<2^62 then .ok (zdj 0 j.toNat) m else .bad|_=>.bad
theorem zqa:∃f:List D->Sto->Res (List D),f=zu7:=⟨_,rfl⟩
def zpp:List D->Sto->Res (List D):=yaZ zqa
theorem zqb:zpp=zu7:=ya0 zqa
def zu6(ds:List D)(m:Sto):Res (List D):=match ds with
 |[.int i,.int j]=>if -(2^62)<=i/\i<2^62 /\ -(2^62)<=j/\j<2^62 then .ok (zdj i (j-i).toNat) m else .bad|_=>.bad
theorem zp8:∃f:List D->Sto->Res (List D),f=zu6:=⟨_,rfl⟩
def rng2:List D->Sto->Res (List D):=yaZ zp8
theorem zp9:rng2=zu6:=ya0 zp8
def znb(g:List D->Sto->Res (List D))(fr:AV):AV:=fun ρ m=>(fr ρ m).bind g
def zcJ(i:Nat):List D->List D
 |[]=>[]|d::r=>.tup [.int i,d]::zcJ (i+1) r
def asSq2(d:D)(m:Sto):Res (List D):=match d with
 |.tup ds=>.ok ds m|.lst ds=>.ok ds m|_=>.bad
def zlT(f:EV):AV:=fun ρ m=>(f ρ m).bind fun d m1=>(asSq2 d m1).bind fun ds m2=>.ok (zcJ 0 ds) m2
def zg1:List D->List D->List D
 |x::xs,y::ys=>.tup [x,y]::zg1 xs ys|_,_=>[]
def zipD3:List D->List D->List D->List D
 |x::xs,y::ys,z::zs=>.tup [x,y,z]::zipD3 xs ys zs|_,_,_=>[]
def zsD(x y:D)(m:Sto):Res (List D):=match x,y with
 |.tup xs,.tup ys=>if xs.length<=ys.length then .ok (zg1 xs ys) m else .bad|.tup xs,.lst ys=>if xs.length<=ys.length then .ok (zg1 xs ys) m else .bad|_,_=>.bad
def aZip(F f:EV):AV:=fun ρ m=>(F ρ m).bind fun x m1=>(f ρ m1).bind fun y m2=>zsD x y m2
def zip3(x y z:D)(m:Sto):Res (List D):=match x,y,z with
 |.tup xs,.tup ys,.tup zs=>if xs.length<=ys.length/\xs.length<=zs.length then .ok (zipD3 xs ys zs) m else .bad|_,_,_=>.bad
def aZip3(a F f:EV):AV:=fun ρ m=>(a ρ m).bind fun x m1=>(F ρ m1).bind fun y m2=>(f ρ m2).bind fun z M=>zip3 x y z M
theorem zlz:∀(ds:List D)(k i:Nat)(d:D),(zcJ k ds)[i]?=aa d->∃e,ds[i]?=aa e/\d = .tup [.int ((k+i:Nat):Int),e]
 |[],k,i,d,h=>by simp[zcJ]at h|e::r,k,0,d,h=>by
  simp[zcJ]at h;exact⟨e,rfl,h.symm⟩
 |e::r,k,i+1,d,h=>by
  obtain⟨f,h1,h2⟩:=zlz r (k+1) i d (by simpa [zcJ] using h);refine⟨f,by simpa using h1,?_⟩;rw[h2,show k+1+i=k+(i+1) by omega]
theorem zly:∀(ds:List D)(k:Nat),(zcJ k ds).length=ds.length
 |[],_=>rfl|_::r,k=>by rw[zcJ,yD,yD,zly r]
theorem zng:∀(xs ys:List D)(i:Nat)(d:D),(zg1 xs ys)[i]?=aa d->∃a b,xs[i]?=aa a/\ys[i]?=aa b/\d = .tup [a,b]
 |[],_,i,d,h=>by simp[zg1]at h|_::_,[],i,d,h=>by simp[zg1]at h|a::r,b::s,0,d,h=>by
  simp[zg1]at h;exact⟨a,b,rfl,rfl,h.symm⟩
 |a::r,b::s,i+1,d,h=>by
  obtain⟨x,y,h1,h2,H⟩:=zng r s i d (by simpa [zg1] using h);exact⟨x,y,by simpa using h1,by simpa using h2,H⟩
theorem znf:∀(xs ys:List D),xs.length<=ys.length->(zg1 xs ys).length=xs.length
 |[],_,_=>by simp[zg1]|_::_,[],h=>by simp at h|_::r,_::s,h=>by rw[zg1,yD,yD,znf r s (by simpa using h)]
variable{X:Cx}{a b tg it:ak}{es ifs:List ak}{fb fc:EV}{tb:TV}{pos p:ay}
section
variable{N0:List ae}{c e:ak}{fr:AV}{scope:aG}{xs:List ae}{clo:List (ae×ad)}
theorem zck(k:X.calm=ac)(c:X.xe=fun _ _=>False)(S:CompOk X N0 scope xs clo)(hi:QI X cl ex tg it fr)(f:∀C s H fp,QG (X.comp N0 scope xs clo C s H fp) cl ex tg gt)(i:∀C s H fp,PIf (X.comp N0 scope xs clo C s H fp) ifs (tDT X.K cl ex ta))(j:∀C s H fp,QE (X.comp N0 scope xs clo C s H fp) cl ex e fa)(hs:autoParam (∀x,bi it X.env x=pure x) AutoP.a2._auto_1):QE X cl ex (.ListComp e [⟨tg,it,ifs,0⟩] scope pos) (eFn gL1 (zc6 xs.length fr gt ta fa)) :=
 ⟨PE.weak (zqx (g:=tDG X.K cl ex gt) (tf:=tDT X.K cl ex ta) (te:=tD X.K cl ex fa) k c S hi.out (fun C s H fp=>(f C s H fp).out) i (fun C s H fp=>(j C s H fp).out) hs) fun σ H Q d=>ex3 d fun α ρ m W hr h=>zsJ ⟨α,ρ,m,W,hr,PQ.mono (Ext.refl W) h.bind fun ds b m1 l E w q vs r p a=>PQ.okS w (Same.new a) q _ (zcj w a r)⟩⟩
theorem zb0:PIf X [] (tDT X.K cl ex zcf):=fun pins s σ H Q I a=>ex3 a fun α ρ m W hr h=>zvA pins s σ H Q I (PQ.ok W h)
theorem zjJ(h:QT X cl ex c ta):PIf X [c] (tDT X.K cl ex ta):=zvz h.out
theorem PI.or{t t':TI}(h:PI X tg it t)(h':PI X tg it t'):PI X tg it fun σ H R=>t σ H R∨t' σ H R:=fun pins s σ H R I q=>q.elim (h pins s σ H R I) (h' pins s σ H R I)
end
variable{c:Exc}{f:EV}{Q:List V->Hp->Prop}{τ : Type}{R:RD τ}{ds:List D}{vs:List V}
section
variable{α':List ad}{m m1:Sto}{H':Hp}{ρ : En}
theorem tD.at{Q:VK}(W:Wd K cl α m H)(hr:RepE K α H ρ σ)(h:f ρ m = .ok d m1)(b:∀a H1 v,Ext α H a H1->Wd K cl a m1 H1->RepE K a H1 ρ σ -> Rep K a H1 d v->Q v H1):tD K cl ex f σ H Q :=
 ⟨α,ρ,m,W,hr,by rw[h];exact fun a H1 E w v r=>b a H1 v E w (hr.mono W E) r⟩
theorem tDA.at{f:AV}{d:List D}(W:Wd K cl α m H)(hr:RepE K α H ρ σ)(h:f ρ m = .ok d m1)(b:∀a H1 v,Ext α H a H1->Wd K cl a m1 H1->RepE K a H1 ρ σ -> RepL K a H1 d v->Q v H1):tDA K cl ex f σ H Q :=
 ⟨α,ρ,m,W,hr,by rw[h];exact fun a H1 E w v r=>b a H1 v E w (hr.mono W E) r⟩
theorem tD.exc{k:D->Sto->Res τ}{Q:VK}(W:Wd K cl α m H)(hr:RepE K α H ρ σ)(h:f ρ m = .exc c m1)(q:PQ K cl ex ((f ρ m).bind k) α H R):tD K cl ex f σ H Q :=
 ⟨α,ρ,m,W,hr,by rw[h]at q ⊢;exact q⟩
theorem tDA.exc{f:AV}{k:List D->Sto->Res τ}(W:Wd K cl α m H)(hr:RepE K α H ρ σ)(h:f ρ m = .exc c m1)(q:PQ K cl ex ((f ρ m).bind k) α H R):tDA K cl ex f σ H Q :=
 ⟨α,ρ,m,W,hr,by rw[h]at q ⊢;exact q⟩
theorem itd_l{l:ad}(W:Wd K cl α m H)(n:l∉α)(h:Rd H l (.lst vs))(r:RepL K α H ds vs):ItD K cl α H (Itl K l) ds:=fun i b m1 f E w=>by
 have sq:SqL K f l vs := .inl (E.rd h n);refine⟨fun d e=>?_,fun e=>⟨vs,sq,by rw[e,r.length];exact yh _⟩⟩;obtain⟨v,a,c⟩:=(r.mono W E).get e;refine⟨⟨vs,v,sq,a⟩,fun x g y=>?_⟩;obtain⟨rfl,y⟩:=y;have:=y vs sq;rw[a]at this;cases this;exact⟨Same.refl _,c⟩
theorem itd_s{l:ad}(W:Wd K cl α m H)(h:LstAt K α H l vs)(r:RepL K α H ds vs):ItD K cl α H (Itl K l) ds:=fun i b m1 f E w=>by
 have sq:SqL K f l vs:=((E.kp W).lstAt h).sq;refine⟨fun d e=>?_,fun e=>⟨vs,sq,by rw[e,r.length];exact yh _⟩⟩;obtain⟨v,a,c⟩:=(r.mono W E).get e;refine⟨⟨vs,v,sq,a⟩,fun x g y=>?_⟩;obtain⟨rfl,y⟩:=y;have:=y vs sq;rw[a]at this;cases this;exact⟨Same.refl _,c⟩
theorem itd_t{l:ad}(W:Wd K cl α m H)(h:SqT K H l vs)(r:RepL K α H ds vs):ItD K cl α H (Itt K l) ds:=fun i b m1 f E w=>by
 have sq:SqT K f l vs:=E.sqt W h;refine⟨fun d e=>?_,fun e=>⟨vs,sq,by rw[e,r.length];exact yh _⟩⟩;obtain⟨v,a,c⟩:=(r.mono W E).get e;refine⟨⟨vs,v,sq,a⟩,fun x g y=>?_⟩;obtain⟨rfl,y⟩:=y;have:=y vs sq;rw[a]at this;cases this;exact⟨Same.refl _,c⟩
theorem itd_f{f:Nat->V}{g:Nat->D}(h:∀i α H,Rep K α H (g i) (f i)):ItD K cl α H (Itf f n) ((yJ n).map g):=fun i a m1 c E W=>by
 refine⟨fun d e=>?_,fun e=>by rw[yj,ybb]at e;exact e⟩;obtain⟨hi,e⟩:=yi.mp e;rw[yj,ybb]at hi;simp only[ydV,ydW]at e;subst e;refine⟨hi,fun x b y=>?_⟩;obtain⟨rfl,rfl⟩:=y;exact⟨Same.refl _,h _ _ _⟩
theorem itd_r{lo:Int}:ItD K cl α H (Itr lo n) (zdj lo n):=fun i a m1 b E W=>by
 unfold zdj;refine⟨fun d e=>?_,fun e=>by rw[yj,ybb]at e;exact yb2 e.symm⟩;obtain⟨hi,e⟩:=yi.mp e;rw[yj,ybb]at hi;simp only[ydV,ydW]at e;subst e;refine⟨hi,fun x h y=>?_⟩;obtain⟨rfl,rfl⟩:=y;exact⟨Same.refl _,by rw[Rep]⟩
theorem zbQ{T:ad}(W:Wd K cl α m H)(h:H T=ab)(r:RepL K α H ds vs):Rep K α (upd H T (.tup vs)) (.tup ds) (.ref T):=by
 rw[Rep];exact⟨T,vs,rfl,.inl zaD,r.mono W (Ext.of_same W (Same.new h))⟩
theorem RepL.two{e:D}{w:V}(h:Rep K α H d v)(h':Rep K α H e w):RepL K α H [d,e] [v,w]:=RepL.append (RepL.one h) (RepL.one h')
def zsB(K:ye)(cl:ae->ad)(c:CQ)(α : List ad)(H:Hp)(l:ad)(vs:List V):Prop:=∀α1 m1 H1,Ext α H α1 H1->Wd K cl α1 m1 H1->c K H1 l vs
theorem itd_e{c:CQ}{l:ad}(W:Wd K cl α m H)(h:zsB K cl c α H l vs)(r:RepL K α H ds vs):ItD K cl α H (IteQ c K l) (zcJ 0 ds):=fun i a m1 o E w=>by
 have sq:=h a m1 o E w;refine⟨fun d e=>?_,fun e=>⟨vs,sq,by rw[e,zly,r.length]⟩⟩;obtain⟨f,n,rfl⟩:=zlz ds 0 i d e;obtain⟨v,g,k⟩:=(r.mono W E).get n;refine⟨⟨vs,v,sq,g⟩,fun x p y=>?_⟩;obtain⟨T,y,b,rfl,j,rfl⟩:=y;have:=j vs sq;rw[g]at this;cases this;refine⟨Same.new b,zbQ w b (RepL.two (by rw[Rep,yL]) k)⟩
theorem itd_z{c1 C:CQ}{l1 l2:ad}{xs ys:List D}{us:List V}(W:Wd K cl α m H)(h:zsB K cl c1 α H l1 vs)(h':zsB K cl C α H l2 us)(r:RepL K α H xs vs)(r':RepL K α H ys us)(hl:xs.length<=ys.length):ItD K cl α H (zpo c1 C K l1 l2) (zg1 xs ys):=fun i a m1 k E w=>by
 have sq:=h a m1 k E w;have s:=h' a m1 k E w;refine⟨fun d e=>?_,fun e=>⟨vs,sq,by rw[e,znf _ _ hl,r.length]⟩⟩;obtain⟨x,y,t,q,rfl⟩:=zng xs ys i d e;obtain⟨v,f,p⟩:=(r.mono W E).get t;obtain⟨u,c,o⟩:=(r'.mono W E).get q;refine⟨⟨vs,us,v,u,sq,s,f,c⟩,fun x z y=>?_⟩;obtain⟨T,x,y,b,rfl,n,l,rfl⟩:=y;have j:=n vs sq;have g:=l us s;rw[f]at j;rw[c]at g;cases j;cases g;exact⟨Same.new b,zbQ w b (RepL.two p o)⟩
theorem zjn{l:ad}(W:Wd K cl α m H)(h:SqT K H l vs):zsB K cl SqT α H l vs:=fun a m1 b E w=>E.sqt W h
theorem zpP{l:ad}(n:l∉α)(h:Rd H l (.lst vs)):zsB K cl SqL α H l vs:=fun a m1 b E W=>.inl (E.rd h n)
end
section
variable{c e:ak}{fr:AV}
theorem zec(j:QE X cl ex e fa):QI X cl ex tg e (aIt fa) :=
 ⟨PI.weak (PI.or (zqu j.out) (PI.or (pi_tup j.out) (pi_txt j.out))) fun σ H R k=>ex3 k fun α ρ m W hr q=>by
  unfold aIt at q;cases b:fa ρ m with
  |bad=>rw[b]at q;exact q.elim|exc c m1=>exact .inl (tD.exc W hr b q)|ok d m1=>
   rw[b]at q;cases d with
   |lst ds=>
    refine .inl (tD.at W hr b fun a f v E w hr1 r=>?_);rw[Rep]at r;obtain⟨l,vs,rfl,n,h,g⟩:=r;exact⟨l,rfl,⟨vs,.inl h⟩,q a f E w _ (itd_l w n h g)⟩
   |tup ds=>
    refine .inr (.inl (tD.at W hr b fun a f v E w hr1 r=>?_));rw[Rep]at r;obtain⟨l,vs,rfl,h,g⟩:=r;exact⟨l,rfl,⟨vs,h.sq⟩,q a f E w _ (itd_t w h.sq g)⟩
   |str z=>
    refine .inr (.inr (tD.at W hr b fun a f v E w hr1 r=>?_));rw[Rep]at r;exact⟨z,r,q a f E w _ (itd_f fun i α H=>by rw[Rep];rfl)⟩
   |scr ds=>
    refine .inl (tD.at W hr b fun a f v E w hr1 r=>?_);rw[Rep]at r;obtain⟨l,vs,rfl,h,g⟩:=r;exact⟨l,rfl,⟨vs,h.sq⟩,q a f E w _ (itd_s w h g)⟩
   |_=>exact q.elim⟩
theorem ze2(f:Gl X "range")(hm:X.mg "range" = ab)(ha:QA X cl ex [a] fr)(hs:autoParam (au [a] X.env=[(ag,eval a X.env)]) AutoP.a3._auto_1):QI X cl ex tg (.Call (.Name "range" p) [a] [] pos) (znb zpp fr) :=
 ⟨PI.weak (zqt f hm ha.out hs) fun σ H R e=>ex3 e fun α ρ m W hr q=>tDA.use W hr q fun c m1 i d v E w hr1 b Q=>by
  rw[zqb]at Q;unfold zu7 at Q;split at Q
  ·obtain⟨h,g⟩:=PQ.if Q;rw[RepL]at b;obtain⟨v,r,rfl,a1,a2⟩:=b;rw[Rep]at a1;rw[RepL]at a2;subst a1 a2;exact⟨_,rfl,h.1,h.2,PQ.ok w g _ itd_r⟩
  ·exact Q.elim⟩
theorem zvd(g:Gl X "range")(hm:X.mg "range" = ab)(ha:QA X cl ex [a,b] fr)(hs:autoParam (au [a,b] X.env=[(ag,eval a X.env),(ag,eval b X.env)]) AutoP.a3._auto_1)(h:autoParam (au [b] X.env=[(ag,eval b X.env)]) AutoP.a3._auto_1):QI X cl ex tg (.Call (.Name "range" p) [a,b] [] pos) (znb rng2 fr) :=
 ⟨PI.weak (zqs g hm ha.out hs h) fun σ H R f=>ex3 f fun α ρ m W hr q=>tDA.use W hr q fun e m1 k d v E w hr1 c Q=>by
  rw[zp9]at Q;unfold zu6 at Q;split at Q
  ·obtain⟨j,i⟩:=PQ.if Q;rw[RepL]at c;obtain⟨v,r,rfl,a1,c⟩:=c;rw[RepL]at c;obtain⟨V,r',rfl,a2,c⟩:=c;rw[RepL]at c;rw[Rep]at a1 a2;subst a1 a2 c;exact⟨_,_,rfl,j,PQ.ok w i _ itd_r⟩
  ·exact Q.elim⟩
variable{elts:List ak}{kt:Nat}{pt:ay}
theorem zhx(j:Gl X "enumerate")(hm:X.mg "enumerate" = ab)(i:QE X cl ex e fa)(hs:autoParam (au [e] X.env=[(ag,eval e X.env)]) AutoP.a3._auto_1):QI X cl ex (.Tuple elts kt pt) (.Call (.Name "enumerate" p) [e] [] pos) (zlT fa) :=
 ⟨PI.weak (PI.or (zqw j hm i.out hs) (zqv j hm i.out hs)) fun σ H R k=>ex3 k fun α ρ m W hr q=>by
  unfold zlT at q;cases h:fa ρ m with
  |bad=>rw[h]at q;exact q.elim|exc c m1=>exact .inl (tD.exc W hr h q)|ok d m1=>
   rw[h]at q;cases d with
   |lst ds=>
    refine .inl (tD.at W hr h fun a g v E w hr1 r=>?_);rw[Rep]at r;obtain⟨l,vs,rfl,n,b,f⟩:=r;exact⟨l,vs,rfl,.inl b,q a g E w _ (itd_e w (zpP n b) f)⟩
   |tup ds=>
    refine .inr (tD.at W hr h fun a g v E w hr1 r=>?_);rw[Rep]at r;obtain⟨l,vs,rfl,b,f⟩:=r;exact⟨l,vs,rfl,b.sq,q a g E w _ (itd_e w (zjn w b.sq) f)⟩
   |_=>exact q.elim⟩
theorem zqk(C:Gl X "zip")(hm:X.mg "zip" = ab)(i:QE X cl ex a fa)(g:QE X cl ex b fb)(hs:autoParam (au [a,b] X.env=(ag,eval a X.env)::au [b] X.env) AutoP.a3._auto_1)(s:autoParam (au [b] X.env=[(ag,eval b X.env)]) AutoP.a3._auto_1):QI X cl ex (.Tuple elts kt pt) (.Call (.Name "zip" p) [a,b] [] pos) (aZip fa fb) :=
 ⟨PI.weak (PI.or (zqr C hm i.out g.out hs s) (zqq C hm i.out g.out hs s)) fun σ H R F=>ex3 F fun α ρ m W hr q=>by
  unfold aZip at q;cases f:fa ρ m with
  |bad=>rw[f]at q;exact q.elim|exc c m1=>exact .inl (tD.exc W hr f q)|ok d m1=>
   cases h:fb ρ m1 with
   |bad=>rw[f]at q;exact absurd q (by show ¬ PQ X.K cl ex ((fb ρ m1).bind _) _ _ _;rw[h];exact fun z=>z)|exc c m2=>
    refine .inl (tD.at W hr f fun o D v t l hr1 e=>?_);rw[f]at q;exact tD.exc (k:=fun y m2=>zsD d y m2) l hr1 h (PQ.mono t q fun _ _ _ _ _ _ z=>z)
   |ok G m2=>
    rw[f]at q;have B:PQ X.K cl ex ((fb ρ m1).bind fun y m2=>zsD d y m2) α H fun ds α' _ H'=>∀J,ItD X.K cl α' H' J ds->R J H':=q;rw[h]at B;have Q:PQ X.K cl ex (zsD d G m2) α H fun ds α' _ H'=>∀J,ItD X.K cl α' H' J ds->R J H':=B;unfold zsD at Q;split at Q
    ·obtain⟨hl,x⟩:=PQ.if Q;refine .inr (tD.at W hr f fun o D v t l hr1 e=>tD.at l hr1 h fun j A V E w hr2 r=>?_);have e:=e.mono l E;rw[Rep]at e r;obtain⟨l1,vs,rfl,i,u⟩:=e;obtain⟨l2,us,rfl,g,r2⟩:=r;exact⟨l1,l2,vs,us,rfl,i.sq,g.sq,x j A (t.trans E) w _ (itd_z w (zjn w i.sq) (zjn w g.sq) u r2 hl)⟩
    ·obtain⟨hl,x⟩:=PQ.if Q;refine .inl (tD.at W hr f fun o D v t l hr1 e=>tD.at l hr1 h fun j A V E w hr2 r=>?_);have e:=e.mono l E;rw[Rep]at e;rw[Rep]at r;obtain⟨l1,vs,rfl,i,u⟩:=e;obtain⟨l2,us,rfl,n,g,r2⟩:=r;exact⟨l1,l2,vs,us,rfl,i.sq,.inl g,x j A (t.trans E) w _ (itd_z w (zjn w i.sq) (zpP n g) u r2 hl)⟩
    ·exact Q.elim⟩
end
def zi8(f:Fl)(m:Sto):Res D:=match f with
 |.nx _=>.ok .non m|.rt d=>.ok d m|_=>.bad
def zaU(n:Nat)(b:SV):List D->Sto->Res D:=fun ds m=>(b (ds.map aa++yn (n-ds.length) ab) m).bind zi8
def spD(K:ye)(cl:ae->ad)(ex:XD)(n:Nat)(g:List D->Sto->Res D):Sp:=fun vs H Q _=>vs.length=n/\∃α m ds,Wd K cl α m H/\RepL K α H ds vs/\PQ K cl ex (g ds m) α H fun d α' _ H'=>∀v,Rep K α' H' d v->Q v H'
variable{N:List ae}
theorem zoK:∀{ds:List D}{vs:List V},RepL K α H ds vs->RepE K α H (ds.map aa++yn (N.length-ds.length) ab) (L2.start N vs):=by
 intro ds vs r;unfold L2.start;rw[r.length];refine RepE.more ⟨by rw[yj,yj,r.length],fun i d e=>?_⟩ _;rw[yW]at e;cases h:ds[i]? with
 |none=>rw[h]at e;cases e|some d'=>
  rw[h]at e;cases e;obtain⟨v,b,a⟩:=r.get h;exact⟨v,by rw[yW,b];rfl,a⟩
theorem fn_d{b:SV}{Q:VK}{E:XK}(h:spD K cl ex n (zaU N.length b) vs H Q E):tDS K cl ex b { nx:=fun _ H'=>Q .non H',rt:=Q } (L2.start N vs) H:=by
 obtain⟨_,α,m,ds,W,r,q⟩:=h;refine⟨α,_,m,W,zoK r,PQ.mono (Ext.refl W) q.bind fun f c m1 e g w a=>?_⟩;cases f with
 |nx ρ=>exact fun σ _=>PQ.ok w a _ (by rw[Rep])|rt d=>exact PQ.ok w a|bk ρ=>exact a.elim|ct ρ=>exact a.elim
def X0:XD:=fun _ _ _ _=>False
theorem zvi{e:ak}{fr:AV}{x:ae}{k:Nat}{f:ad}{fd:aH}{ps:List ae}{g:List D->Sto->Res D}(F:FnOk X.prog X.w X.K X.mg X.base CX0 k f fd ps (spD X.K cl X0 n g))(hn:n=(e::es).length)(hr:Room k X.A)(q:Gl X x)(hm:X.mg x=aa (.ref f))(l:yaK X.K (.ref f)=ac)(t:Binds X.K fd ps [])(ha:QA X cl X0 (e::es) fr)(a:∀ρ m ds m1,fr ρ m = .ok ds m1->ds.length=(e::es).length)(j:autoParam ((x==("__debug__" : ae))=ag) AutoP.a1._auto_1)(s:autoParam (au (e::es) X.env=(ag,eval e X.env)::au es X.env) AutoP.a3._auto_1)(i:autoParam ((aB pos (au es X.env)).any (·.1)=ag) AutoP.a3._auto_1) : QE X cl X0 (.Call (.Name x p) (e::es) [] pos) (eFn g fr) :=
 ⟨PE.weak (zvJ (E:=E0) F hr q hm l t .nil ztt ha.out j s i) fun σ H Q o=>ex3 o fun α ρ m W hr h=>by
  unfold eFn at h;cases b:fr ρ m with
  |bad=>rw[b]at h;exact h.elim|exc c m1=>exact tDA.exc W hr b h|ok ds m1=>
   rw[b]at h;refine tDA.at W hr b fun d y v u w hr1 r=>?_;refine⟨?_,d,m1,ds,w,by rw[yas];exact r,PQ.mono u h fun _ _ _ _ _ _ z=>z⟩;rw[yas,<- r.length,a ρ m ds m1 b,hn]⟩
theorem aNil_len:∀ρ m ds m1,zaj ρ m = .ok ds m1->ds.length=([]:List ak).length:=fun ρ m ds m1 h=>by cases h;rfl
theorem aCons_len{fr:AV}{e:ak}(h:∀ρ m ds m1,fr ρ m = .ok ds m1->ds.length=es.length):∀ρ m ds m1,zac fa fr ρ m = .ok ds m1->ds.length=(e::es).length:=fun ρ m ds m1 q=>by
 unfold zac at q;cases H:fa ρ m with
 |ok x m2=>
  rw[H]at q;have q:((fr ρ m2).bind fun xs M=>Res.ok (x::xs) M) = .ok ds m1:=q;cases hr:fr ρ m2 with
  |ok xs M=>rw[hr]at q;cases q;rw[yD,yD,h ρ m2 xs _ hr]|_=>rw[hr]at q;cases q
 |_=>rw[H]at q;cases q
end MD
namespace L2
open PySem PySem.Spec PyProof.Rows
section
variable{X:Cx}
def rCatQ(K:ye):R2:=fun x y H Q=>∃a b xs ys,x = .ref a/\y = .ref b/\MD.TupAt K H a xs/\MD.TupAt K H b ys/\xs.length+ys.length<=sizeLine/\∀r H',MD.TupAt K H' r (xs++ys)->Same H H'->Q (.ref r) H'
end
end L2
namespace MD
open PySem PySem.Spec PyProof.Rows L2
def zbN(x y:D)(m:Sto):Res D:=match x,y with
 |.int i,.int j=>.ok (.int (i+j)) m|.str a,.str b=>if a.length+b.length<=sizeLine then .ok (.str (a++b)) m else .bad|.tup a,.tup b=>if a.length+b.length<=sizeLine then .ok (.tup (a++b)) m else .bad|.lst a,.lst b=>if a.length+b.length<=sizeLine then .ok (.lst (a++b)) m else .bad|_,_=>.bad
def zc8(x y:D)(m:Sto):Res D:=match x,y with
 |.int i,.int j=>.ok (.int (i-j)) m|_,_=>.bad
def mulR(x y:D)(m:Sto):Res D:=match x,y with
 |.int i,.int j=>if (-(2^64)<i/\i<2^64)∨(-(2^64)<j/\j<2^64) then .ok (.int (i*j)) m else .bad|.str z,.int n=>if 0<=n/\n<=1000/\z.length<=1000 then .ok (.str (Txt.mul z n)) m else .bad|.tup [d],.int n=>if 1<=n/\n<=1000 then .ok (.tup (yn n.toNat d)) m else .bad|_,_=>.bad
theorem zq8:∃f:D->D->Sto->Res D,f=mulR:=⟨_,rfl⟩
def zez:D->D->Sto->Res D:=yaZ zq8
theorem zhL:zez=mulR:=ya0 zq8
def zwp(x y:D)(m:Sto):Res D:=match x,y with
 |.int i,.int j=>if 0<j/\j<2^64 then .ok (.int (i/j)) m else .bad|_,_=>.bad
theorem zoe:∃f:D->D->Sto->Res D,f=zwp:=⟨_,rfl⟩
def zlv:D->D->Sto->Res D:=yaZ zoe
theorem zof:zlv=zwp:=ya0 zoe
def zfv(x y:D)(m:Sto):Res D:=match x,y with
 |.int i,.int j=>if 0<j then .ok (.int (i%j)) m else .bad|_,_=>.bad
def zvt(x y:D)(m:Sto):Res D:=match x,y with
 |.int i,.int j=>if 0<=j/\j<=1000000/\i.natAbs<2^64 then .ok (.int (i^j.toNat)) m else .bad|_,_=>.bad
theorem zqn:∃f:D->D->Sto->Res D,f=zvt:=⟨_,rfl⟩
def znI:D->D->Sto->Res D:=yaZ zqn
theorem zhy:znI=zvt:=ya0 zqn
def shlR(x y:D)(m:Sto):Res D:=match x,y with
 |.int i,.int j=>if 0<=j/\j<=1000000/\i.natAbs<2^64 then .ok (.int (i*2^j.toNat)) m else .bad|_,_=>.bad
theorem zpS:∃f:D->D->Sto->Res D,f=shlR:=⟨_,rfl⟩
def zjq:D->D->Sto->Res D:=yaZ zpS
theorem zpT:zjq=shlR:=ya0 zpS
def shrD(x y:D)(m:Sto):Res D:=match x,y with
 |.int i,.int j=>if 0<=j then .ok (.int (i/2^j.toNat)) m else .bad|_,_=>.bad
def andD(x y:D)(m:Sto):Res D:=match x,y with
 |.int i,.int j=>.ok (.int (ybD i j)) m|_,_=>.bad
def zv0(x:D)(m:Sto):Res D:=match x with
 |.int i=>.ok (.int (-i)) m|_=>.bad
variable{X:Cx}{K:ye}{cl:ae->ad}{ex:XD}{α : List ad}{H:Hp}{i:Int}{z:ae}
section
theorem zfU:Rep K α H (.int i) (.int i):=by rw[Rep]
theorem zva{i:ae}:Rep K α H (.str i) (.str i):=by rw[Rep]
theorem zkE{i:Bool}:Rep K α H (.bl i) (.bl i):=by rw[Rep]
theorem repN:Rep K α H .non .non:=by rw[Rep]
theorem zbg:OpD K cl ex (rI0 fun i j=>.int (i-j)) zc8:=fun α m H x y V v Q W R r h=>by
 unfold zc8 at h;split at h
 ·rw[Rep]at R r;exact⟨_,_,R,r,PQ.ok W h _ zfU⟩
 ·exact h.elim
theorem zmC:OpD K cl ex (rI (fun _ j=>0<j/\j<2^64) fun i j=>.int (i/j)) zlv:=fun α m H x y V v Q W R r h=>by
 rw[zof]at h;unfold zwp at h;split at h
 ·rw[Rep]at R r;obtain⟨a,h⟩:=PQ.if h;exact⟨_,_,R,r,a,PQ.ok W h _ zfU⟩
 ·exact h.elim
theorem zb2:OpD K cl ex (rI (fun _ j=>0<j) fun i j=>.int (i%j)) zfv:=fun α m H x y V v Q W R r h=>by
 unfold zfv at h;split at h
 ·rw[Rep]at R r;obtain⟨a,h⟩:=PQ.if h;exact⟨_,_,R,r,a,PQ.ok W h _ zfU⟩
 ·exact h.elim
theorem zgC:OpD K cl ex (rI CPow fun i j=>.int (i^j.toNat)) znI:=fun α m H x y V v Q W R r h=>by
 rw[zhy]at h;unfold zvt at h;split at h
 ·rw[Rep]at R r;obtain⟨a,h⟩:=PQ.if h;exact⟨_,_,R,r,a,PQ.ok W h _ zfU⟩
 ·exact h.elim
theorem zdb:OpD K cl ex (rI CPow fun i j=>.int (i*2^j.toNat)) zjq:=fun α m H x y V v Q W R r h=>by
 rw[zpT]at h;unfold shlR at h;split at h
 ·rw[Rep]at R r;obtain⟨a,h⟩:=PQ.if h;exact⟨_,_,R,r,a,PQ.ok W h _ zfU⟩
 ·exact h.elim
theorem od_shr:OpD K cl ex (rI (fun _ j=>0<=j) fun i j=>.int (i/2^j.toNat)) shrD:=fun α m H x y V v Q W R r h=>by
 unfold shrD at h;split at h
 ·rw[Rep]at R r;obtain⟨a,h⟩:=PQ.if h;exact⟨_,_,R,r,a,PQ.ok W h _ zfU⟩
 ·exact h.elim
theorem od_and:OpD K cl ex (rI0 fun i j=>.int (ybD i j)) andD:=fun α m H x y V v Q W R r h=>by
 unfold andD at h;split at h
 ·rw[Rep]at R r;exact⟨_,_,R,r,PQ.ok W h _ zfU⟩
 ·exact h.elim
theorem znn:UnD K cl ex (rU fun i=>.int (-i)) zv0:=fun α m H x v Q W r h=>by
 unfold zv0 at h;split at h
 ·rw[Rep]at r;exact⟨_,r,PQ.ok W h _ zfU⟩
 ·exact h.elim
theorem zvS:OpR X (aE .Add) (rCatQ X.K):=by
 intro pins s σ H x y v u Q I R r h;obtain⟨a,b,xs,ys,rfl,rfl,ha,g,o,q⟩:=h;by_cases j:xs=[]
 ·subst j;cases R;cases r;obtain⟨its,m,P,_⟩:=I.tuple ha.sq;obtain⟨i,r2,p2,_⟩:=I.tuple g.sq;cases m;obtain⟨⟨cls,w,data,sl⟩,k,l,n,hd⟩:=id P;obtain⟨⟨C,D,data2,S⟩,c,f,N,d⟩:=id p2;simp only at l hd f d;subst l hd f d;exact concat_meets ⟨_,k,rfl⟩ ⟨_,c,rfl⟩ cf cg ycJ ycK (ycL _ _)
   (tuple_addW0 a b #[] i.toArray n N w D sl S rfl) ⟨k,c,⟨.ref b,H,I,rfl,q b H (by rw[ybP];exact g) (L2.Same.refl H)⟩⟩
 ·refine zvQ pins s σ H (.ref a) (.ref b) v u Q I R r ⟨a,b,xs,ys,rfl,rfl,ha.sq,g.sq,j,o,fun e=>?_,fun _ p t=>?_⟩
  ·subst e;exact q a H (by rw[yas];exact ha) (L2.Same.refl H)
  ·exact q p _ (.inl zaD) (MD.Same.new t)
def rCatR:R2:=fun x y H Q=>∃l b xs zs,x = .ref l/\y = .ref b/\Rd H l (.lst xs)/\Rd H b (.lst zs)/\xs.length+zs.length<=sizeLine/\∀p,H p=ab->Q (.ref p) (upd H p (.lst (xs++zs)))
theorem zvR:OpR X (aE .Add) rCatR:=by
 intro pins s σ H x y v u Q I a R h;obtain⟨l,b,xs,Z,rfl,rfl,c,d,j,q⟩:=h;cases a;cases R;obtain⟨z,its,n,r,e⟩:=c.ok I.hok;obtain⟨g,i,N,r2,f⟩:=d.ok I.hok;have hl:=r.length;have hl2:=r2.length;refine PySem.P.add_list e f ?_ (by rw[yM,yM];omega);have E:its.toArray++i.toArray=(its++i).toArray:=by simp
 rw[E];exact⟨.ref _,_,I.lnew (t':=s.toks) (r.append r2) (by rw[yI];omega),rfl,q _ I.fresh⟩
def rAddA(K:ye):R2:=fun x y H Q=>(rI0 (fun i j=>.int (i+j))) x y H Q∨(∃i j,x = .str i/\y = .str j/\i.length+j.length<=sizeLine/\Q (.str (i++j)) H)∨rCatQ K x y H Q∨rCatR x y H Q
theorem zaB:OpR X (aE .Add) (rAddA X.K):=OpR.or op_add (OpR.or zoO (OpR.or zvS zvR))
theorem zaH:OpD K cl ex (rAddA K) zbN:=fun α m H x y V v Q W c R h=>by
 unfold zbN at h;split at h
 ·rw[Rep]at c R;exact .inl ⟨_,_,c,R,PQ.ok W h _ zfU⟩
 ·rw[Rep]at c R;obtain⟨e,h⟩:=PQ.if h;exact .inr (.inl ⟨_,_,c,R,e,PQ.ok W h _ zva⟩)
 ·obtain⟨e,h⟩:=PQ.if h;rw[Rep]at c R;obtain⟨a,xs,rfl,g,d⟩:=c;obtain⟨b,ys,rfl,f,r2⟩:=R;refine .inr (.inr (.inl ⟨a,b,xs,ys,rfl,rfl,g,f,by rw[<- d.length,<- r2.length];exact e,fun r H' hr s=>?_⟩));exact PQ.okS W s h _ (by rw[Rep];exact⟨r,_,rfl,hr,(RepL.append d r2).mono W (Ext.of_same W s)⟩)
 ·obtain⟨e,h⟩:=PQ.if h;rw[Rep]at c R;obtain⟨a,xs,rfl,n1,g,d⟩:=c;obtain⟨b,ys,rfl,n,f,r2⟩:=R;refine .inr (.inr (.inr ⟨a,b,xs,ys,rfl,rfl,g,f,by rw[<- d.length,<- r2.length];exact e,fun p i=>?_⟩));exact PQ.okS W (Same.new i) h _ (zcj W i (RepL.append d r2))
 ·exact h.elim
def rMulQ(K:ye):R2:=fun x y H Q=>∃a v n,x = .ref a/\y = .int n/\TupAt K H a [v]/\1<=n/\n<=1000/\∀r H',TupAt K H' r (yn n.toNat v)->L2.Same H H'->Q (.ref r) H'
theorem zvP:OpR X (aE .Mult) (rMulQ X.K):=by
 intro pins s σ H x y v u Q I R r h;obtain⟨a,w,n,rfl,rfl,ha,n1,N,q⟩:=h;cases R;obtain⟨t,rfl⟩:=r;obtain⟨its,i,p,_⟩:=I.tuple ha.sq;obtain⟨u,rfl,g⟩:=zcB i;obtain⟨⟨cls,d,data,sl⟩,c,f,k,hd⟩:=id p;simp only at f hd;subst f hd;refine wpAny_binaryOp_repeat_ref (by decide) ⟨_,c,rfl⟩ (fun S=>typeIs_int S n t) zgY F.fills_int_mul F.slot_int_rmul zkA F.slot_int_index.lookup
  (bF F.slot_int_rmul (typeIs_int s n t) F.entry_int_rmul (F.args_int_rmul_2 _ _) (zld n t a _ k d sl) ⟨c,rfl,⟨_,c,rfl⟩,?_⟩)
 by_cases e:n=1
 ·subst e;exact bF yck ⟨_,c,rfl⟩ F.entry_tuple_mul (F.args_tuple_mul_2 _ _) (zsH a u t k d sl) ⟨c,⟨.ref a,H,I,rfl,q a H ha (L2.Same.refl H)⟩⟩
 ·refine bF yck ⟨_,c,rfl⟩ F.entry_tuple_mul (F.args_tuple_mul_2 _ _) (zsG a u n t k d sl (by omega) N) ⟨c,?_⟩;rw[zod];have z:(yn n.toNat w).length<=sizeLine:=by
   rw[ybo];have:sizeLine=16777216:=by decide
   omega
  exact⟨.ref s.heap.objs.size,upd H s.heap.objs.size (.tup (yn n.toNat w)),I.laid (t':=s.toks) (fun b o e=>yt _ e) (yh _) ⟨z,yn n.toNat u,znj g _,⟨_,yC _ rfl,rfl,0,rfl⟩,_,yC _ rfl,rfl⟩,rfl,q _ _ (.inl zaD) (Same.new (I.hok.fresh (yh _)))⟩
theorem zmF{n:Int}(h:0<=n/\n<=1000/\z.length<=1000):MulOk z n:=by
 obtain⟨f,e,a⟩:=h;refine⟨by simp;omega,fun H _=>?_,fun H _=>?_⟩
 ·have d:(1000:Int)<=(2^63-1)/n:=(Int.le_ediv_iff_mul_le (by omega)).mpr (by omega);omega
 ·have c:z.length*n.toNat<=1000*1000:=Nat.mul_le_mul a (by omega);have b:=bq;unfold Builtin.Str.tooLong;simp;omega
def rMulA(K:ye):R2:=fun x y H Q=>(rI CMul fun i j=>.int (i*j)) x y H Q∨(∃z n,x = .str z/\y = .int n/\MulOk z n/\Q (.str (Txt.mul z n)) H)∨rMulQ K x y H Q
theorem zbu:OpR X (aE .Mult) (rMulA X.K):=OpR.or op_mul (OpR.or zoN zvP)
theorem RepL.rep{α : List ad}{H:Hp}{d:D}{v:V}(h:Rep K α H d v):∀n:Nat,RepL K α H (yn n d) (yn n v)
 |0=>by simp[RepL]|n+1=>by
  rw[ybr,ybr,RepL];exact⟨v,_,rfl,h,RepL.rep h n⟩
theorem zce:OpD K cl ex (rMulA K) zez:=fun α m H x y g V Q W b R h=>by
 rw[zhL]at h;unfold mulR at h;split at h
 ·rw[Rep]at b R;obtain⟨c,h⟩:=PQ.if h;exact .inl ⟨_,_,b,R,c,PQ.ok W h _ zfU⟩
 ·rw[Rep]at b;rw[Rep]at R;obtain⟨c,h⟩:=PQ.if h;exact .inr (.inl ⟨_,_,b,R,zmF c,PQ.ok W h _ zva⟩)
 ·obtain⟨c,h⟩:=PQ.if h;rw[Rep]at b;rw[Rep]at R;obtain⟨a,xs,rfl,f,d⟩:=b;rw[RepL]at d;obtain⟨v,r,rfl,e,r2⟩:=d;rw[RepL]at r2;subst r2;refine .inr (.inr ⟨a,v,_,rfl,R,f,c.1,c.2,fun r H' hr s=>?_⟩);exact PQ.okS W s h _ (by rw[Rep];exact⟨r,_,rfl,hr,(RepL.rep e _).mono W (Ext.of_same W s)⟩)
 ·exact h.elim
end
mutual
def py:D->PyData
 |.bl b=>.bool b|.int i=>.int i|.str x=>.str x|.tup ds=>.tuple (pyL ds)|.lst ds=>.list (pyL ds)|_=>.none
def pyL:List D->List PyData
 |[]=>[]|d::r=>py d::pyL r
end
mutual
def zgc:D->Bool
 |.non=>ac|.bl _=>ac|.int _=>ac|.str _=>ac|.tup ds=>pyOkL ds|.lst ds=>pyOkL ds|_=>ag
def pyOkL:List D->Bool
 |[]=>ac|d::r=>zgc d&&pyOkL r
end
def zeD(d:D):Bool:=zgc d&&SeqAt.shaped (py d)
def eqB(x y:D):Option Bool:=match x,y with
 |.int i,.int j=>aa (decide (i=j))|.str a,.str b=>aa (decide (a=b))|.bl a,.bl b=>aa (decide (a=b))|.non,.non=>aa ac|.non,.int _=>aa ag|.non,.str _=>aa ag|.non,.bl _=>aa ag|.int _,.non=>aa ag|.str _,.non=>aa ag|.bl _,.non=>aa ag|.int _,.str _=>aa ag|.str _,.int _=>aa ag|.bl _,.str _=>aa ag|.str _,.bl _=>aa ag|x,y=>if zeD x&&zeD y then aa (PyData.eqv (py x) (py y)) else ab
def rs(m:Sto)(d:D):D:=match d with
 |.ob k=>match m[k]? with
  |some (.lst xs)=>.lst xs|_=>.ob k
 |d=>d
def eqD(x y:D)(m:Sto):Res D:=match eqB (rs m x) (rs m y) with
 |some b=>.ok (.bl b) m|none=>.bad
def neD(x y:D)(m:Sto):Res D:=match eqB (rs m x) (rs m y) with
 |some b=>.ok (.bl (!b)) m|none=>.bad
variable{σ : L2.St}{v:V}{m:Sto}{y:D}{vx vy:V}{b:Bool}
section
variable{pins:List (ad×av)}{s:aj}
mutual
theorem zcR(I:Inv X pins σ H s):∀{d:D}{v:V}{u:af},zgc d=ac->Rep X.K α H d v->RelV v u->∃as,Reads s.heap u (py d) as
 |.non,v,u,_,r,R=>by rw[Rep]at r;subst r;cases R;exact⟨_,.none⟩|.bl b,v,u,_,r,R=>by rw[Rep]at r;subst r;cases R;exact⟨_,.bool b⟩|.int i,v,u,_,r,R=>by rw[Rep]at r;subst r;obtain⟨t,rfl⟩:=R;exact⟨_,.int i t⟩
 |.str x,v,u,_,r,R=>by rw[Rep]at r;subst r;obtain⟨t,rfl⟩:=R;exact⟨_,.str x t⟩
 |.tup ds,v,u,ok,r,R=>by
  rw[Rep]at r;obtain⟨a,xs,rfl,f,e⟩:=r;cases R;obtain⟨its,c,⟨o,j,g,n,E⟩,_⟩:=I.tuple f.sq;obtain⟨as,h⟩:=rep_readsL I (by rw[zgc]at ok;exact ok) e c;exact⟨as,.tuple j g E (by simpa using h)⟩
 |.lst ds,v,u,ok,r,R=>by
  rw[Rep]at r;obtain⟨a,xs,rfl,_,f,e⟩:=r;cases R;obtain⟨its,c,⟨o,n,j,g,_,E⟩,_⟩:=I.list (xs:=xs) (.inl f);obtain⟨as,h⟩:=rep_readsL I (by rw[zgc]at ok;exact ok) e c;exact⟨_,.list j g E (by simpa using h)⟩
 |.flt _,_,_,ok,_,_=>by simp[zgc]at ok|.byt _,_,_,ok,_,_=>by simp[zgc]at ok|.exn _ _,_,_,ok,_,_=>by simp[zgc]at ok|.ob _,_,_,ok,_,_=>by simp[zgc]at ok|.scr _,_,_,ok,_,_=>by simp[zgc]at ok
theorem rep_readsL(I:Inv X pins σ H s):∀{ds:List D}{vs:List V}{us:List af},pyOkL ds=ac->RepL X.K α H ds vs->Vals vs us->∃as,ReadsAll s.heap us (pyL ds) as
 |[],vs,us,_,r,R=>by rw[RepL]at r;subst r;cases R;exact⟨_,.nil⟩|d::ds,vs,us,ok,r,R=>by
  rw[RepL]at r;obtain⟨v,r',rfl,h1,h2⟩:=r;rw[pyOkL,yac]at ok;cases R with
  |cons a b=>
   obtain⟨as,Q⟩:=zcR I ok.1 h1 a;obtain⟨bs,q⟩:=rep_readsL I ok.2 h2 b;exact⟨_,.cons Q q⟩
end
def ztc(K:ye)(f:Bool->Bool):R2:=fun vx vy H Q=>∃x y α,Rep K α H x vx/\Rep K α H y vy/\zeD x=ac/\zeD y=ac/\Q (.bl (f (PyData.eqv (py x) (py y)))) H
theorem zqL(b:X.A.units+64<aF):OpR X (az .Eq) (ztc X.K id):=by
 intro pins s σ H f V v u Q I R r h;obtain⟨x,y,α,a,r2,D,d,q⟩:=h;rw[zeD,yac]at D d;obtain⟨as,e⟩:=zcR I D.1 a R;obtain⟨bs,c⟩:=zcR I d.1 r2 r;exact eq_dataH e c D.2 d.2 b ⟨.bl _,H,I,rfl,q⟩
theorem zqG(b:X.A.units+64<aF):OpR X (az .NotEq) (ztc X.K not):=by
 intro pins s σ H f V v u Q I R r h;obtain⟨x,y,α,a,r2,D,d,q⟩:=h;rw[zeD,yac]at D d;obtain⟨as,e⟩:=zcR I D.1 a R;obtain⟨bs,c⟩:=zcR I d.1 r2 r;exact ne_dataH e c D.2 d.2 b ⟨.bl _,H,I,rfl,q⟩
def rEqA(K:ye):R2:=fun x y H Q=>rEq x y H Q∨ztc K id x y H Q
def rNeA(K:ye):R2:=fun x y H Q=>rNe x y H Q∨ztc K not x y H Q
theorem zbK(h:X.A.units+64<aF):OpR X (az .Eq) (rEqA X.K):=OpR.or op_eq (zqL h)
theorem zcU(h:X.A.units+64<aF):OpR X (az .NotEq) (rNeA X.K):=OpR.or op_ne (zqG h)
mutual
theorem Rep.bare{K:ye}{α : List ad}{H:Hp}:∀{d:D}{v:V},zgc d=ac->Rep K α H d v->Rep K [] H d v
 |.non,_,_,h=>by simpa [Rep] using h|.bl _,_,_,h=>by simpa [Rep] using h|.int _,_,_,h=>by simpa [Rep] using h|.str _,_,_,h=>by simpa [Rep] using h|.flt _,_,c,_=>by simp[zgc]at c|.byt _,_,c,_=>by simp[zgc]at c|.exn _ _,_,c,_=>by simp[zgc]at c|.ob _,_,c,_=>by simp[zgc]at c|.scr _,_,c,_=>by simp[zgc]at c|.tup ds,_,c,h=>by
  rw[Rep]at h ⊢;obtain⟨a,xs,e,h1,h2⟩:=h;rw[zgc]at c;exact⟨a,xs,e,h1,RepL.bare c h2⟩
 |.lst ds,_,c,h=>by
  rw[Rep]at h ⊢;obtain⟨a,xs,e,n,h1,h2⟩:=h;rw[zgc]at c;exact⟨a,xs,e,(by simp),h1,RepL.bare c h2⟩
theorem RepL.bare{K:ye}{α : List ad}{H:Hp}:∀{ds:List D}{vs:List V},pyOkL ds=ac->RepL K α H ds vs->RepL K [] H ds vs
 |[],_,_,h=>by rw[RepL]at h ⊢;exact h|_::_,_,c,h=>by
  rw[RepL]at h ⊢;obtain⟨v,r,e,h1,h2⟩:=h;rw[pyOkL,yac]at c;exact⟨v,r,e,Rep.bare c.1 h1,RepL.bare c.2 h2⟩
end
def RepW(K:ye)(α : List ad)(H:Hp)(x:D)(v:V):Prop:=Rep K α H x v∨∃xs a ys,x = .lst xs/\v = .ref a/\H a=aa (.lst ys)/\RepL K α H xs ys
theorem RepW.bare{x:D}(c:zeD x=ac)(h:RepW K α H x v):Rep K [] H x v:=by
 rw[zeD,yac]at c;rcases h with h|⟨xs,a,ys,rfl,rfl,d,b⟩
 ·exact h.bare c.1
 ·rw[Rep];have c1:=c.1;rw[zgc]at c1;exact⟨a,ys,rfl,(by simp),.inl d,b.bare c1⟩
theorem znx(W:Wd K cl α m H){x:D}(r:Rep K α H x v):RepW K α H (rs m x) v:=by
 unfold rs;split
 ·split
  ·rename_i xs h;rw[Rep]at r;obtain⟨a,d,rfl⟩:=r;obtain⟨ys,c,b⟩:=(show MoRep K cl α H a (.lst xs) from W.at' _ a _ d h);exact .inr ⟨_,a,ys,rfl,rfl,c,b⟩
  ·exact .inl r
 ·exact .inl r
theorem zr2{x:D}(e:eqB x y=aa b)(R:RepW K α H x vx)(r:RepW K α H y vy):(scal vx vy=ac/\decide (vx=vy)=b)∨(zeD x=ac/\zeD y=ac/\PyData.eqv (py x) (py y)=b):=by
 unfold eqB at e;split at e;case h_15=>
  split at e
  ·rename_i h;rw[yac]at h;exact .inr ⟨h.1,h.2,yad e⟩
  ·cases e
 all_goals (
  rcases R with R|⟨_,_,_,z,_⟩;case inr=>cases z
  rcases r with r|⟨_,_,_,z,_⟩;case inr=>cases z
  rw[Rep]at R;rw[Rep]at r;subst R r;refine .inl ⟨rfl,?_⟩;rw[<- yad e];simp)
theorem zc5:OpD K cl ex (rEqA K) eqD:=fun α m H x y V v Q W R r h=>by
 unfold eqD at h;split at h
 ·rename_i b e;have R:=znx W R;have r:=znx W r;rcases zr2 e R r with⟨c,a⟩|⟨c,a,d⟩
  ·exact .inl ⟨c,by rw[a];exact PQ.ok W h _ zkE⟩
  ·exact .inr ⟨_,_,[],R.bare c,r.bare a,c,a,by rw[d];exact PQ.ok W h _ zkE⟩
 ·exact h.elim
theorem ze6:OpD K cl ex (rNeA K) neD:=fun α m H x y V v Q W R r h=>by
 unfold neD at h;split at h
 ·rename_i b e;have R:=znx W R;have r:=znx W r;rcases zr2 e R r with⟨c,a⟩|⟨c,a,d⟩
  ·exact .inl ⟨c,by rw[a];exact PQ.ok W h _ zkE⟩
  ·exact .inr ⟨_,_,[],R.bare c,r.bare a,c,a,by rw[d];exact PQ.ok W h _ zkE⟩
 ·exact h.elim
end
def ltS(x y:ae):Bool:=decide (x.cps.toList<y.cps.toList)
def ltD(x y:D)(m:Sto):Res D:=match x,y with
 |.int i,.int j=>.ok (.bl (decide (i<j))) m|.str a,.str b=>.ok (.bl (ltS a b)) m|_,_=>.bad
def leD(x y:D)(m:Sto):Res D:=match x,y with
 |.int i,.int j=>.ok (.bl (decide (i<=j))) m|.str a,.str b=>.ok (.bl (!ltS b a)) m|_,_=>.bad
def gtD(x y:D)(m:Sto):Res D:=match x,y with
 |.int i,.int j=>.ok (.bl (decide (j<i))) m|_,_=>.bad
def geD(x y:D)(m:Sto):Res D:=match x,y with
 |.int i,.int j=>.ok (.bl (decide (j<=i))) m|_,_=>.bad
def isB(x y:D):Option Bool:=match x,y with
 |.bl a,.bl b=>aa (a==b)|.non,.non=>aa ac|_,.non=>aa ag|_,_=>ab
def isD(x y:D)(m:Sto):Res D:=match isB x y with
 |some b=>.ok (.bl b) m|none=>.bad
def zgm(x y:D)(m:Sto):Res D:=match isB x y with
 |some b=>.ok (.bl (!b)) m|none=>.bad
variable{f:Bool->Bool}{Q:VK}
section
theorem zqI:OpR X (az .LtE) (fun x y H Q=>∃i j,x = .str i/\y = .str j/\Q (.bl (!ltS j i)) H):=by
 intro pins s σ H x y v u Q I R r h;obtain⟨i,j,rfl,rfl,q⟩:=h;obtain⟨t,rfl⟩:=R;obtain⟨t',rfl⟩:=r;exact PySem.P.le_str (zaN I q rfl)
def rLtA:R2:=fun x y H Q=>(rI0 (fun i j=>.bl (decide (i<j)))) x y H Q∨∃i j,x = .str i/\y = .str j/\Q (.bl (decide (i.cps.toList<j.cps.toList))) H
def rLeA:R2:=fun x y H Q=>(rI0 (fun i j=>.bl (decide (i<=j)))) x y H Q∨∃i j,x = .str i/\y = .str j/\Q (.bl (!ltS j i)) H
theorem zdR:OpR X (az .Lt) rLtA:=OpR.or op_lt zqH
theorem ziQ:OpR X (az .LtE) rLeA:=OpR.or op_le zqI
theorem zgX:OpD K cl ex rLtA ltD:=fun α m H x y V v Q W R r h=>by
 unfold ltD at h;split at h
 ·rw[Rep]at R r;exact .inl ⟨_,_,R,r,PQ.ok W h _ zkE⟩
 ·rw[Rep]at R r;exact .inr ⟨_,_,R,r,PQ.ok W h _ zkE⟩
 ·exact h.elim
theorem zo1:OpD K cl ex rLeA leD:=fun α m H x y V v Q W R r h=>by
 unfold leD at h;split at h
 ·rw[Rep]at R r;exact .inl ⟨_,_,R,r,PQ.ok W h _ zkE⟩
 ·rw[Rep]at R r;exact .inr ⟨_,_,R,r,PQ.ok W h _ zkE⟩
 ·exact h.elim
theorem zkV:OpD K cl ex (rI0 (fun i j=>.bl (decide (j<i)))) gtD:=fun α m H x y V v Q W R r h=>by
 unfold gtD at h;split at h
 ·rw[Rep]at R r;exact⟨_,_,R,r,PQ.ok W h _ zkE⟩
 ·exact h.elim
theorem zj2:OpD K cl ex (rI0 (fun i j=>.bl (decide (j<=i)))) geD:=fun α m H x y V v Q W R r h=>by
 unfold geD at h;split at h
 ·rw[Rep]at R r;exact⟨_,_,R,r,PQ.ok W h _ zkE⟩
 ·exact h.elim
def rIs(f:Bool->Bool):R2:=fun x y H Q=>(y = .non/\Q (.bl (f (decide (x = .non)))) H)∨∃b c,x = .bl b/\y = .bl c/\Q (.bl (f (b==c))) H
theorem zdm:OpR X (az .Is) (rIs id):=OpR.or op_isN op_isT
theorem zet:OpR X (az .IsNot) (rIs not):=OpR.or zvO ztv
def isNon:D->Bool
 |.non=>ac|_=>ag
theorem zqf{x:D}(r:Rep K α H x vx):decide (vx = .non)=isNon x:=by
 cases x <;> rw[Rep]at r;case ob=>obtain⟨_,_,rfl⟩:=r;rfl
 case tup=>obtain⟨_,_,rfl,_⟩:=r;rfl
 case lst=>obtain⟨_,_,rfl,_⟩:=r;rfl
 case scr=>obtain⟨_,_,rfl,_⟩:=r;rfl
 case exn=>obtain⟨_,_,_,_,rfl,_⟩:=r;rfl
 all_goals (subst r;rfl)
theorem zrJ{x:D}(e:isB x y=aa b)(R:Rep K α H x vx)(r:Rep K α H y vy)(q:Q (.bl (f b)) H):rIs f vx vy H Q:=by
 unfold isB at e;split at e
 ·rw[Rep]at R r;exact .inr ⟨_,_,R,r,by rw[yad e];exact q⟩
 ·have h:=zqf R;rw[Rep]at r;exact .inl ⟨r,by rw[h];show Q (.bl (f ac)) H;rw[yad e];exact q⟩
 ·rename_i hn;have h:=zqf R;rw[Rep]at r;refine .inl ⟨r,?_⟩;have:isNon x=ag:=by
   cases x with
   |non=>exact(hn rfl).elim|_=>rfl
  rw[h,this,yad e];exact q
 ·cases e
theorem zgj:OpD K cl ex (rIs id) isD:=fun α m H x y V v Q W R r h=>by
 unfold isD at h;split at h
 ·exact zrJ (f:=id) ‹_› R r (PQ.ok W h _ zkE)
 ·exact h.elim
theorem zgi:OpD K cl ex (rIs not) zgm:=fun α m H x y V v Q W R r h=>by
 unfold zgm at h;split at h
 ·exact zrJ (f:=not) ‹_› R r (PQ.ok W h _ zkE)
 ·exact h.elim
end
variable{a:ad}{ds:List D}
section
theorem Wd.lst(W:Wd K cl α m H){k:Nat}(b:α[k]?=aa a)(h:m[k]?=aa (.lst ds)):∃xs,H a=aa (.lst xs)/\RepL K α H ds xs:=W.at' k a _ b h
theorem Wd.dct(W:Wd K cl α m H){k:Nat}{ds:List (L2.Key×D)}(b:α[k]?=aa a)(h:m[k]?=aa (.dct ds)):∃xs,H a=aa (.dK xs)/\RepKV K α H ds xs:=W.at' k a _ b h
theorem Wd.set(W:Wd K cl α m H){k:Nat}{u:HO}{o:MO}(d:α[k]?=aa a)(s:∀_:Ext α H α (upd H a u),MoRep K cl α (upd H a u) a o)(hn:autoParam (∀o v,H a≠aa (.frz o v)) AutoP.a5._auto_1):Wd K cl α (m.set k o) (upd H a u)/\Ext α H α (upd H a u):=by
 have ha:a∈α := yai d;have E:Ext α H α (upd H a u):=by
  refine⟨⟨[],by simp,fun _ h=>nomatch h⟩,fun b o h n=>by rw[zax (fun z=>n (by rw[z];exact ha))];exact h,fun b r=>?_,fun b o v q=>by rw[zax fun z=>hn o v (by rw[<- z];exact q)];exact q⟩;by_cases c:b=a
  ·rw[c,zaD];exact fun z=>nomatch z
  ·rw[zax c];exact W.has r
 refine⟨⟨by rw[yaw];exact W.len,W.nd,fun j b o' f e=>?_⟩,E⟩;by_cases i:k=j
 ·subst i;rw[d]at f;cases f;have l:k<m.length:=by rw[<- W.len];exact(yi.mp d).1
  rw[ya3 l]at e;cases e;exact s E
 ·rw[ybl i]at e;have g:b≠a:=fun z=>by
   subst z;obtain⟨l,w⟩:=yi.mp d;obtain⟨p,t⟩:=yi.mp f;exact i ((ybX W.nd).mp (w.trans t.symm))
  exact(W.at' j b o' f e).mono W E fun o h=>by rw[zax g];exact h
end
variable{vs:List V}{d:D}
theorem RepL.atI(r:RepL K α H ds vs)(h:L2.atI ds i=aa d):∃v,L2.atI vs i=aa v/\Rep K α H d v:=by
 unfold L2.atI at h ⊢;rw[r.length]at h;cases e:ixN vs.length i with
 |none=>rw[e]at h;cases h|some j=>
  rw[e]at h;exact r.get (i:=j) h
def zgQ(kvs:List (L2.Key×D))(k:L2.Key):Option D:=match kvs with
 |[]=>ab|p::r=>if p.1=k then aa p.2 else zgQ r k
def zjM(kvs:List (L2.Key×D))(k:L2.Key)(d:D):List (L2.Key×D):=match kvs with
 |[]=>[(k,d)]|p::r=>if p.1=k then (p.1,d)::r.map (fun q=>if q.1=k then (q.1,d) else q) else p::zjM r k d
theorem RepKV.val{K:ye}{α : List ad}{H:Hp}{k:L2.Key}:∀{ds:List (L2.Key×D)}{vs:List (L2.Key×V)},RepKV K α H ds vs->(∀d,zgQ ds k=aa d->∃v,zlU vs k=aa v/\Rep K α H d v)/\(zgQ ds k=ab->zlU vs k=ab)
 |[],_,h=>by
  cases (show _=[] from h);exact⟨fun d e=>(nomatch e),fun _=>rfl⟩
 |p::r,_,⟨v,r',e,h1,h2⟩=>by
  subst e;have i:=RepKV.val (k:=k) h2;unfold zgQ;by_cases a:p.1=k
  ·rw[if_pos a,zg2 a];exact⟨fun d e=>by cases e;exact⟨v,rfl,h1⟩,fun e=>nomatch e⟩
  ·rw[if_neg a,zg3 a];exact i
theorem RepKV.length{K:ye}{α : List ad}{H:Hp}:∀{ds:List (L2.Key×D)}{vs:List (L2.Key×V)},RepKV K α H ds vs->ds.length=vs.length
 |[],_,h=>by
  have h:_=[]:=h;subst h;rfl
 |p::r,_,⟨v,r',e,b,a⟩=>by subst e;rw[yD,yD,RepKV.length a]
theorem RepKV.map{K:ye}{α : List ad}{H:Hp}{k:L2.Key}{d:D}{v:V}(r:Rep K α H d v):∀{ds:List (L2.Key×D)}{vs:List (L2.Key×V)},RepKV K α H ds vs->RepKV K α H (ds.map fun q=>if q.1=k then (q.1,d) else q) (vs.map fun q=>if q.1=k then (q.1,v) else q)
 |[],_,h=>by
  have h:_=[]:=h;subst h;rfl
 |p::t,_,⟨w,r',e,c,b⟩=>by
  subst e;rw[yE,yE];by_cases a:p.1=k
  ·rw[if_pos a,if_pos a];exact⟨v,_,rfl,r,RepKV.map r b⟩
  ·rw[if_neg a,if_neg a];exact⟨w,_,rfl,c,RepKV.map r b⟩
theorem RepKV.put{K:ye}{α : List ad}{H:Hp}{k:L2.Key}{d:D}{v:V}(r:Rep K α H d v):∀{ds:List (L2.Key×D)}{vs:List (L2.Key×V)},RepKV K α H ds vs->RepKV K α H (zjM ds k d) (zfr vs k v)
 |[],_,h=>by
  have h:_=[]:=h;subst h;exact⟨v,[],rfl,r,rfl⟩
 |p::t,_,⟨w,r',e,f,b⟩=>by
  subst e;unfold zjM;by_cases a:p.1=k
  ·rw[if_pos a];have E:zfr ((p.1,w)::r') k v=(p.1,v)::r'.map fun q=>if q.1=k then (q.1,v) else q:=by
    unfold zfr;rw[if_pos (by simp[a]),yE,if_pos a]
   rw[E];exact⟨v,_,rfl,r,RepKV.map r b⟩
  ·rw[if_neg a];have i:=RepKV.put (k:=k) r b;have E:zfr ((p.1,w)::r') k v=(p.1,w)::zfr r' k v:=by
    unfold zfr;by_cases ha:(r'.any fun c=>decide (c.1=k))=ac
    ·rw[if_pos (by rw[yaY,ha,Bool.or_true]),if_pos ha,yE,if_neg a]
    ·rw[if_neg ha,if_neg (by rw[yaY];simp only[decide_eq_false a,ycX];exact ha)];rfl
   rw[E];exact⟨w,_,rfl,f,i⟩
variable{τ : Type}
def opt(o:Option τ)(m:Sto):Res τ := match o with
 |some d=>.ok d m|none=>.bad
def ixD(x y:D)(m:Sto):Res D:=match x,y with
 |.tup ds,.int i=>opt (L2.atI ds i) m|.lst ds,.int i=>opt (L2.atI ds i) m|.str z,.int i=>if z.length<=sizeLine then opt ((L2.atI z.cps.toList i).map fun c=>D.str ⟨#[c]⟩) m else .bad|.ob k,.int i=>match m[k]? with
  |some (.lst ds)=>opt (L2.atI ds i) m|some (.dct kvs)=>opt (zgQ kvs (.inl i)) m|_=>.bad
 |.ob k,.str z=>match m[k]? with
  |some (.dct kvs)=>opt (zgQ kvs (.inr z)) m|_=>.bad
 |_,_=>.bad
variable{R:RD τ}
section
def rIxD:R2:=fun x y H Q=>∃a v,x = .ref a/\DGet H a y (aa v)/\Q v H
theorem zwj(k:X.A.units+1<aF):IxR X rIxD:=by
 intro value b pins s σ H x y v u Q I j i h hs;obtain⟨a,w,rfl,g,q⟩:=h;cases j;have d:=zmV I g;unfold ci;refine ai ?_;rw[getitemInPython_of_ne d.not_modules];refine ai (wpAny_specialOf d PySem.F.slot_dict_getitem.lookup ?_);have f:wpAny (ao X.prog X.w) X.A (subscripted b ag (.ref a) u) (fun r S=>wpAny (ao X.prog X.w) X.A (letTemporaryGo value (.ref a) r >>= fun _=>pure r) (EP X pins σ Q) X.xe S) X.xe s:=by
  rw[hs];exact wpAny_operating (aJ (zsf k I g i fun W e l R=>(⟨w,H,l,R,q⟩:EP X pins σ Q W e)) (fun r S c=>ai (wpAny_letTemporaryGo (aw c))) fun _ _ x=>x)
 first
  |exact aw (ai f)
  |exact ai (aw (ai f))
  |exact ai f
def rIxA(K:ye):R2:=fun x y H Q=>rIx K x y H Q∨rIxD x y H Q
theorem ix_A(h:X.A.units+1<aF):IxR X (rIxA X.K):=IxR.or ix_seq (zwj h)
theorem zgd{o:Option τ}(h:PQ K cl ex (opt o m) α H R):∃d,o=aa d/\PQ K cl ex (.ok d m) α H R:=by
 cases o with
 |none=>exact h.elim|some d=>exact⟨d,rfl,h⟩
theorem od_ix:OpD K cl ex (rIxA K) ixD:=fun α m H x y j V Q W R r h=>by
 unfold ixD at h;split at h
 ·obtain⟨d,e,h⟩:=zgd h;rw[Rep]at R;rw[Rep]at r;obtain⟨a,xs,rfl,g,f⟩:=R;obtain⟨v,E,b⟩:=f.atI e;exact .inl (.inr (.inl ⟨a,xs,_,v,rfl,r,g.sq,E,PQ.ok W h _ b⟩))
 ·obtain⟨d,e,h⟩:=zgd h;rw[Rep]at R;rw[Rep]at r;obtain⟨a,xs,rfl,_,g,f⟩:=R;obtain⟨v,E,b⟩:=f.atI e;exact .inl (.inl ⟨a,xs,_,v,rfl,r,.inl g,E,PQ.ok W h _ b⟩)
 ·obtain⟨i,h⟩:=PQ.if h;obtain⟨d,e,h⟩:=zgd h;rw[Rep]at R;rw[Rep]at r;obtain⟨c,E,rfl⟩:=yat.mp e;exact .inl (.inr (.inr ⟨_,_,c,R,r,i,E,PQ.ok W h _ zva⟩))
 ·rw[Rep]at R;rw[Rep]at r;obtain⟨a,ha,rfl⟩:=R;split at h
  ·obtain⟨d,e,h⟩:=zgd h;obtain⟨xs,g,f⟩:=W.lst ha ‹_›;obtain⟨v,E,b⟩:=f.atI e;exact .inl (.inl ⟨a,xs,_,v,rfl,r,SqL.of g,E,PQ.ok W h _ b⟩)
  ·obtain⟨d,e,h⟩:=zgd h;obtain⟨xs,g,f⟩:=W.dct ha ‹_›;obtain⟨v,E,b⟩:=(RepKV.val f).1 d e;refine .inr ⟨a,v,rfl,?_,PQ.ok W h _ b⟩;rw[r,<- E];exact DGet.k (k := .inl _) g
  ·exact h.elim
 ·rw[Rep]at R;rw[Rep]at r;obtain⟨a,ha,rfl⟩:=R;split at h
  ·obtain⟨d,e,h⟩:=zgd h;obtain⟨xs,g,f⟩:=W.dct ha ‹_›;obtain⟨v,E,b⟩:=(RepKV.val f).1 d e;refine .inr ⟨a,v,rfl,?_,PQ.ok W h _ b⟩;rw[r,<- E];exact DGet.k (k := .inr _) g
  ·exact h.elim
 ·exact h.elim
end
def zmX(xs:List τ)(lo hi:Option Int):List τ := (xs.drop (HT.sIx xs.length 0 lo)).take (HT.sIx xs.length xs.length hi-HT.sIx xs.length 0 lo)
theorem RepL.take{K:ye}{α : List ad}{H:Hp}:∀{ds:List D}{vs:List V}(n:Nat),RepL K α H ds vs->RepL K α H (ds.take n) (vs.take n)
 |[],_,_,h=>by rw[RepL]at h;subst h;simp[RepL]|_::_,_,0,h=>by simp[RepL]|_::_,_,n+1,h=>by
  rw[RepL]at h;obtain⟨v,r,rfl,a,b⟩:=h;rw[ydX,ydX,RepL];exact⟨v,_,rfl,a,RepL.take n b⟩
theorem RepL.drop{K:ye}{α : List ad}{H:Hp}:∀{ds:List D}{vs:List V}(n:Nat),RepL K α H ds vs->RepL K α H (ds.drop n) (vs.drop n)
 |_,_,0,h=>h|[],_,n+1,h=>by rw[RepL]at h;subst h;simp[RepL]|_::_,_,n+1,h=>by
  rw[RepL]at h;obtain⟨v,r,rfl,a,b⟩:=h;exact RepL.drop n b
theorem RepL.cut(lo hi:Option Int)(r:RepL K α H ds vs):RepL K α H (zmX ds lo hi) (zuE vs lo hi):=by
 unfold zmX zuE;rw[r.length];exact RepL.take _ (RepL.drop _ r)
abbrev OV:=En->Sto->Res (Option Int)
def zj3:OV:=fun _ m=>.ok ab m
def zee(f:EV):OV:=fun ρ m=>(f ρ m).bind fun d m1=>match d with
 |.int i=>.ok (aa i) m1|_=>.bad
def tDO(K:ye)(cl:ae->ad)(ex:XD)(f:OV):TO:=fun σ H Q=>∃α ρ m,Wd K cl α m H/\RepE K α H ρ σ /\ PQ K cl ex (f ρ m) α H fun d _ _ H'=>Q d H'
structure QO(X:Cx)(cl:ae->ad)(ex:XD)(e:Option ak)(f:OV):Prop where
 out:PO X e (tDO X.K cl ex f)
theorem PO.weak{e:Option ak}{t t':TO}(h:PO X e t)(w:∀σ H Q,t' σ H Q->t σ H Q):PO X e t':=fun pins s σ H Q I q=>h pins s σ H Q I (w σ H Q q)
def slD(x:D)(lo hi:Option Int)(m:Sto):Res D:=match x with
 |.tup ds=>if HT.sIx ds.length 0 lo=0/\HT.sIx ds.length ds.length hi=ds.length then .bad else .ok (.tup (zmX ds lo hi)) m|.lst ds=>.ok (.lst (zmX ds lo hi)) m|.scr ds=>.ok (.lst (zmX ds lo hi)) m|.str z=>if z.length<=sizeLine then .ok (.str (Txt.slice z lo hi)) m else .bad|.ob k=>match m[k]? with
  |some (.lst ds)=>.ok (.lst (zmX ds lo hi)) m|_=>.bad
 |_=>.bad
def eSl(f:EV)(lo hi:OV):EV:=fun ρ m=>(f ρ m).bind fun x m1=>(lo ρ m1).bind fun l m2=>(hi ρ m2).bind fun h M=>slD x l h M
variable{fa:EV}{pos:ay}
section
variable{e:ak}{lo hi:OV}{el eh:Option ak}{p2:ay}
theorem zga:QO X cl ex ab zj3:=⟨PO.weak zvx fun σ H Q a=>ex3 a fun α ρ m W hr h=>PQ.ok W h⟩
theorem zbZ(b:QE X cl ex e fa):QO X cl ex (aa e) (zee fa):=⟨PO.weak (zvw b.out) fun σ H Q c=>ex3 c fun α ρ m W hr h=>tD.use W hr h fun a m1 f d v E w hr1 r q=>by
 split at q
 ·rw[Rep]at r;exact⟨_,r,PQ.ok w q⟩
 ·exact q.elim⟩
theorem tDO.use{ρ : En}{f:OV}{k:Option Int->Sto->Res τ}{Q:Option Int->Hp->Prop}(W:Wd K cl α m H)(hr:RepE K α H ρ σ)(h:PQ K cl ex ((f ρ m).bind k) α H R)(b:∀a m1 H1 d,Ext α H a H1->Wd K cl a m1 H1->RepE K a H1 ρ σ -> PQ K cl ex (k d m1) a H1 R->Q d H1):tDO K cl ex f σ H Q :=
 ⟨α,ρ,m,W,hr,PQ.mono (Ext.refl W) h.bind fun d a m1 H1 E w q=>b a m1 H1 d E w (hr.mono W E) q⟩
theorem zjK(s:QE X cl ex e fa)(hl:QO X cl ex el lo)(f:QO X cl ex eh hi):QE X cl ex (.Subscript e (.Slice el eh ab p2) pos) (eSl fa lo hi) :=
 ⟨PE.weak (znJ (SlR.or zuc (SlR.or zpQ zua)) s.out hl.out f.out) fun σ H Q f=>ex3 f fun α ρ m W hr h=>
  tD.use W hr h fun k m1 B d v C g hr1 r o=>tDO.use g hr1 o fun j m2 A l y x hr2 n=>tDO.use x hr2 n fun i M z u E w hr3 q=>by
   have r:=r.mono g (y.trans E);unfold slD at q;split at q
   ·split at q
    ·exact q.elim
    ·rename_i hn;rw[Rep]at r;obtain⟨a,xs,rfl,c,R⟩:=r;refine .inl ⟨a,xs,rfl,c.sq,by rw[<- R.length];exact hn,fun p b=>?_⟩;exact PQ.okS w (Same.new b) q _ (zbQ w b (R.cut l u))
   ·rw[Rep]at r;obtain⟨a,xs,rfl,_,c,R⟩:=r;exact .inr (.inl ⟨a,xs,rfl,.inl c,fun p b=>PQ.okS w (Same.new b) q _ (zcj w b (R.cut l u))⟩)
   ·rw[Rep]at r;obtain⟨a,xs,rfl,c,R⟩:=r;exact .inr (.inl ⟨a,xs,rfl,c.sq,fun p b=>PQ.okS w (Same.new b) q _ (zcj w b (R.cut l u))⟩)
   ·rw[Rep]at r;obtain⟨t,q⟩:=PQ.if q;exact .inr (.inr ⟨_,r,t,PQ.ok w q _ zva⟩)
   ·rw[Rep]at r;obtain⟨a,ha,rfl⟩:=r;split at q
    ·obtain⟨xs,c,R⟩:=w.lst ha ‹_›;exact .inr (.inl ⟨a,xs,rfl,SqL.of c,fun p b=>PQ.okS w (Same.new b) q _ (zcj w b (R.cut l u))⟩)
    ·exact q.elim
   ·exact q.elim⟩
end
variable{xs:List D}
section
theorem RepL.one_of(h:RepL K α H [d] vs):∃v,vs=[v]/\Rep K α H d v:=by
 rw[RepL]at h;obtain⟨v,r,rfl,a,b⟩:=h;rw[RepL]at b;subst b;exact⟨v,rfl,a⟩
theorem RepL.two_of{e:D}(h:RepL K α H [d,e] vs):∃v w,vs=[v,w]/\Rep K α H d v/\Rep K α H e w:=by
 rw[RepL]at h;obtain⟨v,r,rfl,a,b⟩:=h;obtain⟨w,rfl,c⟩:=b.one_of;exact⟨v,w,rfl,a,c⟩
def zeB(ds:List D)(m:Sto):Res D:=match ds with
 |[.tup xs]=>.ok (.int xs.length) m|[.lst xs]=>.ok (.int xs.length) m|[.scr xs]=>.ok (.int xs.length) m|[.str z]=>if z.length<=sizeLine then .ok (.int z.length) m else .bad|[.ob k]=>match m[k]? with
  |some (.lst xs)=>.ok (.int xs.length) m|some (.dct xs)=>.ok (.int xs.length) m|_=>.bad
 |_=>.bad
def rLen(K:ye):List V->Hp->VK->Prop:=fun xs H Q=>(∃p ys,xs=[.ref p]/\(SqL K H p ys∨SqT K H p ys)/\Q (.int ys.length) H)∨(∃z,xs=[.str z]/\z.length<=sizeLine/\Q (.int z.length) H)∨∃a kvs,xs=[V.ref a]/\H a=aa (.dK kvs)/\Q (.int kvs.length) H
theorem zsq:CallR X (.builtin "len") (fun xs H Q=>∃a kvs,xs=[V.ref a]/\H a=aa (.dK kvs)/\Q (.int kvs.length) H):=by
 intro pins s σ H xs us Q I r h;obtain⟨a,kvs,rfl,e,q⟩:=h;obtain⟨u,rfl,R⟩:=zcB r;cases R;exact d_len I (.inl e) fun t S i=>⟨.int kvs.length,H,i,⟨t,rfl⟩,q⟩
theorem zaL:CallR X (.builtin "len") (rLen X.K):=CallR.or zlG (CallR.or zlF zsq)
theorem zca:FnD K cl ex (rLen K) zeB:=fun α m H x V Q W c h=>by
 unfold zeB at h;split at h
 ·obtain⟨v,rfl,r⟩:=c.one_of;rw[Rep]at r;obtain⟨a,xs,rfl,b,R⟩:=r;exact .inl ⟨a,xs,rfl,.inr b.sq,by rw[<- R.length];exact PQ.ok W h _ zfU⟩
 ·obtain⟨v,rfl,r⟩:=c.one_of;rw[Rep]at r;obtain⟨a,xs,rfl,_,b,R⟩:=r;exact .inl ⟨a,xs,rfl,.inl (.inl b),by rw[<- R.length];exact PQ.ok W h _ zfU⟩
 ·obtain⟨v,rfl,r⟩:=c.one_of;rw[Rep]at r;obtain⟨a,xs,rfl,b,R⟩:=r;exact .inl ⟨a,xs,rfl,.inl b.sq,by rw[<- R.length];exact PQ.ok W h _ zfU⟩
 ·obtain⟨v,rfl,r⟩:=c.one_of;rw[Rep]at r;subst r;obtain⟨d,h⟩:=PQ.if h;exact .inr (.inl ⟨_,rfl,d,PQ.ok W h _ zfU⟩)
 ·obtain⟨v,rfl,r⟩:=c.one_of;rw[Rep]at r;obtain⟨a,ha,rfl⟩:=r;split at h
  ·obtain⟨xs,b,R⟩:=W.lst ha ‹_›;exact .inl ⟨a,xs,rfl,.inl (SqL.of b),by rw[<- R.length];exact PQ.ok W h _ zfU⟩
  ·obtain⟨xs,b,R⟩:=W.dct ha ‹_›;exact .inr (.inr ⟨a,xs,rfl,b,by rw[<- R.length];exact PQ.ok W h _ zfU⟩)
  ·exact h.elim
 ·exact h.elim
def zwm(ds:List D)(m:Sto):Res D:=match ds with
 |[.int i]=>.ok (.int i) m|[.bl b]=>.ok (.int (if b then 1 else 0)) m|[.str z]=>match ybJ z with
  |some n=>if z.length<=640 then .ok (.int n) m else .bad|none=>.bad
 |_=>.bad
def rInt:List V->Hp->VK->Prop:=fun xs H Q=>((∃i,xs=[.int i]/\Q (.int i) H)∨∃k,xs=[.bl k]/\Q (.int (if k then 1 else 0)) H)∨∃z n,xs=[.str z]/\ybJ z=aa n/\z.length<=640/\Q (.int n) H
theorem zss:CallR X (.type "int") rInt:=CallR.or zst zlH
theorem fd_int:FnD K cl ex rInt zwm:=fun α m H x V Q W R h=>by
 unfold zwm at h;split at h
 ·obtain⟨v,rfl,r⟩:=R.one_of;rw[Rep]at r;subst r;exact .inl (.inl ⟨_,rfl,PQ.ok W h _ zfU⟩)
 ·obtain⟨v,rfl,r⟩:=R.one_of;rw[Rep]at r;subst r;exact .inl (.inr ⟨_,rfl,PQ.ok W h _ zfU⟩)
 ·obtain⟨v,rfl,r⟩:=R.one_of;rw[Rep]at r;subst r;split at h
  ·obtain⟨a,h⟩:=PQ.if h;exact .inr ⟨_,_,rfl,‹_›,a,PQ.ok W h _ zfU⟩
  ·exact h.elim
 ·exact h.elim
def zuW(ds:List D)(m:Sto):Res D:=match ds with
 |[.int i]=>if i.natAbs.log2<1920 then .ok (.str (toString i)) m else .bad|_=>.bad
theorem fd_str:FnD K cl ex (fun xs H Q=>∃i,xs=[.int i]/\i.natAbs.log2<1920/\Q (.str (toString i)) H) zuW:=fun α m H x V Q W R h=>by
 unfold zuW at h;split at h
 ·obtain⟨v,rfl,r⟩:=R.one_of;rw[Rep]at r;subst r;obtain⟨a,h⟩:=PQ.if h;exact⟨_,rfl,a,PQ.ok W h _ zva⟩
 ·exact h.elim
def absF(ds:List D)(m:Sto):Res D:=match ds with
 |[.int i]=>.ok (.int (if i<0 then -i else i)) m|_=>.bad
theorem zuz:FnD K cl ex (fun xs H Q=>∃i,xs=[.int i]/\Q (.int (if i<0 then -i else i)) H) absF:=fun α m H x V Q W R h=>by
 unfold absF at h;split at h
 ·obtain⟨v,rfl,r⟩:=R.one_of;rw[Rep]at r;subst r;exact⟨_,rfl,PQ.ok W h _ zfU⟩
 ·exact h.elim
def zeA(ds:List D)(m:Sto):Res D:=match ds with
 |[.int i,.int j]=>.ok (.int (if j>i then j else i)) m|_=>.bad
theorem zfg:FnD K cl ex (fun xs H Q=>∃i j,xs=[.int i,.int j]/\Q (.int (if j>i then j else i)) H) zeA:=fun α m H x V Q W a h=>by
 unfold zeA at h;split at h
 ·obtain⟨v,w,rfl,R,r⟩:=a.two_of;rw[Rep]at R r;subst R r;exact⟨_,_,rfl,PQ.ok W h _ zfU⟩
 ·exact h.elim
def zkZ(ds:List D)(m:Sto):Res D:=match ds with
 |[.int i,.int j]=>.ok (.int (if j<i then j else i)) m|_=>.bad
theorem zkf:FnD K cl ex (fun xs H Q=>∃i j,xs=[.int i,.int j]/\Q (.int (if j<i then j else i)) H) zkZ:=fun α m H x V Q W a h=>by
 unfold zkZ at h;split at h
 ·obtain⟨v,w,rfl,R,r⟩:=a.two_of;rw[Rep]at R r;subst R r;exact⟨_,_,rfl,PQ.ok W h _ zfU⟩
 ·exact h.elim
def zkm(ds:List D)(m:Sto):Res D:=match ds with
 |[.lst xs]=>.ok (.tup xs) m|[.tup xs]=>.ok (.tup xs) m|[.ob k]=>match m[k]? with
  |some (.lst xs)=>.ok (.tup xs) m|_=>.bad
 |[.str z]=>if z.cps.size<=sizeLine then .ok (.tup (zgR z)) m else .bad|_=>.bad
def rTup(K:ye):List V->Hp->VK->Prop:=fun xs H Q=>(∃p ys,xs=[.ref p]/\((SqL K H p ys/\∀l,H l=ab->Q (.ref l) (upd H l (.tup ys)))∨(SqT K H p ys/\Q (.ref p) H)))∨∃z,xs=[.str z]/\z.cps.size<=sizeLine/\∀l,H l=ab->Q (.ref l) (upd H l (.tup ((yJ z.cps.size).map (sgn z))))
theorem zcb(h:X.calm=ac):CallR X (.type "tuple") (rTup X.K):=CallR.or zkk (ziF h)
theorem zqe:RepL K α H (zgR z) ((yJ z.cps.size).map (sgn z)):=by
 unfold zgR;generalize yJ z.cps.size=l;induction l with
 |nil=>simp[RepL]|cons i r I=>rw[yE,yE,RepL];exact⟨_,_,rfl,by rw[Rep];rfl,I⟩
theorem zfN:FnD K cl ex (rTup K) zkm:=fun α m H x V Q W R h=>by
 unfold zkm at h;split at h
 ·obtain⟨v,rfl,r⟩:=R.one_of;rw[Rep]at r;obtain⟨a,xs,rfl,_,b,c⟩:=r;exact .inl ⟨a,xs,rfl,.inl ⟨.inl b,fun l hl=>PQ.okS W (Same.new hl) h _ (zbQ W hl c)⟩⟩
 ·obtain⟨v,rfl,r⟩:=R.one_of;have d:=r;rw[Rep]at r;obtain⟨a,xs,rfl,b,c⟩:=r;exact .inl ⟨a,xs,rfl,.inr ⟨b.sq,PQ.ok W h _ d⟩⟩
 ·obtain⟨v,rfl,r⟩:=R.one_of;rw[Rep]at r;obtain⟨a,ha,rfl⟩:=r;split at h
  ·obtain⟨xs,b,c⟩:=W.lst ha ‹_›;exact .inl ⟨a,xs,rfl,.inl ⟨SqL.of b,fun l hl=>PQ.okS W (Same.new hl) h _ (zbQ W hl c)⟩⟩
  ·exact h.elim
 ·obtain⟨v,rfl,r⟩:=R.one_of;rw[Rep]at r;subst r;obtain⟨e,h⟩:=PQ.if h;exact .inr ⟨_,rfl,e,fun l hl=>PQ.okS W (Same.new hl) h _ (zbQ W hl zqe)⟩
 ·exact h.elim
def zsP(d:D)(m:Sto):Option (List D):=match d with
 |.lst xs=>aa xs|.tup xs=>aa xs|.scr xs=>aa xs|.ob k=>match m[k]? with
  |some (.lst xs)=>aa xs|_=>ab
 |_=>ab
def zv9(ds:List D)(m:Sto):Res D:=match ds with
 |[d]=>match zsP d m with
  |some xs=>.ok (.lst xs) m|none=>.bad
 |_=>.bad
theorem zpU(W:Wd K cl α m H)(e:zsP d m=aa xs)(r:Rep K α H d v):∃p ys,v = .ref p/\(SqL K H p ys∨SqT K H p ys)/\RepL K α H xs ys:=by
 unfold zsP at e;split at e
 ·cases e;rw[Rep]at r;obtain⟨a,ys,rfl,_,h,R⟩:=r;exact⟨a,ys,rfl,.inl (.inl h),R⟩
 ·cases e;rw[Rep]at r;obtain⟨a,ys,rfl,h,R⟩:=r;exact⟨a,ys,rfl,.inr h.sq,R⟩
 ·cases e;rw[Rep]at r;obtain⟨a,ys,rfl,h,R⟩:=r;exact⟨a,ys,rfl,.inl h.sq,R⟩
 ·rw[Rep]at r;obtain⟨a,ha,rfl⟩:=r;split at e
  ·cases e;obtain⟨ys,h,R⟩:=W.lst ha ‹_›;exact⟨a,ys,rfl,.inl (SqL.of h),R⟩
  ·cases e
 ·cases e
theorem zr1:FnD K cl ex (fun xs H Q=>∃p ys,xs=[.ref p]/\(SqL K H p ys∨SqT K H p ys)/\∀l,H l=ab->Q (.ref l) (upd H l (.lst ys))) zv9:=fun α m H x V Q W r h=>by
 unfold zv9 at h;split at h
 ·split at h
  ·obtain⟨v,rfl,R⟩:=r.one_of;obtain⟨p,ys,rfl,b,a⟩:=zpU W ‹_› R;exact⟨p,ys,rfl,b,fun l hl=>PQ.okS W (Same.new hl) h _ (zcj W hl a)⟩
  ·exact h.elim
 ·exact h.elim
def zeN:List D->Option (List Int)
 |[]=>aa []|.int i::r=>(zeN r).map (i :: ·)|_=>ab
def zm8:List D->Option (List Bool)
 |[]=>aa []|.bl i::r=>(zm8 r).map (i :: ·)|_=>ab
def zgP:List D->Option (List ae)
 |[]=>aa []|.str i::r=>(zgP r).map (i :: ·)|_=>ab
theorem zdz:∀{ds:List D}{ns:List Int}{vs:List V},zeN ds=aa ns->RepL K α H ds vs->vs=ns.map V.int
 |[],ns,vs,e,r=>by cases e;rw[RepL]at r;exact r|d::t,ns,vs,e,r=>by
  unfold zeN at e;split at e
  ·exact absurd ‹d::t=[]› (by simp)
  ·rename_i i t' e1;cases e1;obtain⟨m,e2,rfl⟩:=yat.mp e;rw[RepL]at r;obtain⟨v,r',rfl,a,b⟩:=r;rw[Rep]at a;subst a;rw[zdz e2 b];rfl
  ·cases e
theorem zid:∀{ds:List D}{ns:List Bool}{vs:List V},zm8 ds=aa ns->RepL K α H ds vs->vs=ns.map V.bl
 |[],ns,vs,e,r=>by cases e;rw[RepL]at r;exact r|d::t,ns,vs,e,r=>by
  unfold zm8 at e;split at e
  ·exact absurd ‹d::t=[]› (by simp)
  ·rename_i i t' e1;cases e1;obtain⟨m,e2,rfl⟩:=yat.mp e;rw[RepL]at r;obtain⟨v,r',rfl,a,b⟩:=r;rw[Rep]at a;subst a;rw[zid e2 b];rfl
  ·cases e
theorem zjd:∀{ds:List D}{ns:List ae}{vs:List V},zgP ds=aa ns->RepL K α H ds vs->vs=ns.map V.str
 |[],ns,vs,e,r=>by cases e;rw[RepL]at r;exact r|d::t,ns,vs,e,r=>by
  unfold zgP at e;split at e
  ·exact absurd ‹d::t=[]› (by simp)
  ·rename_i i t' e1;cases e1;obtain⟨m,e2,rfl⟩:=yat.mp e;rw[RepL]at r;obtain⟨v,r',rfl,a,b⟩:=r;rw[Rep]at a;subst a;rw[zjd e2 b];rfl
  ·cases e
def lOf(d:D)(m:Sto):Option (List D):=match d with
 |.lst xs=>aa xs|.ob k=>match m[k]? with
  |some (.lst xs)=>aa xs|_=>ab
 |_=>ab
theorem zgl(W:Wd K cl α m H)(e:lOf d m=aa xs)(r:Rep K α H d v):∃p ys,v = .ref p/\SqL K H p ys/\RepL K α H xs ys:=by
 unfold lOf at e;split at e
 ·cases e;rw[Rep]at r;obtain⟨a,ys,rfl,_,h,R⟩:=r;exact⟨a,ys,rfl,.inl h,R⟩
 ·rw[Rep]at r;obtain⟨a,ha,rfl⟩:=r;split at e
  ·cases e;obtain⟨ys,h,R⟩:=W.lst ha ‹_›;exact⟨a,ys,rfl,SqL.of h,R⟩
  ·cases e
 ·cases e
def zuQ(ns:List Int):Prop:=(∀a,a∈ns->0<=a/\a<=2^50)/\ns.length<=1000
instance(ns:List Int):Decidable (zuQ ns):=by unfold zuQ;infer_instance
def zuS(ds:List D)(m:Sto):Res D:=match ds with
 |[d]=>match (lOf d m).bind zeN with
  |some ns=>if zuQ ns then .ok (.int ns.sum) m else .bad|none=>.bad
 |_=>.bad
theorem zux:FnD K cl ex (fun xs H Q=>∃(l:ad)(ns:List Int),xs=[.ref l]/\SqL K H l (ns.map V.int)/\(∀a,a∈ns->0<=a/\a<=2^50)/\ns.length<=1000/\Q (.int ns.sum) H) zuS:=fun α m H x g Q W r h=>by
 unfold zuS at h;split at h
 ·split at h
  ·rename_i ns e;obtain⟨b,h⟩:=PQ.if h;obtain⟨v,rfl,R⟩:=r.one_of;obtain⟨xs,f,E⟩:=yaB.mp e;obtain⟨p,ys,rfl,c,d⟩:=zgl W f R;rw[zdz E d]at c;exact⟨p,ns,rfl,c,b.1,b.2,PQ.ok W h _ zfU⟩
  ·exact h.elim
 ·exact h.elim
def allF(ds:List D)(m:Sto):Res D:=match ds with
 |[d]=>match (lOf d m).bind zm8 with
  |some bs=>.ok (.bl (bs.all id)) m|none=>.bad
 |_=>.bad
theorem fd_all:FnD K cl ex (fun xs H Q=>∃(l:ad)(bs:List Bool),xs=[.ref l]/\SqL K H l (bs.map V.bl)/\Q (.bl (bs.all id)) H) allF:=fun α m H x d Q W r h=>by
 unfold allF at h;split at h
 ·split at h
  ·rename_i ns e;obtain⟨v,rfl,R⟩:=r.one_of;obtain⟨xs,c,E⟩:=yaB.mp e;obtain⟨p,ys,rfl,a,b⟩:=zgl W c R;rw[zid E b]at a;exact⟨p,ns,rfl,a,PQ.ok W h _ zkE⟩
  ·exact h.elim
 ·exact h.elim
end
def zcr(ty:D->Sto->Bool)(g:D->List D->Sto->Res D)(fo:EV)(fr:AV):EV:=fun ρ m=>(fo ρ m).bind fun o m1=>if ty o m1=ac then (fr ρ m1).bind fun ds m2=>g o ds m2 else .bad
def MtD(K:ye)(cl:ae->ad)(ex:XD)(r:V->List V->Hp->VK->Prop)(g:D->List D->Sto->Res D):Prop :=
 ∀(α : List ad)(m:Sto)(H:Hp)(x:D)(xs:List D)(vx:V)(vs:List V)(Q:VK),Wd K cl α m H->Rep K α H x vx->RepL K α H xs vs->PQ K cl ex (g x xs m) α H (fun d α' _ H'=>∀v,Rep K α' H' d v->Q v H')->r vx vs H Q
def ztO(d:D)(_:Sto):Bool:=match d with
 |.str _=>ac|_=>ag
def zbM(d:D)(m:Sto):Bool:=match d with
 |.lst _=>ac|.ob k=>match m[k]? with
  |some (.lst _)=>ac|_=>ag
 |_=>ag
def ztN(d:D)(_:Sto):Bool:=match d with
 |.tup _=>ac|_=>ag
variable{o:ak}{es:List ak}{fo:EV}{name:ae}{apos cpos:ay}{r:V->List V->Hp->VK->Prop}
section
variable{e:ak}{fr:AV}{T id:String}{g:D->List D->Sto->Res D}{ty:D->Sto->Bool}
theorem zt7(h:ztO d m=ac)(W:Wd K cl α m H)(r:Rep K α H d v):tyV K "str" v H:=by
 cases d with
 |str z=>rw[Rep]at r;subst r;rfl|_=>cases h
theorem zdO(h:zbM d m=ac)(W:Wd K cl α m H)(r:Rep K α H d v):tyV K "list" v H:=by
 unfold zbM at h;split at h
 ·rw[Rep]at r;obtain⟨a,ys,rfl,_,b,R⟩:=r;exact .inl ⟨rfl,ys,.inl b⟩
 ·rw[Rep]at r;obtain⟨a,ha,rfl⟩:=r;split at h
  ·obtain⟨ys,b,_⟩:=W.lst ha ‹_›;exact .inl ⟨rfl,ys,SqL.of b⟩
  ·cases h
 ·cases h
theorem tBM_of(b:∀{α : List ad}{m:Sto}{H:Hp}{d:D}{v:V},ty d m=ac->Wd X.K cl α m H->Rep X.K α H d v->tyV X.K T v H)(hd:MtD X.K cl ex r g):∀σ H Q,tD X.K cl ex (zcr ty g fo fr) σ H Q->tBM X.K T r (tD X.K cl ex fo) (tDA X.K cl ex fr) σ H Q:=fun σ H Q j=>ex3 j fun α ρ m W hr h=>
 tD.use W hr h fun e m1 n d v o w hr1 c q=>by
  obtain⟨i,q⟩:=PQ.if q;exact⟨b i w c,tDA.use w hr1 q fun a m2 l ds vs E k hr2 R f=>hd a m2 l d ds v vs Q k (c.mono w E) R f⟩
theorem zfp(p:PlainAttrs T)(slot:Slot T name id)(f:typeOf (.builtin id)=pure (.type "method_descriptor"))(hm:MtR X id r)(j:∀{α : List ad}{m:Sto}{H:Hp}{d:D}{v:V},ty d m=ac->Wd X.K cl α m H->Rep X.K α H d v->tyV X.K T v H)(hd:MtD X.K cl ex r g)(i:QE X cl ex o fo)(ha:QA X cl ex (e::es) fr)(b:autoParam (bB o name X.env (eval o X.env)=eval o X.env) AutoP.a3._auto_1)(c:autoParam (((aB cpos (au (e::es) X.env)).all (fun x=> !x.1)&&(aL cpos (aM [] X.env)).all (fun x=>x.1.isSome)&&decide ((e::es).length+([]:List aV).length+(if ([]:List aV).isEmpty then 0 else 1)<30))=ac) AutoP.a3._auto_1)(a:autoParam ((apos.endLine==cpos.line)=ac) AutoP.a3._auto_1)(hs:autoParam (au (e::es) X.env=(ag,eval e X.env)::au es X.env) AutoP.a3._auto_1)(h:autoParam ((aB cpos (au es X.env)).any (·.1)=ag) AutoP.a3._auto_1) : QE X cl ex (.Call (.Attribute o name apos) (e::es) [] cpos) (zcr ty g fo fr) :=
 ⟨PE.weak (pe_bm p slot f hm i.out ha.out b c a hs h) (tBM_of j hd)⟩
def zla(o:D)(ds:List D)(m:Sto):Res D:=match o,ds with
 |.str z,[d]=>match (lOf d m).bind zgP with
  |some t=>if JoinOk z t=ac then .ok (.str (Txt.join z t)) m else .bad|none=>.bad
 |_,_=>.bad
theorem zri:MtD K cl ex (fun x xs H Q=>∃(z:ae)(l:ad)(t:List ae),x = .str z/\xs=[.ref l]/\SqL K H l (t.map V.str)/\JoinOk z t=ac/\Q (.str (Txt.join z t)) H) zla:=fun α m H x xs g vs Q W R r h=>by
 unfold zla at h;split at h
 ·split at h
  ·rename_i e;obtain⟨d,h⟩:=PQ.if h;rw[Rep]at R;obtain⟨v,rfl,b⟩:=r.one_of;obtain⟨xs,f,E⟩:=yaB.mp e;obtain⟨p,ys,rfl,a,c⟩:=zgl W f b;rw[zjd E c]at a;exact⟨_,p,_,R,rfl,a,d,PQ.ok W h _ zva⟩
  ·exact h.elim
 ·exact h.elim
def zbB(o:D)(ds:List D)(m:Sto):Res D:=match o,ds with
 |.ob k,[d]=>match m[k]? with
  |some (.lst xs)=>if xs.length<sizeLine then .ok .non (m.set k (.lst (xs++[d]))) else .bad|_=>.bad
 |_,_=>.bad
theorem zb4:MtD K cl ex zqi zbB:=fun α m H x xs V vs Q W R r h=>by
 unfold zbB at h;split at h
 ·split at h
  ·rename_i k d _ ds e;obtain⟨f,h⟩:=PQ.if h;rw[Rep]at R;obtain⟨a,ha,rfl⟩:=R;obtain⟨v,rfl,c⟩:=r.one_of;obtain⟨ys,g,b⟩:=W.lst ha e;obtain⟨w,i⟩:=W.set (u := .lst (ys++[v])) (o := .lst (ds++[d])) ha fun E=>⟨_,zaD,RepL.append (b.mono W E) (RepL.one (c.mono W E))⟩;exact⟨a,ys,v,rfl,rfl,g,by rw[<- b.length];exact f,h _ _ i w _ repN⟩
  ·exact h.elim
 ·exact h.elim
def zpq(o:D)(ds:List D)(m:Sto):Res D:=match o,ds with
 |.ob k,[.int i]=>match m[k]? with
  |some (.lst xs)=>if -(2^63)<=i/\i<2^63 then match bv i xs.length with
   |some j=>match xs[j]? with
    |some d=>.ok d (m.set k (.lst (xs.eraseIdx j)))|none=>.bad
   |none=>.bad else .bad
  |_=>.bad
 |_,_=>.bad
theorem RepL.erase(j:Nat)(r:RepL K α H ds vs):RepL K α H (ds.eraseIdx j) (vs.eraseIdx j):=by
 rw[ybw,ybw];exact RepL.append (r.take j) (r.drop (j+1))
theorem zrh:MtD K cl ex zud zpq:=fun α m H x xs V vs Q W c r h=>by
 unfold zpq at h;split at h
 ·split at h
  ·rename_i k i _ ds e;obtain⟨g,h⟩:=PQ.if h;rw[Rep]at c;obtain⟨a,ha,rfl⟩:=c;obtain⟨v,rfl,f⟩:=r.one_of;rw[Rep]at f;subst f;obtain⟨ys,p,b⟩:=W.lst ha e;split at h
   ·rename_i j q;split at h
    ·rename_i d s;obtain⟨w,n,R⟩:=b.get s;obtain⟨t,l⟩:=W.set (u := .lst (ys.eraseIdx j)) (o := .lst (ds.eraseIdx j)) ha fun E=>⟨_,zaD,(b.mono W E).erase j⟩;exact⟨a,ys,i,j,w,rfl,rfl,p,g.1,g.2,by rw[<- b.length];exact q,n,h _ _ l t _ (R.mono W l)⟩
    ·exact h.elim
   ·exact h.elim
  ·exact h.elim
 ·exact h.elim
end
variable{x:ae}{p:ay}
section
theorem zo3:MtM X "tuple.index" (fun x xs H Q=>∃(a:ad)(ns:List Int)(v:Int)(j:Nat)(h:j<ns.length),x = .ref a/\xs=[.int v]/\SqT X.K H a (ns.map V.int)/\ns[j]=v/\(∀m (hm:m<ns.length),m<j->ns[m]≠v)/\Q (.int (j:Int)) H):=by
 intro pins s σ H x xs v us Q I R rs h;obtain⟨a,ns,z,j,A,rfl,rfl,ha,o,d,q⟩:=h;cases R;obtain⟨u,rfl,t,rfl⟩:=zcB rs;obtain⟨its,r,p,_⟩:=I.tuple ha;have k:ns.length=its.length:=by rw[<- r.length,yj]
 have c:∀m (hm:m<ns.length),∃t',its[m]'(by omega) = .int ns[m] t':=fun m hm=>by
  obtain⟨t',e⟩:=zpz r (i:=m) (v:=its[m]'(by omega)) (by simp);refine⟨t',?_⟩;rw[e,zrQ hm]
 have f1:zlu (.int z)=ac:=rfl;have f2:(ns.map V.int).all zlu=ac:=by simp[zlu]
 obtain⟨⟨cls,D,data,sl⟩,g,l,n,hd⟩:=id p;simp only at l hd;subst l hd;refine bF ydY ⟨_,g,rfl⟩ PySem.F.entry_tuple_index (PySem.F.args_tuple_index_2 _ _) (zjk a its.toArray n D sl (.int z t) (eqU (.int z)) j (by simp;omega) ?_ ?_) ⟨g,?_,?_⟩
 ·obtain⟨t',e⟩:=c j A;simp only[ydZ];rw[e,o];show eqV (.int z) (.int z)=ac;simp[eqV]
 ·intro m hm f;have b:m<ns.length:=by simp at hm;omega
  obtain⟨t',e⟩:=c m b;simp only[ydZ];rw[e];show eqV (.int ns[m]) (.int z)=ag;have:=d m b f;simp[eqV,this]
 ·intro y w;exact znT (x := .int z) ⟨t,rfl⟩ f1 r f2 y (by simpa using w)
 ·exact⟨.int (j:Int),H,I.tok _,⟨_,rfl⟩,q⟩
def tBMQ(K:ye)(r:V->List V->Hp->VK->Prop)(T:TE)(t:TA):TE:=fun σ H Q=>T σ H fun x H1=>(∃p xs,x = .ref p/\TupAt K H1 p xs)/\t σ H1 fun ys H2=>r x ys H2 Q
theorem pe_bmQ{e:ak}{T:TE}{t:TA}{id:String}(slot:Slot "tuple" name id)(i:typeOf (.builtin id)=pure (.type "method_descriptor"))(hm:MtR X id r)(z:PE X o T)(ha:PA X [e] t)(c:autoParam (bB o name X.env (eval o X.env)=eval o X.env) AutoP.a3._auto_1)(d:autoParam (((aB cpos (au [e] X.env)).all (fun x=> !x.1)&&(aL cpos (aM [] X.env)).all (fun x=>x.1.isSome)&&decide (([e]:List ak).length+([]:List aV).length+(if ([]:List aV).isEmpty then 0 else 1)<30))=ac) AutoP.a3._auto_1)(b:autoParam ((apos.endLine==cpos.line)=ac) AutoP.a3._auto_1)(hs:autoParam (au [e] X.env=[(ag,eval e X.env)]) AutoP.a3._auto_1) : PE X (.Call (.Attribute o name apos) [e] [] cpos) (tBMQ X.K r T t):=by
 intro pins s σ H Q I h;refine wpAny_Call_method_late c d b rfl (thn (z pins s σ H _ I h) ?_);rintro v s1 ⟨x,n,l,R,⟨p,xs,ex,j⟩,u⟩;subst ex;cases R;obtain⟨ob,f,k,g⟩:∃ob,s1.heap.get? p=aa ob/\ob.cls = .type "tuple" /\ ob.dict=ab:=by
  rcases j with j|⟨o,_,_,y,w,K,_⟩
  ·obtain⟨_,_,_,⟨ob,f,k,_⟩,od,g,A⟩:=(show ObjOk X.prog X.w n s1.heap p (.tup xs) from l.hok p _ j);rw[f]at g;cases g;exact⟨ob,f,k,A⟩
  ·exact⟨o,l.kIn p o y,w,K⟩
 refine⟨"tuple", id,PySem.F.plainAttrs_tuple,slot,i,⟨ob,f,k⟩,fun a e=>by cases e;exact⟨ob,f,g⟩,?_⟩;have m:=ha cpos pins s1 σ n _ l u;rw[hs]at m ⊢;refine ydA rfl (ydB ?_);refine thn m ?_;rintro us s2 ⟨vs,C,B,r2,q⟩;exact hm pins s2 σ C (.ref p) vs (.ref p) us Q B rfl r2 q
def zeP(o:D)(ds:List D)(m:Sto):Res D:=match o,ds with
 |.tup xs,[.int v]=>match zeN xs with
  |some ns=>if v∈ns then .ok (.int (ns.idxOf v)) m else .bad|none=>.bad
 |_,_=>.bad
theorem zrg:MtD K cl ex (fun x xs H Q=>∃(a:ad)(ns:List Int)(v:Int)(j:Nat)(h:j<ns.length),x = .ref a/\xs=[.int v]/\SqT K H a (ns.map V.int)/\ns[j]=v/\(∀m (hm:m<ns.length),m<j->ns[m]≠v)/\Q (.int (j:Int)) H) zeP:=fun α m H x xs i vs Q W R r h=>by
 unfold zeP at h;split at h
 ·split at h
  ·rename_i ns e;obtain⟨g,h⟩:=PQ.if h;rw[Rep]at R;obtain⟨a,ys,rfl,d,f⟩:=R;obtain⟨v,rfl,c⟩:=r.one_of;rw[Rep]at c;subst c;have hl:=List.idxOf_lt_length_of_mem g;rw[zdz e f]at d;refine⟨a,ns,_,_,hl,rfl,rfl,d.sq,List.getElem_idxOf hl,fun k l b z=>?_,PQ.ok W h _ zfU⟩;have:=List.not_of_lt_findIdx (xs:=ns) (p:=(· == _)) (by unfold List.idxOf at b;exact b);simp[z]at this
  ·exact h.elim
 ·exact h.elim
theorem zkF{e:ak}{fr:AV}(l:QE X cl ex o fo)(ha:QA X cl ex [e] fr)(c:autoParam (bB o "index" X.env (eval o X.env)=eval o X.env) AutoP.a3._auto_1)(f:autoParam (((aB cpos (au [e] X.env)).all (fun x=> !x.1)&&(aL cpos (aM [] X.env)).all (fun x=>x.1.isSome)&&decide (([e]:List ak).length+([]:List aV).length+(if ([]:List aV).isEmpty then 0 else 1)<30))=ac) AutoP.a3._auto_1)(b:autoParam ((apos.endLine==cpos.line)=ac) AutoP.a3._auto_1)(hs:autoParam (au [e] X.env=[(ag,eval e X.env)]) AutoP.a3._auto_1) : QE X cl ex (.Call (.Attribute o "index" apos) [e] [] cpos) (zcr ztN zeP fo fr) :=
 ⟨PE.weak (pe_bmQ ydY PySem.F.type_tuple_index zo3 l.out ha.out c f b hs) fun σ H Q n=>ex3 n fun α ρ m W hr h=>tD.use W hr h fun i m1 u d v y w hr1 R q=>by
  obtain⟨k,q⟩:=PQ.if q;refine⟨?_,tDA.use w hr1 q fun g m2 t ds vs E s hr2 r j=>zrg g m2 t d ds v vs Q s (R.mono w E) r j⟩;cases d with
  |tup ds=>rw[Rep]at R;obtain⟨a,ys,rfl,p,_⟩:=R;exact⟨a,ys,rfl,p⟩
  |_=>cases k⟩
def tyN(d:D)(m:Sto):Option String:=match d with
 |.non=>aa "NoneType"|.bl _=>aa "bool"|.int _=>aa "int"|.str _=>aa "str"|.flt _=>aa "float"|.tup _=>aa "tuple"|.lst _=>aa "list"|.ob k=>match m[k]? with
  |some (.lst _)=>aa "list"|some (.dct _)=>aa "dict"|_=>ab
 |_=>ab
def isiB(t n:String):Bool:=t==n||(t == "bool" && n == "int")
def zpt(n:String)(d:D)(m:Sto):Res D:=match tyN d m with
 |some t=>.ok (.bl (isiB t n)) m|none=>.bad
def zt5:List String:=["int", "bool", "str", "tuple", "list", "dict"]
theorem zwc{t n:String}(h:tyN d m=aa t)(hn:n∈zt5):ydp K (.type t) (.type n)=aa (isiB t n):=by
 have H:t∈["NoneType", "bool", "int", "str", "float", "tuple", "list", "dict"]:=by
  unfold tyN at h;split at h <;> first | (cases h;simp;done) | (split at h <;> first | (cases h;simp;done) | cases h) | cases h
 simp only[zt5,yB,y9,or_false]at hn H;rcases hn with rfl|rfl|rfl|rfl|rfl|rfl <;> rcases H with rfl|rfl|rfl|rfl|rfl|rfl|rfl|rfl <;> rfl
theorem zsr{n:String}(hn:n∈zt5):CallR X (.builtin "isinstance") (fun xs H Q=>∃cl α m d v t,xs=[v,.ty n]/\Wd X.K cl α m H/\Rep X.K α H d v/\tyN d m=aa t/\Q (.bl (isiB t n)) H):=by
 intro pins s σ H xs us Q I r h;obtain⟨cl,α,m,d,v,t,rfl,W,R,b,q⟩:=h;obtain⟨u,w,rfl,g,f⟩:=zpA r;cases f;have k:=zwc (K:=X.K) b hn;have O:∀{t':af},TyOf X.K H v t'->t' = .type t->wpAny (ao X.prog X.w) X.A (call (.builtin "isinstance") [u,.type n]) (EP X pins σ Q) X.xe s:=fun {t'} ty e=>by
  subst e;exact zrG I g ty k fun tk=>⟨.bl _,H,I.tok _,rfl,q⟩
 unfold tyN at b;split at b
 ·cases b;rw[Rep]at R;subst R;exact O .non rfl
 ·cases b;rw[Rep]at R;subst R;exact O (.bl _) rfl
 ·cases b;rw[Rep]at R;subst R;exact O (.int _) rfl
 ·cases b;rw[Rep]at R;subst R;exact O (.str _) rfl
 ·cases b;rw[Rep]at R;subst R;exact O (.flt _) rfl
 ·cases b;rw[Rep]at R;obtain⟨a,xs,rfl,c,_⟩:=R;rcases c with c|⟨o,_,_,j,i,_⟩
  ·exact O (.tup c) rfl
  ·cases g;exact yaz ydr I.kIn ⟨o,I.kIn a o j,i⟩ k (fun z=>nomatch z) fun tk=>⟨.bl _,H,I.tok _,rfl,q⟩
 ·cases b;rw[Rep]at R;obtain⟨a,xs,rfl,_,c,_⟩:=R;rcases c with c|⟨o,c⟩
  ·exact O (.lst c) rfl
  ·exact O (.frz c) rfl
 ·rw[Rep]at R;obtain⟨a,ha,rfl⟩:=R;split at b
  ·cases b;obtain⟨xs,c,_⟩:=W.lst ha ‹_›;exact O (.lst c) rfl
  ·cases b;obtain⟨xs,c,_⟩:=W.dct ha ‹_›;exact O (.dK c) rfl
  ·cases b
 ·cases b
theorem zkG{e:ak}{p2:ay}{n:String}(hn:n∈zt5)(o:Gl X "isinstance")(hm:X.mg "isinstance" = ab)(f:Gl X x)(c:X.mg x=ab)(hv:aZ x=aa (.type n))(ha:QE X cl ex e fa)(k:autoParam (x ≠ "__name__") AutoP.a1._auto_1)(i:autoParam ((x==("__debug__" : ae))=ag) AutoP.a1._auto_1)(j:autoParam (au [e,.Name x p2] X.env=(ag,eval e X.env)::au [.Name x p2] X.env) AutoP.a3._auto_1)(g:autoParam (au [.Name x p2] X.env=(ag,eval (.Name x p2) X.env)::au [] X.env) AutoP.a3._auto_1)(b:autoParam ((aB pos (au [.Name x p2] X.env)).any (·.1)=ag) AutoP.a3._auto_1) : QE X cl ex (.Call (.Name "isinstance" p) [e,.Name x p2] [] pos) (eUn (zpt n) fa) :=
 ⟨PE.weak (znK (zsr hn) o hm boot_isinstance (zcT ha.out (zcT (zvK (v := .ty n) f c hv rfl k i) zgA g) j) (by decide) (by decide) j b) fun σ H Q l=>ex3 l fun α ρ m W hr h=>tD.use W hr h fun a m1 s d v E w hr1 r q=>by
  unfold zpt at q;split at q
  ·exact⟨cl,a,m1,d,v,_,rfl,w,r,‹_›,PQ.ok w q _ zkE⟩
  ·exact q.elim⟩
def inB(x:D)(ds:List D):Option Bool:=if zeD x&&(pyOkL ds&&PyData.canLayAll0 (pyL ds)) then aa ((pyL ds).any fun y=>PyData.eqv y (py x)) else ab
def inO(x y:D)(m:Sto):Option Bool:=match y with
 |.tup ds=>inB x ds|.lst ds=>inB x ds|.ob k=>match m[k]? with
  |some (.lst ds)=>inB x ds|some (.dct kvs)=>match x with
   |.int i=>aa (zgQ kvs (.inl i)).isSome|.str z=>aa (zgQ kvs (.inr z)).isSome|_=>ab
  |_=>ab
 |.str j=>match x with
  |.str i=>aa (!(ybZ j i 0 j.length 1).isEmpty)|_=>ab
 |_=>ab
def inD(x y:D)(m:Sto):Res D:=match inO x y m with
 |some b=>.ok (.bl b) m|none=>.bad
def zkX(x y:D)(m:Sto):Res D:=match inO x y m with
 |some b=>.ok (.bl (!b)) m|none=>.bad
def rInS(K:ye)(f:Bool->Bool):R2:=fun vx vy H Q=>∃(α : List ad)(x:D)(ds:List D)(p:ad)(ys:List V),vy = .ref p/\(SqL K H p ys∨SqT K H p ys)/\RepL K α H ds ys/\Rep K α H x vx/\zeD x=ac/\pyOkL ds=ac/\PyData.canLayAll0 (pyL ds)=ac/\Q (.bl (f ((pyL ds).any fun y=>PyData.eqv y (py x)))) H
def rInD(f:Bool->Bool):R2:=fun x y H Q=>∃a o,y = .ref a/\DGet H a x o/\Q (.bl (f o.isSome)) H
def rInT(f:Bool->Bool):R2:=fun x y H Q=>∃i j,x = .str i/\y = .str j/\Q (.bl (f (!(ybZ j i 0 j.length 1).isEmpty))) H
def zvb(K:ye)(f:Bool->Bool):R2:=fun x y H Q=>rInS K f x y H Q∨rInD f x y H Q∨rInT f x y H Q
theorem op_inS(k:X.A.units+65<aF):OpR X (az .In) (rInS X.K id):=by
 intro pins s σ H l V v u Q I j i h;obtain⟨α,x,ds,p,ys,rfl,sq,c,r2,d,ok,C,q⟩:=h;cases i;rw[zeD,yac]at d;obtain⟨bs,f⟩:=zcR I d.1 r2 j;have g:=SeqAt.canLay_of_shaped d.2;have R:=PyProof.Rows.room_in_shaped (A:=X.A) (xs:=pyL ds) d.2 k;rcases sq with sq|sq
 ·obtain⟨its,r,⟨o,n,b,E,_,e⟩,_⟩:=I.list sq;obtain⟨as,a⟩:=rep_readsL I ok c r;exact SeqAt.in_list_reads (Reads.list b E e (by simpa using a)) f C g R ⟨.bl _,H,I,rfl,q⟩
 ·obtain⟨its,r,⟨o,b,E,n,e⟩,_⟩:=I.tuple sq;obtain⟨as,a⟩:=rep_readsL I ok c r;exact SeqAt.in_tuple_reads (Reads.tuple b E e (by simpa using a)) f C g R ⟨.bl _,H,I,rfl,q⟩
theorem zqD(k:X.A.units+65<aF):OpR X (az .NotIn) (rInS X.K not):=by
 intro pins s σ H l V v u Q I j i h;obtain⟨α,x,ds,p,ys,rfl,sq,c,r2,d,ok,C,q⟩:=h;cases i;rw[zeD,yac]at d;obtain⟨bs,f⟩:=zcR I d.1 r2 j;have g:=SeqAt.canLay_of_shaped d.2;have R:=PyProof.Rows.room_in_shaped (A:=X.A) (xs:=pyL ds) d.2 k;rcases sq with sq|sq
 ·obtain⟨its,r,⟨o,n,b,E,_,e⟩,_⟩:=I.list sq;obtain⟨as,a⟩:=rep_readsL I ok c r;exact SeqAt.notIn_list_reads (Reads.list b E e (by simpa using a)) f C g R ⟨.bl _,H,I,rfl,q⟩
 ·obtain⟨its,r,⟨o,b,E,n,e⟩,_⟩:=I.tuple sq;obtain⟨as,a⟩:=rep_readsL I ok c r;exact SeqAt.notIn_tuple_reads (Reads.tuple b E e (by simpa using a)) f C g R ⟨.bl _,H,I,rfl,q⟩
theorem op_inD(b:X.A.units+1<aF):OpR X (az .In) (rInD id):=by
 intro pins s σ H x y v u Q I R r h;obtain⟨a,o,rfl,g,q⟩:=h;cases r;exact d_in b I g R fun S i=>⟨.bl _,H,i,rfl,q⟩
theorem zqE(b:X.A.units+1<aF):OpR X (az .NotIn) (rInD not):=by
 intro pins s σ H x y v u Q I R r h;obtain⟨a,o,rfl,g,q⟩:=h;cases r;exact zwt b I g R fun S i=>⟨.bl _,H,i,rfl,q⟩
theorem hu65{A:aA}{k:Nat}(hr:Room k A):A.units+65<aF:=by have:=hr.un;omega
theorem zqK{k:Nat}(hr:Room k X.A):OpR X (az .In) (zvb X.K id):=OpR.or (op_inS (hu65 hr)) (OpR.or (op_inD (zrM hr)) zqJ)
theorem zqF{k:Nat}(hr:Room k X.A):OpR X (az .NotIn) (zvb X.K not):=OpR.or (zqD (hu65 hr)) (OpR.or (zqE (zrM hr)) zkK)
theorem zrL{x:D}(W:Wd K cl α m H)(e:inO x y m=aa b)(c:Rep K α H x vx)(r:Rep K α H y vy)(q:Q (.bl (f b)) H):zvb K f vx vy H Q:=by
 have seq:∀{ds:List D}{p:ad}{ys:List V},inB x ds=aa b->vy = .ref p->(SqL K H p ys∨SqT K H p ys)->RepL K α H ds ys->zvb K f vx vy H Q:=fun {ds p ys} E j n l=>by
  unfold inB at E;split at E
  ·rename_i i;rw[yac,yac]at i;exact .inl ⟨α,x,ds,p,ys,j,n,l,c,i.1,i.2.1,i.2.2,by rw[yad E];exact q⟩
  ·cases E
 unfold inO at e;split at e
 ·rw[Rep]at r;obtain⟨a,ys,rfl,g,R⟩:=r;exact seq e rfl (.inr g.sq) R
 ·rw[Rep]at r;obtain⟨a,ys,rfl,_,g,R⟩:=r;exact seq e rfl (.inl (.inl g)) R
 ·rw[Rep]at r;obtain⟨a,ha,rfl⟩:=r;split at e
  ·obtain⟨ys,g,R⟩:=W.lst ha ‹_›;exact seq e rfl (.inl (SqL.of g)) R
  ·obtain⟨ys,g,R⟩:=W.dct ha ‹_›;have key:∀{k:L2.Key},vx=kV k->aa (zgQ _ k).isSome=aa b->zvb K f vx (.ref a) H Q:=fun {k} E j=>by
    refine .inr (.inl ⟨a,zlU ys k,rfl,by rw[E];exact DGet.k g,?_⟩);have:(zlU ys k).isSome=b:=by
     rw[<- yad j];cases h:zgQ _ k with
     |none=>rw[(RepKV.val R).2 h];rfl|some d=>obtain⟨v,hv,_⟩:=(RepKV.val R).1 d h;rw[hv];rfl
    rw[this];exact q
   split at e
   ·rw[Rep]at c;exact key (k := .inl _) c e
   ·rw[Rep]at c;exact key (k := .inr _) c e
   ·cases e
  ·cases e
 ·split at e
  ·rw[Rep]at c;rw[Rep]at r;exact .inr (.inr ⟨_,_,c,r,by rw[yad e];exact q⟩)
  ·cases e
 ·cases e
theorem zvW:OpD K cl ex (zvb K id) inD:=fun α m H x y V v Q W R r h=>by
 unfold inD at h;split at h
 ·exact zrL (f:=id) W ‹_› R r (PQ.ok W h _ zkE)
 ·exact h.elim
theorem ztz:OpD K cl ex (zvb K not) zkX:=fun α m H x y V v Q W R r h=>by
 unfold zkX at h;split at h
 ·exact zrL (f:=not) W ‹_› R r (PQ.ok W h _ zkE)
 ·exact h.elim
end
variable{ks:List (Option ak)}
section
variable{i e value:ak}{fi fv:EV}{fr:AV}{pos':ay}
def zk9(d:D):Option L2.Key:=match d with
 |.int i=>aa (.inl i)|.str z=>aa (.inr z)|_=>ab
def putS(x y v:D)(m:Sto):Res Unit:=match x with
 |.ob k=>match m[k]?,zk9 y with
  |some (.dct kvs),aa q=>if kvs.length<sizeLine then .ok () (m.set k (.dct (zjM kvs q v))) else .bad|some (.lst ds),aa (.inl i)=>match ixN ds.length i with
   |some j=>.ok () (m.set k (.lst (ds.set j v)))|none=>.bad
  |_,_=>.bad
 |_=>.bad
theorem zk8{k:L2.Key}(h:zk9 d=aa k)(r:Rep K α H d v):v=kV k:=by
 unfold zk9 at h;split at h
 ·cases h;rw[Rep]at r;exact r
 ·cases h;rw[Rep]at r;exact r
 ·cases h
def zin(x y v:D)(m:Sto):Res Unit:=match x with
 |.ob k=>match m[k]? with
  |some (.dct kvs)=>match zk9 y with
   |some q=>if kvs.length<sizeLine then .ok () (m.set k (.dct (zjM kvs q v))) else .bad|none=>.bad
  |_=>.bad
 |_=>.bad
def zoJ(fo fi f:EV):SV:=fun ρ m=>(f ρ m).bind fun v m1=>(fo ρ m1).bind fun x m2=>(fi ρ m2).bind fun y a=>(zin x y v a).bind fun _ M=>.ok (.nx ρ) M
theorem zqj(A:X.A.units+1<aF)(B:QE X cl ex o fo)(hi:QE X cl ex i fi)(hv:QE X cl ex value fv)(hs:bo value (aa (.Subscript o i pos')) pos.line X.env=pure ag) : QS X cl ex (.Assign [.Subscript o i pos'] value pos) (zoJ fo fi fv) :=
 ⟨PS.weak (zvr A B.out hi.out hv.out hs) fun D σ H C=>ex3 C fun α ρ m W hr h=>tD.use W hr h fun p m1 S d v T g hr1 R z=>tD.use g hr1 z fun n m2 P dx x N f hr2 r t=>tD.use f hr2 t fun b M L O y l w hr3 s Q=>by
  have R:=R.mono g (N.trans l);have r:=r.mono f l;unfold zin at Q;split at Q
  ·rw[Rep]at r;obtain⟨a,ha,rfl⟩:=r;split at Q
   ·rename_i k _ kvs e;split at Q
    ·rename_i q J;split at Q
     ·rename_i F;obtain⟨ys,G,c⟩:=w.dct ha e;obtain⟨K,j⟩:=w.set (u := .dK (zfr ys q v)) (o := .dct (zjM kvs q d)) ha fun E=>⟨_,zaD,RepKV.put (R.mono w E) (c.mono w E)⟩;refine⟨a,_,rfl,by rw[zk8 J s];exact DPut.k G (by rw[<- c.length];exact F),?_⟩;exact(show PQ X.K cl ex (.ok (.nx ρ) (M.set k (.dct (zjM kvs q d)))) b L fun I α' _ H'=>zjg X.K D I α' H' from Q) _ _ j K _ (hr3.mono w j)
     ·exact Q.elim
    ·exact Q.elim
   ·exact Q.elim
  ·exact Q.elim⟩
def zhB:List (ae×EV)->En->Sto->Res (List (L2.Key×D))
 |[],_,m=>.ok [] m| (k,f)::r,ρ,m=>(f ρ m).bind fun d m1=>(zhB r ρ m1).bind fun ps m2=>.ok ((.inr k,d)::ps) m2
def zre(more:List (L2.Key×D)):List (L2.Key×D):=more.foldl (fun a k=>zjM a k.1 k.2) []
def ziE(fs:List (ae×EV)):EV:=fun ρ m=>(zhB fs ρ m).bind fun ps m1=>.ok (.ob m1.length) (m1++[.dct (zre ps)])
inductive QPs(X:Cx)(cl:ae->ad)(ex:XD):List (Option ak)->List ak->List (ae×EV)->Prop where
 |nil:QPs X cl ex [] [] []
 |cons {k:ae} {j} {pk:ay} {v:ak} {f:EV} {ks:List (Option ak)} {vs:List ak} {fs:List (ae×EV)}:QE X cl ex v f->QPs X cl ex ks vs fs->QPs X cl ex (aa (.Constant (.str k) j pk)::ks) (v::vs) ((k,f)::fs)
theorem QPs.pps{vs:List ak}{fs:List (ae×EV)}(h:QPs X cl ex ks vs fs):PPs X pos ks vs (fs.map fun q=>(tC (.str q.1),tD X.K cl ex q.2)):=by
 induction h with
 |nil=>exact zvs|cons hv _ i=>exact ztk zui hv.out i
theorem QPs.keys{vs:List ak}{fs:List (ae×EV)}(h:QPs X cl ex ks vs fs):ks.all (·.isSome)=ac/\ks.length=vs.length/\ks.length=fs.length:=by
 induction h with
 |nil=>exact⟨rfl,rfl,rfl⟩|cons _ _ i=>exact⟨by rw[yb5,i.1];rfl,by rw[yD,yD,i.2.1],by rw[yD,yD,i.2.2]⟩
theorem zko{K:ye}{σ : L2.St}{ρ : En}{R:RD (List (L2.Key×D))}:∀(fs:List (ae×EV)){α : List ad}{m:Sto}{H:Hp}{Q:List (V×V)->Hp->Prop},Wd K cl α m H->RepE K α H ρ σ -> PQ K cl ex (zhB fs ρ m) α H R →
  (∀a m1 H1 ps vs,Ext α H a H1->Wd K cl a m1 H1->RepE K a H1 ρ σ -> ps.length=fs.length->RepKV K a H1 ps vs->R ps a m1 H1->Q (vs.map fun l=>(kV l.1,l.2)) H1)->znr (fs.map fun q=>(tC (.str q.1),tD K cl ex q.2)) σ H Q
 |[],α,m,H,Q,W,hr,h,i=>i α m H [] [] (Ext.refl W) W hr rfl rfl (PQ.ok W h)| (k,f)::r,α,m,H,Q,W,hr,h,i=>by
  refine tD.use W hr h fun a m1 H1 d v p j hr1 n o=>?_;refine zko (R:=fun ps b m2 c=>R ((.inr k,d)::ps) b m2 c) r j hr1 (PQ.mono (Ext.refl j) o.bind fun ps b m2 c E w g=>PQ.ok w g) fun b m2 c ps vs E w hr2 hl e g=>?_;exact i b m2 c ((.inr k,d)::ps) ((.inr k,v)::vs) (p.trans E) w hr2 (by rw[yD,yD,hl]) ⟨v,vs,rfl,n.mono j E,e⟩ g
theorem zkB{K:ye}{α : List ad}{H:Hp}:∀(ps:List (L2.Key×D)){vs:List (L2.Key×V)}{qs:List (L2.Key×D)}{us:List (L2.Key×V)},RepKV K α H ps vs->RepKV K α H qs us->RepKV K α H (ps.foldl (fun a k=>zjM a k.1 k.2) qs) (zef us vs)
 |[],_,_,_,h,h'=>by
  cases (show _=[] from h);exact h'
 |p::r,_,_,_,⟨v,r',e,h1,h2⟩,h'=>by
  subst e;exact(show RepKV K α H _ (zef (zfr _ p.1 v) r') from zkB r h2 (RepKV.put h1 h'))
theorem zvh{vs:List ak}{fs:List (ae×EV)}(h:QPs X cl ex ks vs fs)(G:ks≠[])(k:ks.length<=15):QE X cl ex (.Dict ks vs pos) (ziE fs) :=
 ⟨PE.weak (zvH h.pps h.keys.1 h.keys.2.1 G k) fun σ H Q F=>ex3 F fun α ρ m W hr q p j=>by
  have S:=Same.new (o := .dK []) j;have I:=W.same S;have E0:=Ext.of_same W S;refine zko (R:=fun ps f m1 g=>PQ X.K cl ex (.ok (.ob m1.length) (m1++[.dct (zre ps)])) α H fun d α' _ H'=>∀v,Rep X.K α' H' d v->Q v H') fs I (hr.mono W E0) ?_ fun f m1 g ps us B C hr1 hl r D=>?_
  ·cases t:zhB fs ρ m with
   |ok ps m1=>rw[show ziE fs ρ m=(zhB fs ρ m).bind _ from rfl,t]at q;exact fun _ _ _ _=>q|exc c m1=>rw[show ziE fs ρ m=(zhB fs ρ m).bind _ from rfl,t]at q;exact fun l J A y=>q l J (E0.trans A) y|bad=>rw[show ziE fs ρ m=(zhB fs ρ m).bind _ from rfl,t]at q;exact q
  have pn:p∉α := W.nin j;have pk:g p=aa (.dK []):=B.keep p _ zaD pn;have E:Ext α H f g:=E0.trans B;have P:p∉f:=fun z=>by
   obtain⟨β,rfl,x⟩:=B.pre;rcases yae.mp z with z|z
   ·exact pn z
   ·have:=x p z;rw[zaD]at this;cases this
  refine⟨pk,us,rfl,by rw[<- r.length,hl,<- h.keys.2.2];exact k,?_⟩;have keep:∀a o,g a=aa o->a≠p->upd g p (.dK (zef [] us)) a=aa o:=fun a o e n=>by rw[zax n];exact e
  have kp:Kp f g (f++[p]) (upd g p (.dK (zef [] us))):=by
   refine⟨⟨[p],rfl⟩,(fun a xs e=>keep a _ e fun z=>by rw[z,pk]at e;cases e),(fun a xs n e=>?_),(fun a xs e=>keep a _ e fun z=>by rw[z,pk]at e;cases e),fun a xs e=>keep a _ e fun z=>by rw[z,pk]at e;cases e⟩;have i:a≠p:=fun z=>by
    rcases e with e|⟨_,e⟩ <;> rw[z,pk]at e <;> cases e
   refine⟨fun z=>?_,?_⟩
   ·rcases yae.mp z with z|z
    ·exact n z
    ·exact i (y8.mp z)
   ·rcases e with e|⟨o,e⟩
    ·exact .inl (keep a _ e i)
    ·exact .inr ⟨o,keep a _ e i⟩
  have y:=C.join (u := .dK (zef [] us)) (o := .dct (zre ps)) P kp ⟨_,zaD,zkB ps (r.kp kp) (show RepKV X.K _ _ [] [] from rfl)⟩;have A:Ext α H (f++[p]) (upd g p (.dK (zef [] us))):=by
   obtain⟨β,s,x⟩:=E.pre;refine⟨⟨β ++ [p],by rw[s,yaq],fun b w=>?_⟩,fun a o e n=>?_,fun a ha=>?_,fun a o u e=>keep a _ (E.frzs a o u e) (zaI e j)⟩
   ·rcases yae.mp w with z|z
    ·exact x b z
    ·rw[y8.mp z];exact j
   ·exact keep a o (E.keep a o e n) (zaI e j)
   ·rw[zax (fun z=>pn (by rw[<- z];exact ha))];exact E.there a ha
  refine D _ _ A y _ ?_;rw[Rep];refine⟨p,?_,rfl⟩;rw[<- C.len,yan (yh _)];simp⟩
def zta(ds:List D)(m:Sto):Res (List D):=match ds with
 |[.int n]=>if 0<=n/\n<2^62 then .ok ((yJ n.toNat).map fun i:Nat=>.int (n-1-i)) m else .bad|_=>.bad
theorem zqc:∃f:List D->Sto->Res (List D),f=zta:=⟨_,rfl⟩
def revR:List D->Sto->Res (List D):=yaZ zqc
theorem zqd:revR=zta:=ya0 zqc
theorem zve{a:ak}{tg:ak}{p2 P:ay}(l:Gl X "reversed")(hm:X.mg "reversed" = ab)(f:Gl X "range")(e:X.mg "range" = ab)(ha:QA X cl ex [a] fr)(b:autoParam (au [a] X.env=(ag,eval a X.env)::au [] X.env) AutoP.a3._auto_1)(hs:autoParam (au [.Call (.Name "range" p2) [a] [] P] X.env=[(ag,eval (.Call (.Name "range" p2) [a] [] P) X.env)]) AutoP.a3._auto_1):QI X cl ex tg (.Call (.Name "reversed" p) [.Call (.Name "range" p2) [a] [] P] [] pos) (znb revR fr) :=
 ⟨PI.weak (pi_rev l hm (zkJ zt3 f e boot_range ha.out (by decide) (by decide) b rfl) hs) fun σ H R k=>ex3 k fun α ρ m W hr q=>tDA.use W hr q fun g m1 s d v E o hr1 j Q=>by
  rw[zqd]at Q;unfold zta at Q;split at Q
  ·obtain⟨h,n⟩:=PQ.if Q;obtain⟨w,rfl,r⟩:=j.one_of;rw[Rep]at r;subst r;refine⟨_,rfl,h.1,h.2,fun pr c=>⟨pr,_,rfl,zaD,h.1,h.2,PQ.okS o (Same.new c) n _ (itd_f fun i α H=>by rw[Rep])⟩⟩
  ·exact Q.elim⟩
end
structure FnX(P:ap)(w:al)(K:ye)(mg:ae->Option af)(base:ax)(cl:ae->ad)(x:ae)(k n:Nat)(g:List D->Sto->Res D):Prop where
 ex:∃(f:ad)(fd:aH)(ps:List ae),mg x=aa (.ref f)/\yaK K (.ref f)=ac/\Binds K fd ps []/\FnOk P w K mg base CX0 k f fd ps (spD K cl X0 n g)
variable{n:Nat}{g:List D->Sto->Res D}
theorem qe_fn{e:ak}{fr:AV}{k:Nat}(h:FnX X.prog X.w X.K X.mg X.base cl x k n g)(hn:n=(e::es).length)(hr:Room k X.A)(c:Gl X x)(ha:QA X cl X0 (e::es) fr)(H:∀ρ m ds m1,fr ρ m = .ok ds m1->ds.length=(e::es).length)(b:autoParam ((x==("__debug__" : ae))=ag) AutoP.a1._auto_1)(d:autoParam (au (e::es) X.env=(ag,eval e X.env)::au es X.env) AutoP.a3._auto_1)(a:autoParam ((aB pos (au es X.env)).any (·.1)=ag) AutoP.a3._auto_1) : QE X cl X0 (.Call (.Name x p) (e::es) [] pos) (eFn g fr):=by
 obtain⟨f,fd,ps,o,l,j,i⟩:=h.ex;exact zvi i hn hr c o l j ha H b d a
variable{P:ap}{mg:ae->Option af}{base:ax}{qual:ae}{st:am}{fd:aH}{N ps:List ae}{body:SV}
theorem FnX.mk'{w:al}{f:ad}{k:Nat}(F:Fun K x qual st f fd)(b:Binds K fd ps [])(m:mg x=aa (.ref f))(S:FnScope N ps (zai st))(hn:n=ps.length)(h:∀(cdv:af)(A:aA)(outer:List ybx)(s:aj)(H:Hp)(E:XK),Room k (A.deeper (aN qual (zai st) s.heap.objs.size f cdv))->QSs (zpu CX0 P w K mg base N qual (zai st) f cdv A outer s H E).nox cl X0 (zcs st) body):FnX P w K mg base cl x (k+1) n (zaU N.length body) :=
 ⟨f,fd,ps,m,F.kp,b,F.ok S (fun vs H Q E h=>by rw[<- hn];exact h.1) fun cdv A outer s H vs Q E hr q=>⟨_,(h cdv A outer s H E hr).out,fn_d q⟩⟩
mutual
def clsd(n:Nat):D->Bool
 |.ob k=>decide (k<n)|.tup ds=>clsdL n ds|.lst ds=>clsdL n ds|.scr ds=>clsdL n ds|.exn _ ds=>clsdL n ds|_=>ac
def clsdL(n:Nat):List D->Bool
 |[]=>ac|d::r=>clsd n d&&clsdL n r
end
variable{β : List ad}{m1:Sto}
section
mutual
theorem Rep.clsd:∀{d:D}{v:V},Rep K α H d v->MD.clsd α.length d=ac
 |.non,_,_=>by simp[MD.clsd]|.bl _,_,_=>by simp[MD.clsd]|.int _,_,_=>by simp[MD.clsd]|.str _,_,_=>by simp[MD.clsd]|.flt _,_,_=>by simp[MD.clsd]|.byt _,_,_=>by simp[MD.clsd]|.ob k,_,h=>by
  rw[Rep]at h;obtain⟨a,h1,_⟩:=h;rw[MD.clsd];exact decide_eq_true (yi.mp h1).1
 |.tup ds,_,h=>by
  rw[Rep]at h;obtain⟨_,_,_,_,b⟩:=h;rw[MD.clsd];exact RepL.clsd b
 |.lst ds,_,h=>by
  rw[Rep]at h;obtain⟨_,_,_,_,_,b⟩:=h;rw[MD.clsd];exact RepL.clsd b
 |.scr ds,_,h=>by
  rw[Rep]at h;obtain⟨_,_,_,_,b⟩:=h;rw[MD.clsd];exact RepL.clsd b
 |.exn _ ds,_,h=>by
  rw[Rep]at h;obtain⟨_,_,_,_,_,_,_,_,b⟩:=h;rw[MD.clsd];exact RepL.clsd b
theorem RepL.clsd:∀{ds:List D}{vs:List V},RepL K α H ds vs->clsdL α.length ds=ac
 |[],_,_=>by simp[clsdL]|_::_,_,h=>by
  rw[RepL]at h;obtain⟨_,_,_,h1,h2⟩:=h;rw[clsdL,yac];exact⟨Rep.clsd h1,RepL.clsd h2⟩
end
mutual
theorem Rep.less:∀{d:D}{v:V},MD.clsd α.length d=ac->Rep K (α ++ β) H d v->Rep K α H d v
 |.non,_,_,h=>by simpa [Rep] using h|.bl _,_,_,h=>by simpa [Rep] using h|.int _,_,_,h=>by simpa [Rep] using h|.str _,_,_,h=>by simpa [Rep] using h|.flt _,_,_,h=>by simpa [Rep] using h|.byt _,_,_,h=>by simpa [Rep] using h|.ob k,_,c,h=>by
  rw[Rep]at h ⊢;obtain⟨a,h1,h2⟩:=h;rw[MD.clsd]at c;rw[yab (of_decide_eq_true c)]at h1;exact⟨a,h1,h2⟩
 |.tup ds,_,c,h=>by
  rw[Rep]at h ⊢;obtain⟨a,xs,e,h1,h2⟩:=h;rw[MD.clsd]at c;exact⟨a,xs,e,h1,RepL.less c h2⟩
 |.lst ds,_,c,h=>by
  rw[Rep]at h ⊢;obtain⟨a,xs,e,n,h1,h2⟩:=h;rw[MD.clsd]at c;exact⟨a,xs,e,fun z=>n (yaj _ z),h1,RepL.less c h2⟩
 |.scr ds,_,c,h=>by
  rw[Rep]at h ⊢;obtain⟨a,xs,e,h1,h2⟩:=h;rw[MD.clsd]at c;refine⟨a,xs,e,?_,RepL.less c h2⟩;rcases h1 with h1|h1
  ·exact .inl ⟨fun z=>h1.1 (yaj _ z),h1.2⟩
  ·exact .inr h1
 |.exn _ ds,_,c,h=>by
  rw[Rep]at h ⊢;obtain⟨a,C,f,xs,e,n,h1,h2,b⟩:=h;rw[MD.clsd]at c;exact⟨a,C,f,xs,e,n,h1,h2,RepL.less c b⟩
theorem RepL.less:∀{ds:List D}{vs:List V},clsdL α.length ds=ac->RepL K (α ++ β) H ds vs->RepL K α H ds vs
 |[],_,_,h=>by rw[RepL]at h ⊢;exact h|_::_,_,c,h=>by
  rw[RepL]at h ⊢;obtain⟨v,r,e,h1,h2⟩:=h;rw[clsdL,yac]at c;exact⟨v,r,e,Rep.less c.1 h1,RepL.less c.2 h2⟩
end
theorem RepKV.less{a:Hp}:∀{ds:List (L2.Key×D)}{vs us:List (L2.Key×V)},RepKV K α a ds us->RepKV K (α ++ β) H ds vs->RepKV K α H ds vs
 |[],_,_,_,h=>h|_::_,_,_,⟨_,_,_,c1,c2⟩,⟨v,r,e,h1,h2⟩=>⟨v,r,e,h1.less c1.clsd,RepKV.less c2 h2⟩
theorem RepF.less{a:Hp}:∀{ds:List (ae×D)}{vs us:List (ae×V)},RepF K α a ds us->RepF K (α ++ β) H ds vs->RepF K α H ds vs
 |[],_,_,_,h=>h|_::_,_,_,⟨_,_,_,c1,c2⟩,⟨v,r,e,h1,h2⟩=>⟨v,r,e,h1.less c1.clsd,RepF.less c2 h2⟩
theorem Wd.less{g:Hp}(w:Wd K cl α m g)(W:Wd K cl (α ++ β) m1 H)(e:m1.take m.length=m):Wd K cl α m H:=by
 refine⟨w.len,(ycm.mp W.nd).1,fun k a o b h=>?_⟩;have d:=(yi.mp b).1;have hm:k<m.length:=(yi.mp h).1;have f:m1[k]?=aa o:=by
  rw[<- e,ydw hm]at h;exact h
 have q:=W.at' k a o (by rw[yab d];exact b) f;have q0:=w.at' k a o b h;cases o with
 |lst ds=>obtain⟨xs,a1,a2⟩:=q;obtain⟨_,_,b2⟩:=q0;exact⟨xs,a1,a2.less b2.clsd⟩
 |dct ds=>obtain⟨xs,a1,a2⟩:=q;obtain⟨_,_,b2⟩:=q0;exact⟨xs,a1,RepKV.less b2 a2⟩
 |ins c ds=>obtain⟨dx,xs,a1,a2⟩:=q;obtain⟨_,_,_,b2⟩:=q0;exact⟨dx,xs,a1,RepF.less b2 a2⟩
 |hid=>exact q
end
def frz(m:Sto)(n:Nat)(d:D):D:=match d with
 |.ob k=>if n<=k then match m[k]? with
  |some (.lst xs)=>.lst xs|_=>.ob k else .ob k
 |d=>d
open Classical in
def locF(g:List D->Sto->Res D):List D->Sto->Res D:=fun ds m=>(g ds m).bind fun d m1=>if m1.take m.length=m/\clsd m.length (frz m1 m.length d)=ac then .ok (frz m1 m.length d) m else .bad
theorem zrW(m:Sto)(n:Nat)(d:D):frz m n d=d∨∃k xs,d = .ob k/\n<=k/\m[k]?=aa (.lst xs)/\frz m n d = .lst xs:=by
 cases d with
 |ob k=>
  by_cases H:n<=k
  ·cases h:m[k]? with
   |none=>left;simp[frz,h]|some o=>
    cases o with
    |lst xs=>right;exact⟨k,xs,rfl,H,h,by simp[frz,H,h]⟩|dct _=>left;simp[frz,h]|ins _ _=>left;simp[frz,h]|hid=>left;simp[frz,h]
  ·left;simp[frz,H]
 |_=>left;rfl
theorem zu9(W:Wd K cl (α ++ β) m1 H)(e:α.length=m.length)(c:clsd m.length (frz m1 m.length d)=ac)(r:Rep K (α ++ β) H d v):Rep K α H (frz m1 m.length d) v:=by
 rw[<- e]at c ⊢;rcases zrW m1 α.length d with h|⟨k,xs,rfl,q,n,h⟩
 ·rw[h]at c ⊢;exact Rep.less c r
 ·rw[h]at c ⊢;rw[Rep]at r;obtain⟨a,l,rfl⟩:=r;obtain⟨ys,p,r2⟩:=W.lst l n;rw[clsd]at c;rw[Rep];refine⟨a,ys,rfl,fun z=>?_,.inl p,r2.less c⟩;obtain⟨j,o,g⟩:=ycl.mp z;obtain⟨f,b⟩:=yi.mp l;have:j=k:=(ybX (i:=j) (j:=k) (h₀ := by rw[yI];omega) (h₁ := f) W.nd).mp (by rw[List.getElem_append_left o,g,b]);omega
open Classical in
theorem FnX.loc{w:al}{k:Nat}(h:FnX P w K mg base cl x k n g):FnX P w K mg base cl x k n (locF g):=by
 obtain⟨f,fd,ps,u,t,s,p⟩:=h.ex;refine⟨f,fd,ps,u,t,s,p.imp fun vs H Q E ⟨hn,α,m,ds,W,r,q⟩=>⟨hn,α,m,ds,W,r,?_⟩⟩;unfold locF at q;cases a:g ds m with
 |bad=>rw[a]at q;exact q.elim|exc c m1=>rw[a]at q;exact q|ok d m1=>
  rw[a]at q;have o:PQ K cl X0 (if m1.take m.length=m/\clsd m.length (frz m1 m.length d)=ac then .ok (frz m1 m.length d) m else .bad) α H fun d α' _ H'=>∀v,Rep K α' H' d v->Q v H':=q;obtain⟨⟨c1,C⟩,l⟩:=PQ.if o;intro j i e b v R;obtain⟨β,rfl,z⟩:=e.pre;have y:Ext α H α i:=⟨⟨[],by simp,fun _ h=>nomatch h⟩,e.keep,e.there,e.frzs⟩;exact l α i y (W.less b c1) v (zu9 b W.len C R)
theorem fnO{w:al}{f:ad}{k:Nat}(F:Fun K x qual st f fd)(S:FnScope N ps (zai st))(hn:n=ps.length)(h:∀(cdv:af)(A:aA)(outer:List ybx)(s:aj)(H:Hp)(E:XK),Room k (A.deeper (aN qual (zai st) s.heap.objs.size f cdv))->QSs (zpu CX0 P w K mg base N qual (zai st) f cdv A outer s H E).nox cl X0 (zcs st) body):FnOk P w K mg base CX0 (k+1) f fd ps (spD K cl X0 n (zaU N.length body)) :=
 F.ok S (fun vs H Q E h=>by rw[<- hn];exact h.1) fun cdv A outer s H vs Q E hr q=>⟨_,(h cdv A outer s H E hr).out,fn_d q⟩
def spLaw(K:ye):Sp:=fun vs H Q _=>∃(a:ad)(ns:List Int),vs=[.ref a]/\SqL K H a (ns.map V.int)/\ns.length<=63/\∀H',Q (.bl ac) H'
theorem zkD{K:ye}{α : List ad}{H:Hp}:∀ns:List Int,RepL K α H (ns.map D.int) (ns.map V.int)
 |[]=>by simp[RepL]|a::r=>by
  rw[yE,yE,RepL];exact⟨_,_,rfl,by rw[Rep],zkD r⟩
theorem law_sp(h:∀ns:List Int,ns.length<=63->∃a m,g [.scr (ns.map D.int)] [] = .ok a m/\a = .bl ac):∀vs H Q E,spLaw K vs H Q E->spD K cl X0 1 g vs H Q E:=by
 rintro vs H Q E ⟨a,ns,rfl,c,b,q⟩;obtain⟨_,m',e,rfl⟩:=h ns b;refine⟨rfl,[],[],[.scr (ns.map D.int)],⟨rfl,yc2,fun k a o h=>by simp at h⟩,?_,?_⟩
 ·rw[RepL];refine⟨_,_,rfl,?_,by rw[RepL]⟩;rw[Rep];refine⟨a,_,rfl,?_,zkD ns⟩;rcases c with c|c
  ·exact .inl ⟨by simp,c⟩
  ·exact .inr c
 ·rw[e];intro α' H' _ _ v r;rw[Rep]at r;subst r;exact q H'
theorem law_fn{w:al}{k:Nat}{f:ad}(F:FnOk P w K mg base CX0 k f fd ps (spD K cl X0 1 g))(h:∀ns:List Int,ns.length<=63->∃a m,g [.scr (ns.map D.int)] [] = .ok a m/\a = .bl ac):FnOk P w K mg base CX0 k f fd ps (spLaw K):=F.imp (law_sp h)
variable{us:List af}
theorem usS(hl:us.length=n+1):∃a r,us=a::r/\r.length=n:=by
 cases us with
 |nil=>exact absurd hl (by simp)|cons a r=>exact⟨a,r,rfl,Nat.succ.inj hl⟩
theorem us0(hl:us.length=0):us=[]:=ycP.mp hl
theorem us1(hl:us.length=1):∃(a0:af),us=[a0]:=by
 obtain⟨a0,r,rfl,h⟩:=usS hl;obtain rfl:=us0 h;exact⟨a0,rfl⟩
theorem us2(hl:us.length=2):∃(a0 a1:af),us=[a0,a1]:=by
 obtain⟨a0,r,rfl,h⟩:=usS hl;obtain⟨a1,rfl⟩:=us1 h;exact⟨a0,a1,rfl⟩
theorem us3(hl:us.length=3):∃(a0 a1 a2:af),us=[a0,a1,a2]:=by
 obtain⟨a0,r,rfl,h⟩:=usS hl;obtain⟨a1,a2,rfl⟩:=us2 h;exact⟨a0,a1,a2,rfl⟩
theorem us4(hl:us.length=4):∃(a0 a1 a2 a3:af),us=[a0,a1,a2,a3]:=by
 obtain⟨a0,r,rfl,h⟩:=usS hl;obtain⟨a1,a2,a3,rfl⟩:=us3 h;exact⟨a0,a1,a2,a3,rfl⟩
theorem us5(hl:us.length=5):∃(a0 a1 a2 a3 a4:af),us=[a0,a1,a2,a3,a4]:=by
 obtain⟨a0,r,rfl,h⟩:=usS hl;obtain⟨a1,a2,a3,a4,rfl⟩:=us4 h;exact⟨a0,a1,a2,a3,a4,rfl⟩
def zpr(ns:List Int):Int:=ns.getD (aP (fun i j=>decide (ns.getD i 0>ns.getD j 0)) (ns.length-1)) 0
variable{ns:List Int}
theorem zpJ{its:List af}(r:Vals (ns.map V.int) its):∃xs:Array (Int×Tok),its.toArray=bw xs/\xs.size=ns.length/\∀i,numAt xs i=ns.getD i 0:=by
 induction ns generalizing its with
 |nil=>cases r;exact⟨#[],by simp[bw],rfl,fun i=>by simp[numAt]⟩|cons a ns I=>
  cases r with
  |cons h r=>
   obtain⟨t,rfl⟩:=h;obtain⟨xs,e,hs,H⟩:=I r;refine⟨⟨(a,t)::xs.toList⟩,?_,by simp[hs],fun i=>?_⟩
   ·have E:=congrArg ycz e;simp only[bw]at E ⊢;apply yb9;simpa using E
   ·cases i with
    |zero=>rfl|succ i=>
     have:=H i;simpa [numAt] using this
theorem zso(f:X.calm=ac):CallR X (.builtin "max") (fun xs H Q=>∃(l:ad)(ns:List Int),xs=[.ref l]/\SqL X.K H l (ns.map V.int)/\ns≠[]/\Q (.int (zpr ns)) H):=by
 intro pins s σ H xs us Q I r h;obtain⟨l,ns,rfl,c,a,q⟩:=h;obtain⟨u,rfl,R⟩:=zcB r;cases R;obtain⟨its,r',pl,g⟩:=I.list c;have hl:=pl.isList;obtain⟨ys,e,hs,b⟩:=zpJ r';rw[e]at hl;refine max_intList (I.ok.hd f) hl (by rw[hs];exact yc3.mpr a) fun v h' tk hv d=>?_;obtain⟨t,rfl⟩:=intItems_at hv;refine⟨_,H,I.kept d,?_,q⟩;have E:numAt ys=fun i=>ns.getD i 0:=funext b;refine⟨t,?_⟩;rw[E,hs];rfl
section
def zk2(ds:List D)(m:Sto):Res D:=match ds with
 |[d]=>match (lOf d m).bind zeN with
  |some ns=>if ns≠[] then .ok (.int (zpr ns)) m else .bad|none=>.bad
 |_=>.bad
theorem zwq:FnD K cl ex (fun xs H Q=>∃(l:ad)(ns:List Int),xs=[.ref l]/\SqL K H l (ns.map V.int)/\ns≠[]/\Q (.int (zpr ns)) H) zk2:=fun α m H x f Q W r h=>by
 unfold zk2 at h;split at h
 ·split at h
  ·rename_i ns e;obtain⟨c,h⟩:=PQ.if h;obtain⟨v,rfl,R⟩:=r.one_of;obtain⟨xs,d,E⟩:=yaB.mp e;obtain⟨p,ys,rfl,a,b⟩:=zgl W d R;rw[zdz E b]at a;exact⟨p,ns,rfl,a,c,PQ.ok W h _ zfU⟩
  ·exact h.elim
 ·exact h.elim
end
theorem zjf{bt:Nat->Nat->Bool}:∀n,aP bt n<=n
 |0=>yh _|n+1=>by
  unfold aP;split
  ·exact yh _
  ·exact ybQ (zjf n)
theorem zm4(f:Nat->Int):∀n i,i<=n->f i<=f (aP (fun i j=>decide (f i>f j)) n)
 |0,i,h=>by
  have:i=0:=by omega
  subst this;exact ybd _
 |n+1,i,h=>by
  unfold aP;by_cases c:f (n+1)>f (aP (fun i j=>decide (f i>f j)) n)
  ·rw[if_pos (decide_eq_true c)];rcases ybe n i with hi|hi
   ·rw[show i=n+1 by omega];exact ybd _
   ·have:=zm4 f n i hi;omega
  ·rw[if_neg (by rw[decide_eq_true_eq];exact c)];rcases ybe n i with hi|hi
   ·rw[show i=n+1 by omega];omega
   ·exact zm4 f n i hi
theorem ztT{i:Nat}(h:i<ns.length):ns.getD i 0∈ns:=by
 rw[yal,yu h];exact yaC h
theorem ztE(h:ns≠[]):zpr ns∈ns:=ztT (by have:=zjf (bt:=fun i j=>decide (ns.getD i 0>ns.getD j 0)) (ns.length-1);have:=yc3.mpr h;omega)
theorem zrs{a:Int}(h:a∈ns):a<=zpr ns:=by
 obtain⟨i,hi,rfl⟩:=ycl.mp h;have:=zm4 (fun i=>ns.getD i 0) (ns.length-1) i (by omega);have e:ns.getD i 0=ns[i]:=by rw[yal,yu hi];rfl
 rw[<- e];exact this
end MD
namespace HT
open PySem PySem.Spec PyProof.Rows L2
section
variable{prog:ap}{w:al}{A:aA}{E:af->aj->Prop}{s:aj}
theorem getItem_tuple_all{t sl:ad}{items:Array af}{V v:af}{lo hi:Option Int}{Q:af->aj->Prop}(a:IsTup s.heap t items)(hs:s.heap.IsSliceOf sl V v .none)(pl:aW V lo)(p:aW v hi)(e:sIx items.size 0 lo=0/\sIx items.size items.size hi=items.size)(h:Q (.ref t) s):wpAny (ao prog w) A (br (.ref t) (.ref sl)) Q E s:=by
 obtain⟨os,b,c,f⟩:=id hs;have d:s.TypeIs (.ref sl) "slice" := ⟨os,b,c⟩;unfold br;try with_reducible refine ba ?_
 first | refine ai (aw ?_) | skip
 refine ai (wpAny_sequenceKey a.typeIs (by decide) ?_);refine ai (bN (name:=yaa "__getitem__") a.typeIs PyProof.Rows.slot_tuple_getitem
  (bu PyProof.Rows.slot_tuple_getitem a.typeIs entry_tuple_getitem ?_ (args_tuple_getitem _ _)))
 show wpAny _ _ (ycN (.ref t) >>= _) _ _ s;refine ai (tupleItemsOf_ a ?_);refine ai (wpAny_typeOf d ?_);rw[if_pos (by decide)];refine ai (zdQ hs pl p ?_);have H:(((sIx items.size 0 lo:Nat):Int)==0&&(1:Int)==1&&(sIx items.size items.size hi-sIx items.size 0 lo)==items.size)=ac:=by
  rw[e.1,e.2];simp
 show wpAny _ _ (if (((sIx items.size 0 lo:Nat):Int)==0&&(1:Int)==1&&(sIx items.size items.size hi-sIx items.size 0 lo)==items.size)=ac then _ else _) _ _ s;rw[if_pos H];unfold Builtin.Tuple.tupleIsExact;refine ai (ai (wpAny_typeOf a.typeIs (aw ?_)));rw[if_pos (by decide)];refine ai (bp ?_);exact aw ⟨_,rfl,aw h⟩
end
end HT
namespace MD
open PySem PySem.Spec PyProof.Rows L2
def rSlW(K:ye):V->Option Int->Option Int->Hp->VK->Prop:=fun x lo hi H Q=>∃a xs,x = .ref a/\SqT K H a xs ∧
 (HT.sIx xs.length 0 lo=0/\HT.sIx xs.length xs.length hi=xs.length)/\Q (.ref a) H
variable{X:Cx}
theorem zu0:SlR X (rSlW X.K):=by
 intro pins s σ H x v f V lo hi sl Q I R hs pl p h;obtain⟨a,xs,rfl,d,e,q⟩:=h;cases R;obtain⟨its,r,c,g⟩:=I.tuple d;have b:its.toArray.size=xs.length:=by rw[yM];exact r.length.symm
 refine⟨"tuple", _,PyProof.Rows.slot_tuple_getitem.lookup,c.typeIs,?_⟩;exact HT.getItem_tuple_all c hs pl p (by rw[b];exact e) ⟨.ref a,H,I,rfl,q⟩
def slA(x:D)(lo hi:Option Int)(m:Sto):Res D:=match x with
 |.tup ds=>.ok (.tup (zmX ds lo hi)) m|d=>slD d lo hi m
theorem zwv{a : Type}{xs:List a}{lo hi:Option Int}(h:HT.sIx xs.length 0 lo=0/\HT.sIx xs.length xs.length hi=xs.length):zmX xs lo hi=xs:=by
 unfold zmX;rw[h.1,h.2];simp
def eSlA(f:EV)(lo hi:OV):EV:=fun ρ m=>(f ρ m).bind fun x m1=>(lo ρ m1).bind fun l m2=>(hi ρ m2).bind fun h M=>slA x l h M
section
variable{cl:ae->ad}{ex:XD}{e:ak}{fa:EV}{lo hi:OV}{el eh:Option ak}{pos p2:ay}
theorem qe_slA(t:QE X cl ex e fa)(hl:QO X cl ex el lo)(i:QO X cl ex eh hi):QE X cl ex (.Subscript e (.Slice el eh ab p2) pos) (eSlA fa lo hi) :=
 ⟨PE.weak (znJ (SlR.or zu0 (SlR.or zuc (SlR.or zpQ zua))) t.out hl.out i.out) fun σ H Q i=>ex3 i fun α ρ m W hr h=>
  tD.use W hr h fun n m1 C d v F j hr1 r s=>tDO.use j hr1 s fun k m2 B l A y hr2 o=>tDO.use y hr2 o fun f M z u E w hr3 q=>by
   have r:=r.mono j (A.trans E);by_cases g:∃ds,d = .tup ds
   ·obtain⟨ds,rfl⟩:=g;replace q:PQ X.K cl ex (Res.ok (D.tup (zmX ds l u)) M) f z _:=q;rw[Rep]at r;obtain⟨a,xs,rfl,c,R⟩:=r;by_cases hn:HT.sIx xs.length 0 l=0/\HT.sIx xs.length xs.length u=xs.length
    ·rw[zwv (by rw[R.length];exact hn)]at q;exact .inl ⟨a,xs,rfl,c.sq,hn,PQ.ok w q _ (by rw[Rep];exact⟨a,xs,rfl,c,R⟩)⟩
    ·refine .inr (.inl ⟨a,xs,rfl,c.sq,hn,fun p b=>?_⟩);exact PQ.okS w (Same.new b) q _ (zbQ w b (R.cut l u))
   ·have e:slA d l u M=slD d l u M:=by cases d <;> first | rfl | exact absurd ⟨_,rfl⟩ g
    rw[e]at q;unfold slD at q;split at q
    ·exact absurd ⟨_,rfl⟩ g
    ·rw[Rep]at r;obtain⟨a,xs,rfl,_,c,R⟩:=r;exact .inr (.inr (.inl ⟨a,xs,rfl,.inl c,fun p b=>PQ.okS w (Same.new b) q _ (zcj w b (R.cut l u))⟩))
    ·rw[Rep]at r;obtain⟨a,xs,rfl,c,R⟩:=r;exact .inr (.inr (.inl ⟨a,xs,rfl,c.sq,fun p b=>PQ.okS w (Same.new b) q _ (zcj w b (R.cut l u))⟩))
    ·rw[Rep]at r;obtain⟨x,q⟩:=PQ.if q;exact .inr (.inr (.inr ⟨_,r,x,PQ.ok w q _ zva⟩))
    ·rw[Rep]at r;obtain⟨a,ha,rfl⟩:=r;split at q
     ·obtain⟨xs,c,R⟩:=w.lst ha ‹_›;exact .inr (.inr (.inl ⟨a,xs,rfl,SqL.of c,fun p b=>PQ.okS w (Same.new b) q _ (zcj w b (R.cut l u))⟩))
     ·exact q.elim
    ·exact q.elim⟩
end
end MD
namespace HT
open PySem PySem.Spec PyProof.Rows L2
end HT
namespace MD
open PySem PySem.Spec PyProof.Rows L2
variable{X:Cx}{K:ye}{cl:ae->ad}{ex:XD}{pos:ay}
section
variable{α : List ad}{m:Sto}{H:Hp}
theorem znD:QE X cl ex (.Dict [] [] pos) (ziE []) :=
 ⟨PE.weak ztp fun σ H Q b=>ex3 b fun α ρ m W hr q p h=>by
  obtain⟨w,E⟩:=W.new (u := .dK []) (o := .dct []) h ⟨_,zaD,(show RepKV X.K _ _ [] [] from rfl)⟩;have a:PQ X.K cl ex (.ok (.ob m.length) (m++[.dct []])) α H fun d α' _ H'=>∀v,Rep X.K α' H' d v->Q v H':=q;refine a _ _ E w _ ?_;rw[Rep];refine⟨p,?_,rfl⟩;rw[<- W.len,yan (yh _),yaD];rfl⟩
end
def zke:Nat:=1000000
def ziZ:SV:=by walk_at "#47rVu$'qcroju%#zfMq5L3&"
def zbA:List D->Sto->Res D:=zaU 3 ziZ
def zff:SV:=by walk_at "#9r*qS47rpu$&s=u&(8usu''q=/q=R/S.ro/Srp3("
def zco:List D->Sto->Res D:=locF (zaU 5 zff)
def zn3:SV:=by walk_at "#3q`'qD&"
def zbR:List D->Sto->Res D:=zaU 2 zn3
def zgo:SV:=by walk_at "#3Rt$s`s<&'qE"
def zbP:List D->Sto->Res D:=zaU 3 zgo
def zob:SV:=by walk_at "#Ps`8wws<&(t%%s>"
def zia:List D->Sto->Res D:=zaU 5 zob
def zi7:SV:=by walk_at "#Pw^LreqwrVtXEs:"
def zb9:List D->Sto->Res D:=zaU 1 zi7
def zn1:SV:=by walk_at "#azg&'3&qxr0rqtUwxwyr7(r8s>"
def zhU:List D->Sto->Res D:=zaU 3 zn1
def zi6:SV:=by walk_at "#4t[Eqw&q=1saq8Cqr>q34rr&u(r4t}s?vtPs`r9r:ju)SqBJr4t}s?s1PzhBq+1rsq&Jr4t}s?vu4ZE/u)rru)q:_Ps`r9r:jt}dt&qBt'r:"
def zen:List D->Sto->Res D:=zaU 9 zi6
def zlg:SV:=by walk_at "#u*t_37gu*ut3r01qx&"
def zcI:List D->Sto->Res D:=zaU 2 zlg
def zn0:SV:=by walk_at "#Pw^HvvEu%#vws>q8sr=q3qyziMrl"
def zdJ:List D->Sto->Res D:=zaU 2 zn0
def zhT:SV:=by walk_at "#u*t_3(gu*utPzjOMqzd`qz1t'/"
def zdn:List D->Sto->Res D:=zaU 4 zhT
def zn6:SV:=by walk_at "#9qlq5CrSt`#wzM8vxr;.q8>qrNu+zkGs7`qBq&q5_ro[#ql8zlBEu%q+BEqwq+1qL_rsu,3["
def zfe:List D->Sto->Res D:=zaU 9 zn6
def zoa:SV:=by walk_at "#3tUw{w|qZw}wbvmzmOqSqyzn0<zo<zpu-1."
def zc2:List D->Sto->Res D:=zaU 2 zoa
def zn4:SV:=by walk_at "#3tUw{w|qZw}vSHvv(#vxGq^q8rtAq3qyuu8s`t%%q&."
def zdL:List D->Sto->Res D:=zaU 3 zn4
def zlp:SV:=by walk_at "#t(u.w~'zqu.x!'"
def zdM:List D->Sto->Res D:=zaU 1 zlp
def zh8:SV:=by walk_at "#t(#x#s>uvrfrf&u-"
def zcq:List D->Sto->Res D:=zaU 3 zh8
def zlq:SV:=by walk_at "#Px$Gu/qDs:%"
def zew:List D->Sto->Res D:=zaU 2 zlq
def zrU:SV:=by walk_at "#t(u.x%'uvrfrf&r8s>("
def zh6:List D->Sto->Res D:=zaU 3 zrU
def zi4:SV:=by walk_at "#t(#x&GMqEunu.uwqw<qnqw&"
def zbq:List D->Sto->Res D:=zaU 3 zi4
def zn2:SV:=by walk_at "#Px'8vxr;."
def zfd:List D->Sto->Res D:=zaU 2 zn2
def zgN:SV:=by walk_at "#rSt`&q8sr=q3r<qo/r0(ruM`t'q$"
def zc1:List D->Sto->Res D:=zaU 4 zgN
def zrV:SV:=by walk_at "#9x(r;Mr=rSt`/q8Cwiq8>qrNq3u+zrM8x)r;q&rss7qP_r<s2t&q$3R#qlt)t&qxq$"
def zlr:List D->Sto->Res D:=zaU 9 zrV
section
variable{o i:ak}{fo fi:EV}
def putL(x y v:D)(m:Sto):Res Unit:=match x,y with
 |.ob k,.int i=>match m[k]? with
  |some (.lst ds)=>match ixN ds.length i with
   |some j=>.ok () (m.set k (.lst (ds.set j v)))|none=>.bad
  |_=>.bad
 |_,_=>.bad
def gI(fo fi:EV):GV:=fun d ρ m=>(fo ρ m).bind fun x m1=>(fi ρ m1).bind fun y m2=>(putL x y d m2).bind fun _ M=>.ok ρ M
theorem RepL.put{α : List ad}{H:Hp}{d:D}{v:V}(h:Rep K α H d v):∀{ds:List D}{vs:List V}(j:Nat),RepL K α H ds vs->RepL K α H (ds.set j d) (vs.set j v)
 |[],vs,j,r=>by
  rw[RepL]at r;subst r;simp[RepL]
 |e::ds,vs,j,r=>by
  rw[RepL]at r;obtain⟨u,us,rfl,R,r2⟩:=r;cases j with
  |zero=>rw[yaE,yaE,RepL];exact⟨v,us,rfl,h,r2⟩|succ j=>rw[yaF,yaF,RepL];exact⟨u,_,rfl,R,RepL.put h j r2⟩
theorem zvf(s:QE X cl ex o fo)(hi:QE X cl ex i fi) (ha:autoParam (∀v,bg (.Subscript o i pos) X.env v=(do
   let O <- holding [v] (eval o X.env)
   let I <- holding [v,O] (eval i X.env)
   bf pos
   holding [v,O,I] (setItem O I v)
   release [v,O,I] [])) AutoP.a2._auto_1):QG X cl ex (.Subscript o i pos) (gI fo fi) :=
 ⟨PG.weak (pg_sub s.out hi.out zsN ha) fun v σ H Q ⟨α,ρ,m,d,W,hr,R,h⟩=>tD.use W hr h fun n m1 F dx x C g hr1 r p=>tD.use g hr1 p fun b m2 B D y l w hr2 c q=>by
  have R:=R.mono W (C.trans l)
  have r:=r.mono g l
  unfold putL at q
  split at q
  ·rw[Rep]at r
   rw[Rep]at c
   obtain⟨a,ha,rfl⟩:=r
   subst c
   split at q
   ·rename_i ds e
    split at q
    ·rename_i j z
     obtain⟨ys,t,f⟩:=w.lst ha e
     obtain⟨A,k⟩:=w.set (u := .lst (ys.set j v)) (o := .lst (ds.set j d)) ha fun E=>⟨_,zaD,RepL.put (R.mono w E) j (f.mono w E)⟩
     refine⟨a,ys,_,j,rfl,rfl,t,by rw[<- f.length];exact z,?_⟩
     exact(show PQ X.K cl ex (.ok ρ (m2.set _ (.lst (ds.set j d)))) b B _ from q) _ _ k A _ (hr2.mono w k)
    ·exact q.elim
   ·exact q.elim
  ·exact q.elim⟩
end
def zn9:SV:=by walk_at "#9vwGqSq#rvx&OsAqEsAM.t*PzsvSHvv&(q8rtAq3qyztt%."
def zh7:List D->Sto->Res D:=zaU 3 zn9
end MD
namespace L2
open PySem PySem.Spec PyProof.Rows
variable{X:Cx}{e:ak}{te:TE}{pos:ay}
end L2
namespace MD
open PySem PySem.Spec PyProof.Rows L2
def zv2(x y:D)(m:Sto):Res D:=match x,y with
 |.int i,.int j=>if i.natAbs.log2<1100/\j.natAbs.log2<1100 then .ok (.int (i*j)) m else .bad|_,_=>.bad
theorem zq9:∃f:D->D->Sto->Res D,f=zv2:=⟨_,rfl⟩
def zv3:D->D->Sto->Res D:=yaZ zq9
theorem zra:zv3=zv2:=ya0 zq9
theorem zlL{a:Int}(h:a.natAbs.log2<1100):yd0 a<=2^20:=by
 unfold yd0;split
 ·exact yav _
 ·exact yO (Nat.succ_le_of_lt h) (by decide)
variable{X:Cx}
theorem zjO:OpR X (aE .Mult) (rI IntMulOk fun i j=>.int (i*j)):=opI fun _ _ _ _ _ _ _ h q=>mul_int q h
variable{K:ye}{cl:ae->ad}{ex:XD}{τ : Type}
theorem zj1:OpD K cl ex (rI IntMulOk fun i j=>.int (i*j)) zv3:=fun α m H x y V v Q W R r h=>by
 rw[zra]at h;unfold zv2 at h;split at h
 ·rw[Rep]at R r;obtain⟨a,h⟩:=PQ.if h;exact⟨_,_,R,r,IntMulOk.of_bits (zlL a.1) (zlL a.2),PQ.ok W h _ zfU⟩
 ·exact h.elim
open Classical in
def grd(k:Nat)(o:MO)(m:Sto)(r:Res τ):Res τ := if m[k]?=aa o then r else .bad
variable{m:Sto}
theorem znY{k:Nat}{o:MO}{r:Res τ}(h:m[k]?=aa o):grd k o m r=r:=if_pos h
def zrn(k:Nat)(o:MO)(g:GV)(b:SV):List D->En->Sto->Res Fl
 |[],ρ,m=>grd k o m (.ok (.nx ρ) m)|d::r,ρ,m=>grd k o m ((g d ρ m).bind fun c m1=>(b c m1).bind fun f m2=>match f with
  |.nx a=>zrn k o g b r a m2|.ct a=>zrn k o g b r a m2|.bk a=>.ok (.nx a) m2|.rt d=>.ok (.rt d) m2)
abbrev OI:=En->Sto->Res (Nat×MO×List D)
def zm7(d:D)(m:Sto):Res (Nat×MO×List D):=match d with
 |.ob k=>match m[k]? with
  |some (.lst xs)=>.ok (k,.lst xs,xs) m|_=>.bad
 |_=>.bad
def zsA(f:EV):OI:=fun ρ m=>(f ρ m).bind zm7
def sForO(it:OI)(g:GV)(b:SV):SV:=fun ρ m=>(it ρ m).bind fun t m1=>zrn t.1 t.2.1 g b t.2.2 ρ m1
def zc3(k:Nat)(o:MO)(g:GV)(c:TV)(el:EV)(ρ : En):List D->Sto->Res (List D)
 |[],m=>grd k o m (.ok [] m)|d::r,m=>grd k o m ((g d ρ m).bind fun a m1=>(c a m1).bind fun b m2=>if b=ac then (el a m2).bind fun x e=>(zc3 k o g c el ρ r e).bind fun xs M=>.ok (x::xs) M else zc3 k o g c el ρ r m2)
def zer(n:Nat)(it:OI)(g:GV)(c:TV)(el:EV):AV:=fun ρ m=>(it ρ m).bind fun t m1=>if t.2.2.length<=1000000 then zc3 t.1 t.2.1 g c el (ρ ++ yn n ab) t.2.2 m1 else .bad
def ItO(K:ye)(cl:ae->ad)(α : List ad)(H:Hp)(J:It)(k:Nat)(o:MO)(ds:List D):Prop :=
 ∀(i:Nat)(a:List ad)(m1:Sto)(H1:Hp),Ext α H a H1->Wd K cl a m1 H1->m1[k]?=aa o->(∀d,ds[i]?=aa d->J.go i H1/\∀x H2,J.yld i H1 x H2->Same H1 H2/\Rep K a H2 d x)/\(i=ds.length->J.stop i H1)
def tDIO(K:ye)(cl:ae->ad)(ex:XD)(f:OI):TI:=fun σ H R=>∃α ρ m,Wd K cl α m H/\RepE K α H ρ σ /\ PQ K cl ex (f ρ m) α H fun t α' _ H'=>∀J,ItO K cl α' H' J t.1 t.2.1 t.2.2->R J H'
structure QIO(X:Cx)(cl:ae->ad)(ex:XD)(tg it:ak)(f:OI):Prop where
 out:PI X tg it (tDIO X.K cl ex f)
variable{H:Hp}{σ : L2.St}
section
variable{α α':List ad}{m1:Sto}{H':Hp}{ρ : En}
theorem ito_l{k:Nat}{a:ad}{ds:List D}(ha:α[k]?=aa a):ItO K cl α H (Itl K a) k (.lst ds) ds:=fun i c m1 b E W f=>by
 obtain⟨β,rfl,_⟩:=E.pre;have hl:=(yi.mp ha).1;obtain⟨vs,j,r⟩:=W.at' k a (.lst ds) (by rw[yab hl];exact ha) f;have sq:SqL K b a vs := .inl (.inl j);have un:∀ys,SqL K b a ys->True:=fun _ _=>trivial;refine⟨fun d e=>?_,fun e=>⟨vs,sq,by rw[e,r.length];exact yh _⟩⟩;obtain⟨v,h,g⟩:=r.get e;refine⟨⟨vs,v,sq,h⟩,fun x l y=>?_⟩;obtain⟨rfl,y⟩:=y;have:=y vs sq;rw[h]at this;cases this;exact⟨Same.refl _,g⟩
end
variable{tg it:ak}{fa:EV}{gt:GV}{pos:ay}
section
variable{e:ak}{fr:OI}{f:SV}{sts:List am}
theorem zug(h:QE X cl ex e fa):QIO X cl ex tg e (zsA fa) :=
 ⟨PI.weak (zqu h.out) fun σ H R g=>ex3 g fun α ρ m W hr q=>⟨α,ρ,m,W,hr,PQ.mono (Ext.refl W) q.bind fun d c m1 j E w q v b=>by
  unfold zm7 at q;split at q
  ·rename_i k;split at q
   ·rename_i xs f;rw[Rep]at b;obtain⟨a,ha,rfl⟩:=b;obtain⟨vs,i,r⟩:=w.at' k a _ ha f;exact⟨a,rfl,⟨vs,.inl (.inl i)⟩,PQ.ok w q _ (ito_l ha)⟩
   ·exact q.elim
  ·exact q.elim⟩⟩
end
variable{ta:TV}
section
variable{fr:OI}
theorem zpK{n:Nat}{f:List V->Hp->Prop}(h:∃α ρ m,Wd K cl α m H/\RepE K α H ρ σ /\ PQ K cl ex (zer n fr gt ta fa ρ m) α H fun ds α' _ H'=>∀vs,RepL K α' H' ds vs->f vs H') : zuP n (tDIO K cl ex fr) (tDG K cl ex gt) (tDT K cl ex ta) (tD K cl ex fa) f σ H:=by
 obtain⟨α,ρ,m,W,hr,h⟩:=h;refine⟨α,ρ,m,W,hr,PQ.mono (Ext.refl W) h.bind fun t u m1 H1 E1 L q J R=>?_⟩;obtain⟨k,o,ds⟩:=t;obtain⟨hk,q⟩:=PQ.if q;have hr1:=hr.mono W E1;refine zmZ (k:=ds.length) (fun i ys c=>∃a m2 done,Ext u H1 a c/\Wd K cl a m2 c/\RepL K a c done ys/\done.length<=i/\PQ K cl ex ((zc3 k o gt ta fa (ρ ++ yn n ab) (ds.drop i) m2).bind fun xs M=>.ok (done++xs) M) a c fun ds α' _ H'=>∀vs,RepL K α' H' ds vs->f vs H') hk ?_ ?_ ?_ ?_
 ·refine⟨u,m1,[],Ext.refl L,L,by rw[RepL],yh _,?_⟩;simp only[ybP,ybM,Res.bind_ok'];exact q
 ·rintro i ys c ⟨_,_,done,_,_,r,l,_⟩;rw[<- r.length];exact l
 ·rintro i ys c hi ⟨a,m2,done,B,w,r2,l2,Q⟩;have hd:ds[i]?=aa ds[i]:=by simp[hi]
  rw[ybN hi,zc3]at Q;have e:m2[k]?=aa o/\PQ K cl ex (((gt ds[i] (ρ ++ yn n ab) m2).bind fun p m1=>(ta p m1).bind fun b m2=>if b=ac then (fa p m2).bind fun x F=>(zc3 k o gt ta fa (ρ ++ yn n ab) (ds.drop (i+1)) F).bind fun xs M=>.ok (x::xs) M else zc3 k o gt ta fa (ρ ++ yn n ab) (ds.drop (i+1)) m2).bind fun xs M=>.ok (done++xs) M) a c fun ds α' _ H'=>∀vs,RepL K α' H' ds vs->f vs H':=by
   unfold grd at Q;split at Q
   ·exact⟨‹_›,Q⟩
   ·exact Q.elim
  obtain⟨g,Q⟩:=e;obtain⟨g1,g2⟩:=(R i a m2 c B w g).1 _ hd;refine⟨g1,fun x H3 y=>?_⟩;obtain⟨S,Y⟩:=g2 x H3 y;have A:=Ext.of_same w S;have I:=w.same S;rw[Res.bind_assoc]at Q;have j:=B.trans A;refine⟨a,ρ ++ yn n ab,m2,ds[i],I,(hr1.mono L j).more n,Y,PQ.mono A Q.bind fun C X M H4 E4 W4 N U hr4=>?_⟩;rw[Res.bind_assoc]at N;refine tDT.use W4 hr4 N fun s P H5 b E5 G hr5 q5=>?_;have E:=E4.trans E5;cases b with
  |false=>exact⟨s,P,done,j.trans E,G,(r2.mono w A).mono I E,ybQ l2,q5⟩|true=>
   have z:PQ K cl ex (((fa C P).bind fun x F=>(zc3 k o gt ta fa (ρ ++ yn n ab) (ds.drop (i+1)) F).bind fun xs M=>.ok (x::xs) M).bind fun xs M=>.ok (done++xs) M) s H5 fun ds α' _ H'=>∀vs,RepL K α' H' ds vs->f vs H':=q5;rw[Res.bind_assoc]at z;refine tD.use G hr5 z fun D m6 H6 d v T W6 hr6 Z q6=>?_;rw[Res.bind_assoc]at q6;refine⟨D,m6,done++[d],j.trans (E.trans T),W6,RepL.append (((r2.mono w A).mono I E).mono G T) (RepL.one Z),by rw[yI];show done.length+1<=i+1;omega,?_⟩;simp only[yaq,yc1];exact q6
 ·rintro ys c ⟨a,m2,done,B,w,r2,l2,Q⟩;rw[ybO (yh _),zc3]at Q;have e:m2[k]?=aa o/\PQ K cl ex (.ok (done++[]) m2) a c fun ds α' _ H'=>∀vs,RepL K α' H' ds vs->f vs H':=by
   unfold grd at Q;split at Q
   ·exact⟨‹_›,Q⟩
   ·exact Q.elim
  obtain⟨g,O⟩:=e;refine⟨(R ds.length a m2 c B w g).2 rfl,?_⟩;rw[yas]at O;exact PQ.ok w O ys r2
end
section
variable{N0:List ae}{e:ak}{ifs:List ak}{fr:OI}{scope:aG}{xs:List ae}{clo:List (ae×ad)}
theorem znE(k:X.calm=ac)(c:X.xe=fun _ _=>False)(S:CompOk X N0 scope xs clo)(hi:QIO X cl ex tg it fr)(f:∀C s H fp,QG (X.comp N0 scope xs clo C s H fp) cl ex tg gt)(i:∀C s H fp,PIf (X.comp N0 scope xs clo C s H fp) ifs (tDT X.K cl ex ta))(j:∀C s H fp,QE (X.comp N0 scope xs clo C s H fp) cl ex e fa)(hs:autoParam (∀x,bi it X.env x=pure x) AutoP.a2._auto_1):QE X cl ex (.ListComp e [⟨tg,it,ifs,0⟩] scope pos) (eFn gL1 (zer xs.length fr gt ta fa)) :=
 ⟨PE.weak (zqx (g:=tDG X.K cl ex gt) (tf:=tDT X.K cl ex ta) (te:=tD X.K cl ex fa) k c S hi.out (fun C s H fp=>(f C s H fp).out) i (fun C s H fp=>(j C s H fp).out) hs) fun σ H Q d=>ex3 d fun α ρ m W hr h=>zpK ⟨α,ρ,m,W,hr,PQ.mono (Ext.refl W) h.bind fun ds b m1 l E w q vs r p a=>PQ.okS w (Same.new a) q _ (zcj w a r)⟩⟩
end
def zn7:SV:=by walk_at "#4UzurV9r*qS4<ux<ux<ux<uxu0u0u0u0u0rpu$t['saq=Uzvs=4rqRj&Ux*q`Sv[uyUNUzwrVr<rI#x+q&%v[zxs}(0q`#x+q&%/t'vyq>vzwp(vzx,&vzs17"
def zh5:List D->Sto->Res D:=zaU 5 zn7
def zlo:SV:=by walk_at "#q9x-uzrWqos~rwlqnEu17t+s~q[%s;s~rw4q`Eu1&qc4<v{Eu1&zyu13(gq9v|'qZs1RvQs114vQs1rp4RRvQx,jj/u2zzju2z{s=4q`jSUz|Uz}s=4q`jSRq`SUx*Uz~U{!s=3q`<v{SU{#&"
def zaC:List D->Sto->Res D:=zaU 5 zlo
def zrS:SV:=by walk_at "#3E&qTsAO."
def zaK:List D->Sto->Res D:=zaU 2 zrS
def zh1:SV:=by walk_at "#9uerxs<qDs:rX0qD&u33q`rrqTry%qD&"
def zbI:List D->Sto->Res D:=zaU 3 zh1
def zi1:SV:=by walk_at "#9vM:_qUar(/dq%{$Jar(u2Aq%vt8v}GM.gr4u2A9tar9dqT:x.%0qD(r=9qlrX0qDt,r9jdqT:_%t-q8Cqr>q3q%s18sBsCq&q5_tXrq[jq+t&qD(.u4rWr(u2Nlr+rY9uerx0t]u{1sy:v~0t]u{Uv~s<qT:{%%Uv~q5Nq%vurXq^8yIrs.gq%x/%"
def zem:List D->Sto->Res D:=zaU 8 zi1
def zh2:SV:=by walk_at "#4qZ{&qcq9x0=ArX:x1%8r*.rSsCr91qTOu,9ssq6t.ryu5_:w!t/qP>4jrrrq/jqd[Ux1R1rq/[U_u(s}SsDrss78{'GqBs7sEru8umq&%q{q6rR:N:w!:{(:{):{*0v[>sE"
def zdu:List D->Sto->Res D:=zaU 8 zh2
def zli:SV:=by walk_at "#9vMv]qSau6qdq%t_Jr4(qdq%w#J4R1qTOqUq%ut`8v}Gu7"
def zfF:List D->Sto->Res D:=zaU 4 zli
def zi2:SV:=by walk_at "#9sBreErYrpqy{+GB/1u3ruq{q6t.ry:>:qXt/.q{q6t.ryu5>:_:tbt/.qE"
def zdv:List D->Sto->Res D:=zaU 3 zi2
def zll:SV:=by walk_at "#9u8rxt.u5{,qPL4Rwessrxry:uy:{-u3ruOMq{q[rxrRu5{..q{q[q[q[:N:uyq6:{/sE"
def zfI:List D->Sto->Res D:=zaU 3 zll
def zlm:SV:=by walk_at "#9{0r;qS9sBsCq{rxt.u5tb.r=qy{1GMqP=ruMq{:qX:tb:w!t/.`8{2G."
def zev:List D->Sto->Res D:=zaU 4 zlm
end MD
namespace L2
open PySem PySem.Spec PyProof.Rows
end L2
namespace MD
open PySem L2
variable{K:ye}{cl:ae->ad}{ex:XD}
end MD
namespace MD
open PySem PySem.Spec PyProof.Rows L2
def zih(c f:ae)(x:D)(m:Sto):Res D:=match x with
 |.ob k=>match m[k]? with
  |some (.ins c' fs)=>if c'=c then opt (fs.lookup f) m else .bad|_=>.bad
 |_=>.bad
def zaT(c f:ae)(F:EV):EV:=fun ρ m=>(F ρ m).bind (zih c f)
def zbh(f:ae)(v:D):List (ae×D)->List (ae×D)
 |[]=>[(f,v)]| (g,x)::r=>if g=f then (g,v)::r else (g,x)::zbh f v r
def zsO(c f:ae)(x y:D)(m:Sto):Res Unit:=match x with
 |.ob k=>match m[k]? with
  |some (.ins c' fs)=>if c'=c/\fs.length<1000 then .ok () (m.set k (.ins c (zbh f y fs))) else .bad|_=>.bad
 |_=>.bad
def zbL(c f:ae)(fo F:EV):SV:=fun ρ m=>(F ρ m).bind fun y m1=>(fo ρ m1).bind fun x m2=>(zsO c f x y m2).bind fun _ M=>.ok (.nx ρ) M
def zeC(c M:ae)(x:D)(m:Sto):Bool:=match x with
 |.ob k=>match m[k]? with
  |some (.ins c' fs)=>decide (c'=c)&&(fs.lookup M).isNone|_=>ag
 |_=>ag
def zbl(c M:ae)(g:List D->Sto->Res D)(fo:EV)(fr:AV):EV:=fun ρ m=>(fo ρ m).bind fun x m1=>if zeC c M x m1=ac then (fr ρ m1).bind fun ds m2=>g (x::ds) m2 else .bad
def mkEnd(n:Nat)(v:D)(m:Sto):Res D:=match v with
 |.non=>.ok (.ob n) m|_=>.bad
def mkM(c:ae)(g:List D->Sto->Res D)(ds:List D)(m:Sto):Res D:=(g (.ob m.length::ds) (m++[.ins c []])).bind (mkEnd m.length)
variable{K:ye}{cl:ae->ad}{ex:XD}{α : List ad}{H:Hp}{c:ae}
section
variable{m:Sto}
theorem RepF.look{f:ae}:∀{ds:List (ae×D)}{xs:List (ae×V)},RepF K α H ds xs->(∀d,ds.lookup f=aa d->∃v,xs.lookup f=aa v/\Rep K α H d v)/\(ds.lookup f=ab->xs.lookup f=ab)
 |[],_,h=>by
  cases (show _=[] from h);exact⟨fun d e=>(nomatch e),fun _=>rfl⟩
 |p::ds,_,⟨v,r,rfl,h1,h2⟩=>by
  obtain⟨a,b⟩:=RepF.look (f:=f) h2;obtain⟨g,x⟩:=p;simp only[yaW];cases c:f==g with
  |true=>exact⟨fun d e=>by simp only[yaP]at e;subst e;exact⟨v,rfl,h1⟩,fun e=>by simp at e⟩|false=>exact⟨a,b⟩
theorem RepF.put{f:ae}{d:D}{v:V}(hv:Rep K α H d v):∀{ds:List (ae×D)}{xs:List (ae×V)},RepF K α H ds xs->RepF K α H (zbh f d ds) (zim f v xs)
 |[],_,h=>by
  cases (show _=[] from h);exact⟨v,[],rfl,hv,rfl⟩
 |p::ds,_,⟨u,r,rfl,h1,h2⟩=>by
  obtain⟨g,x⟩:=p;unfold zbh zim;by_cases a:g=f
  ·rw[if_pos a];show RepF K α H ((g,d)::ds) (if g=f then (g,v)::r else (g,u)::zim f v r);rw[if_pos a];exact⟨v,r,rfl,hv,h2⟩
  ·rw[if_neg a];show RepF K α H ((g,x)::zbh f d ds) (if g=f then (g,v)::r else (g,u)::zim f v r);rw[if_neg a];exact⟨u,_,rfl,h1,RepF.put hv h2⟩
theorem RepF.length:∀{ds:List (ae×D)}{xs:List (ae×V)},RepF K α H ds xs->ds.length=xs.length
 |[],_,h=>by cases (show _=[] from h);rfl|p::ds,_,⟨u,r,rfl,h1,h2⟩=>by rw[yD,yD,RepF.length h2]
theorem Wd.ins(W:Wd K cl α m H){k:Nat}{a:ad}{ds:List (ae×D)}(b:α[k]?=aa a)(h:m[k]?=aa (.ins c ds)):∃dx xs,H a=aa (.ins (cl c) dx xs)/\RepF K α H ds xs:=W.at' k a _ b h
end
variable{x:ae}{n:Nat}{mm:Sto}{pl:Sem Bool}{P:ap}{mg:ae->Option af}{base:ax}{qual:ae}{st:am}{fd:aH}{N ps:List ae}{body:SV}
section
variable{X:Cx}{o e value:ak}{es:List ak}{f m:ae}{pos pos' apos p:ay}{fa fv:EV}{fr:AV}{k:Nat}{g:List D->Sto->Res D}
theorem zaw(p:QE X cl ex e fa)(q:Cls X.K (cl c))(hn:NoAttr X.K (cl c) f)(s:autoParam (bB e f X.env (eval e X.env)=eval e X.env) AutoP.a3._auto_1):QE X cl ex (.Attribute e f pos) (zaT c f fa) :=
 ⟨PE.weak (pe_fld p.out s) fun σ H Q o=>ex3 o fun α ρ m W hr h=>tD.use W hr h fun j m1 t d v E w hr1 r b=>by
  unfold zih at b;split at b
  ·rename_i k;split at b
   ·rename_i C fs n;obtain⟨i,g⟩:=PQ.if b;clear b;subst i;rw[Rep]at r;obtain⟨a,ha,rfl⟩:=r;obtain⟨dx,xs,l,R⟩:=w.ins ha n;cases hl:fs.lookup f with
    |none=>rw[hl]at g;exact g.elim|some d=>
     rw[hl]at g;obtain⟨v,hv,r⟩:=R.look.1 d hl;exact⟨a,_,dx,xs,v,rfl,l,q,hn,hv,PQ.ok w g v r⟩
   ·exact b.elim
  ·exact b.elim⟩
theorem zbv(s:QE X cl ex o fa)(hv:QE X cl ex value fv)(y:Cls X.K (cl c))(hn:NoAttr X.K (cl c) f)(hs:autoParam (bo value (aa (.Attribute o f pos')) pos.line X.env=pure ag) AutoP.a3._auto_1):QS X cl ex (.Assign [.Attribute o f pos'] value pos) (zbL c f fa fv) :=
 ⟨PS.weak (ps_fld s.out hv.out hs) fun D σ H x=>ex3 x fun α ρ m W hr h=>tD.use W hr h fun n m1 I d v J i hr1 p z=>tD.use i hr1 z fun l m2 G F V B w hr2 r b=>by
  unfold zsO at b;split at b
  ·rename_i k;split at b
   ·rename_i C fs t;by_cases e:C=c/\fs.length<1000
    ·rw[if_pos e]at b;obtain⟨rfl,hl⟩:=e;rw[Rep]at r;obtain⟨a,ha,rfl⟩:=r;obtain⟨dx,xs,q,g⟩:=w.ins ha t;have R:=p.mono i B;refine⟨a,_,dx,xs,rfl,q,y,hn,by rw[<- g.length];exact hl,?_⟩;obtain⟨A,j⟩:=w.set (u := .ins (cl C) dx (zim f v xs)) (o := .ins C (zbh f d fs)) ha fun E=>⟨dx,_,zaD,(g.put R).mono w E⟩;exact b _ _ j A _ (hr2.mono w j)
    ·rw[if_neg e]at b;exact b.elim
   ·exact b.elim
  ·exact b.elim⟩
structure FnM(P:ap)(w:al)(K:ye)(mg:ae->Option af)(base:ax)(cl:ae->ad)(c m:ae)(k n:Nat)(g:List D->Sto->Res D):Prop where
 ex:∃(f:ad)(fd:aH)(ps:List ae),Meth K (cl c) m f/\Binds K fd ps []/\FnOk P w K mg base CX0 k f fd ps (spD K cl X0 n g)
structure FnC(P:ap)(w:al)(K:ye)(mg:ae->Option af)(base:ax)(cl:ae->ad)(c:ae)(k n:Nat)(g:List D->Sto->Res D):Prop where
 ex:∃(f:ad)(fd:aH)(ps:List ae),mg c=aa (.ref (cl c))/\Mk K (cl c) f/\Binds K fd ps []/\FnOk P w K mg base CX0 k f fd ps (spD K cl X0 n g)
theorem zle{d:D}{v:V}(W:Wd K cl α mm H)(h:zeC c m d mm=ac)(r:Rep K α H d v):∃a dx fs,v = .ref a/\H a=aa (.ins (cl c) dx fs)/\fs.lookup m=ab:=by
 unfold zeC at h;split at h
 ·rename_i k;split at h
  ·rename_i C fs e;rw[yac,decide_eq_true_eq,Option.isNone_iff_eq_none]at h;obtain⟨rfl,f⟩:=h;rw[Rep]at r;obtain⟨a,ha,rfl⟩:=r;obtain⟨dx,xs,b,R⟩:=W.ins ha e;exact⟨a,dx,xs,rfl,b,R.look.2 f⟩
  ·cases h
 ·cases h
theorem zbe(h:FnM X.prog X.w X.K X.mg X.base cl c m k n g)(x:QE X cl X0 o fa)(A:Cls X.K (cl c))(hn:n=(e::es).length+1)(hr:Room k X.A)(ha:QA X cl X0 (e::es) fr)(b:∀ρ m ds m1,fr ρ m = .ok ds m1->ds.length=(e::es).length)
  (l:autoParam (au (e::es) X.env=(ag,eval e X.env)::au es X.env) AutoP.a3._auto_1) (p:autoParam ((aB pos (au es X.env)).any (·.1)=ag) AutoP.a3._auto_1)
  (u:autoParam (eval (.Call (.Attribute o m apos) (e::es) [] pos) X.env=(do
   let O <- eval o X.env
   bf apos.atName
   let (f,first) <- holding [O] (getMethod O m pl)
   callWith pos f first (aB pos (au (e::es) X.env)) (aL pos (aM [] X.env)))) AutoP.a3._auto_1):QE X cl X0 (.Call (.Attribute o m apos) (e::es) [] pos) (zbl c m g fa fr):=by
 obtain⟨f,fd,ps,D,C,B⟩:=h.ex
 refine⟨PE.weak (zvE (E:=E0) x.out A D B hr C .nil ztt ha.out l p u) fun σ H Q y=>ex3 y fun α ρ M W hr h=>tD.use W hr h fun t m1 J d v K w hr1 R q=>?_⟩
 obtain⟨hi,q⟩:=PQ.if q
 obtain⟨a,dx,fs,rfl,F,el⟩:=zle w hi R
 refine⟨a,dx,fs,rfl,F,el,?_⟩
 cases i:fr ρ m1 with
 |bad=>rw[i]at q;exact q.elim
 |exc c m2=>exact tDA.exc w hr1 i q
 |ok ds m2=>
  rw[i]at q
  refine tDA.at w hr1 i fun j I vs s G hr2 r=>?_
  refine⟨?_,j,m2,d::ds,G,?_,PQ.mono s q fun _ _ _ _ _ _ z=>z⟩
  ·rw[yas,yD,<- r.length,b ρ m1 ds m2 i,hn]
  ·rw[yas,RepL]
   exact⟨_,_,rfl,R.mono w s,r⟩
theorem za5(h:FnM X.prog X.w X.K X.mg X.base cl c m k n g)(i:QE X cl X0 o fa)(l:Cls X.K (cl c))(hn:n=1)(hr:Room k X.A)
  (e:autoParam (eval (.Call (.Attribute o m apos) [] [] pos) X.env=(do
   let O <- eval o X.env
   bf apos.atName
   let (f,first) <- holding [O] (getMethod O m pl)
   callWith pos f first (aB pos (au [] X.env)) (aL pos (aM [] X.env)))) AutoP.a3._auto_1):QE X cl X0 (.Call (.Attribute o m apos) [] [] pos) (zbl c m g fa zaj):=by
 obtain⟨f,fd,ps,t,s,p⟩:=h.ex
 refine⟨PE.weak (ztn (E:=E0) i.out l t p hr s .nil ztt e) fun σ H Q j=>ex3 j fun α ρ M W hr h=>tD.use W hr h fun b m1 x d v y w hr1 r q=>?_⟩
 obtain⟨hi,q⟩:=PQ.if q
 obtain⟨a,dx,fs,rfl,u,el⟩:=zle w hi r
 refine⟨a,dx,fs,rfl,u,el,?_⟩
 refine⟨by rw[hn];rfl,b,m1,[d],w,?_,q⟩
 rw[yas,RepL]
 exact⟨_,_,rfl,r,by rw[RepL]⟩
theorem zv7{ds:List D}{vs:List V}{Q:VK}{R:RD D}(W:Wd K cl α mm H)(r:RepL K α H ds vs)(hl:n=ds.length+1)(h:PQ K cl X0 (mkM c g ds mm) α H R)(p:∀d α' m' H',R d α' m' H'->∀v,Rep K α' H' d v->Q v H') : ∀x dx,H x=ab->H dx=ab->dx≠x->spD K cl X0 n g (.ref x::(vs++[])) (upd (upd H dx (.own x)) x (.ins (cl c) dx [])) (fun v H2=>v = .non/\Q (.ref x) H2) E0:=by
 intro x dx m i f;have s:Same H (upd H dx (.own x)):=Same.new i;have k:=W.same s;have l:=Ext.of_same W s;have e:upd H dx (.own x) x=ab:=by rw[zax (Ne.symm f)];exact m
 obtain⟨w,E⟩:=k.new (u := .ins (cl c) dx []) (o := .ins c []) e ⟨dx,[],zaD,rfl⟩;have a:Rep K (α ++ [x]) (upd (upd H dx (.own x)) x (.ins (cl c) dx [])) (.ob mm.length) (.ref x):=by
  rw[Rep];refine⟨x,?_,rfl⟩;rw[<- W.len,yan (yh _)];simp
 refine⟨by rw[yas,yD,<- r.length,hl],α ++ [x],mm++[.ins c []],.ob mm.length::ds,w,?_,?_⟩
 ·rw[yas,RepL];exact⟨_,_,rfl,a,(r.mono W l).mono k E⟩
 ·unfold mkM at h;refine PQ.mono (l.trans E) h.bind fun d b m1 y z t q v j=>?_;cases d with
  |non=>
   rw[Rep]at j;exact⟨j,p _ _ _ _ (PQ.ok t (show PQ K cl X0 (.ok (.ob mm.length) m1) b y R from q)) _ (a.mono w z)⟩
  |_=>exact q.elim
theorem zmm(h:FnC X.prog X.w X.K X.mg X.base cl c k n g)(hn:n=(e::es).length+1)(hr:Room (k+1) X.A)(o:Gl X c)(ha:QA X cl X0 (e::es) fr)(a:∀ρ m ds m1,fr ρ m = .ok ds m1->ds.length=(e::es).length)(i:autoParam ((c==("__debug__" : ae))=ag) AutoP.a1._auto_1)(q:autoParam (au (e::es) X.env=(ag,eval e X.env)::au es X.env) AutoP.a3._auto_1)(d:autoParam ((aB pos (au es X.env)).any (·.1)=ag) AutoP.a3._auto_1):QE X cl X0 (.Call (.Name c p) (e::es) [] pos) (eFn (mkM c g) fr):=by
 obtain⟨f,fd,ps,w,u,t,s⟩:=h.ex;refine⟨PE.weak (zvF (E:=E0) u s hr o w t .nil ztt ha.out i q d) fun σ H Q l=>ex3 l fun α ρ M W hr h=>?_⟩;unfold eFn at h;cases b:fr ρ M with
 |bad=>rw[b]at h;exact h.elim|exc c m2=>exact tDA.exc W hr b h|ok ds m1=>
  rw[b]at h;exact tDA.at W hr b fun j A v y x hr1 r=>zv7 x r (by rw[hn,a ρ M ds m1 b]) (PQ.mono y h fun _ _ _ _ _ _ z=>z) fun _ _ _ _ z=>z
theorem FnM.mk'{w:al}{f:ad}{k:Nat}(F:Fun K x qual st f fd)(b:Binds K fd ps [])(m:Meth K (cl c) x f)(S:FnScope N ps (zai st))(hn:n=ps.length)(h:∀(cdv:af)(A:aA)(outer:List ybx)(s:aj)(H:Hp)(E:XK),Room k (A.deeper (aN qual (zai st) s.heap.objs.size f cdv))->QSs (zpu CX0 P w K mg base N qual (zai st) f cdv A outer s H E).nox cl X0 (zcs st) body):FnM P w K mg base cl c x (k+1) n (zaU N.length body) :=
 ⟨f,fd,ps,m,b,F.ok S (fun vs H Q E h=>by rw[<- hn];exact h.1) fun cdv A outer s H vs Q E hr q=>⟨_,(h cdv A outer s H E hr).out,fn_d q⟩⟩
theorem FnC.mk'{w:al}{f:ad}{k:Nat}(F:Fun K x qual st f fd)(b:Binds K fd ps [])(M:mg c=aa (.ref (cl c)))(m:Mk K (cl c) f)(S:FnScope N ps (zai st))(hn:n=ps.length)(h:∀(cdv:af)(A:aA)(outer:List ybx)(s:aj)(H:Hp)(E:XK),Room k (A.deeper (aN qual (zai st) s.heap.objs.size f cdv))->QSs (zpu CX0 P w K mg base N qual (zai st) f cdv A outer s H E).nox cl X0 (zcs st) body):FnC P w K mg base cl c (k+1) n (zaU N.length body) :=
 ⟨f,fd,ps,M,m,b,F.ok S (fun vs H Q E h=>by rw[<- hn];exact h.1) fun cdv A outer s H vs Q E hr q=>⟨_,(h cdv A outer s H E hr).out,fn_d q⟩⟩
end
end MD
namespace L2
open PySem PySem.Spec PyProof.Rows
theorem ziM:∀(bs:List Bool),((yJ bs.length).any fun i=>bs.getD i ag)=bs.any id
 |[]=>rfl|b::r=>by
  rw[yD,ycc,yaY,ycn,yaY];have e:((fun i=>(b::r).getD i ag)∘Nat.succ)=fun i=>r.getD i ag:=by
   funext i;simp
  rw[e,ziM r];simp
theorem zsv{bs:List Bool}{its:List af}(r:Vals (bs.map V.bl) its){i:Nat}{v:af}(h:its.toArray[i]?=aa v):v = .bool (bs.getD i ag):=by
 have hi:i<its.length:=by
  have:=(Array.getElem?_eq_some_iff.mp h).1;simpa using this
 have hl:=r.length;rw[yj]at hl;have:=zop r h;rw[this];congr 1;simp[yaQ,show i<bs.length by omega]
theorem zlI{X:Cx}(g:X.calm=ac):CallR X (.builtin "any") (fun xs H Q=>∃(l:ad)(bs:List Bool),xs=[.ref l]/\SqL X.K H l (bs.map V.bl)/\Q (.bl (bs.any id)) H):=by
 intro pins s σ H xs us Q I r h;obtain⟨l,bs,rfl,d,q⟩:=h;obtain⟨u,rfl,R⟩:=zcB r;cases R;obtain⟨its,r',pl,m⟩:=I.list d;have hl:=pl.isList;have c:l<s.heap.objs.size:=by obtain⟨_,e,_⟩:=hl;exact yA e
 have a:bs.length=its.length:=by rw[<- r'.length,yj]
 refine call_any_walk (bU hl ?_);refine⟨s.heap.objs.size,_,_,its.toArray.size,_,_,fun i=>bs.getD i ag,rfl,ycd (A:=X.A.in1) (I.ok.hd g) _ l (yG c) its.toArray,⟨⟨_,yC _ rfl,rfl,rfl⟩,hl.push _⟩,fun i v S n E' k j=>?_,fun h' tk f=>?_⟩
 ·rw[zsv r' k];exact aT j
 ·rw[yM,<- a,ziM];exact⟨.bl (bs.any id),H,I.kept fun b o e=>f b o (fun z=>yG (yA e) (y8.mp z)) (yt _ e),rfl,q⟩
end L2
namespace MD
open PySem PySem.Spec PyProof.Rows L2
def zwz(ds:List D)(m:Sto):Res D:=match ds with
 |[d]=>match (lOf d m).bind zm8 with
  |some bs=>.ok (.bl (bs.any id)) m|none=>.bad
 |_=>.bad
theorem zuy{K:ye}{cl:ae->ad}{ex:XD}:FnD K cl ex (fun xs H Q=>∃(l:ad)(bs:List Bool),xs=[.ref l]/\SqL K H l (bs.map V.bl)/\Q (.bl (bs.any id)) H) zwz:=fun α m H x d Q W r h=>by
 unfold zwz at h;split at h
 ·split at h
  ·rename_i ns e;obtain⟨v,rfl,R⟩:=r.one_of;obtain⟨xs,c,E⟩:=yaB.mp e;obtain⟨p,ys,rfl,a,b⟩:=zgl W c R;rw[zid E b]at a;exact⟨p,ns,rfl,a,PQ.ok W h _ zkE⟩
  ·exact h.elim
 ·exact h.elim
end MD
namespace PySem
open Sem (wp)
open Builtin
end PySem
namespace L2
open PySem PySem.Spec PyProof.Rows
end L2
namespace MD
open PySem PySem.Spec PyProof.Rows L2
def zls:SV:=by walk_at "#q#ujq;u.uw't*u$'rVqjrWqovX{3lqovX{4t*u9"
def zfL:List D->Sto->Res D:=zaU 2 zls
def zpe:SV:=by walk_at "#47rV41qcq9x-uzlu6'4j(dqcros:rV3&"
def zcW:List D->Sto->Res D:=zaU 3 zpe
def zkd:SV:=by walk_at "#ard&q$ruq6qz10j#qlrzw#.r8Bqw7.qxEr0d&"
def zbd:List D->Sto->Res D:=zaU 2 zkd
def zfc:SV:=by walk_at "#Px2r91r8qzd."
def zaX:List D->Sto->Res D:=zaU 1 zfc
def zeo:SV:=by walk_at "#Px2Bqwt-"
def zaS:List D->Sto->Res D:=zaU 1 zeo
def zek:SV:=by walk_at "#9s3r;qS3RRR#u|s>rr1#{5qz7qE#w$s>"
def zaZ:List D->Sto->Res D:=zaU 3 zek
def ziW:SV:=by walk_at "#9usu'&saq=#u|Gu3ar+(r8qzd%ukqxvUqn(7q$Z(1"
def zb5:List D->Sto->Res D:=zaU 3 ziW
def zn5:SV:=by walk_at "#q#rv{6q^r{9x3r;qSs;r8q^#w%GqEr{9u|GqU4R/E#s3GqE1s=4Zr8q^#w$Gq5C9usu'&q=[sat0arIq+Eqw1r{ruM8usu'&q=/q=S%u'&q=Sq=[t{"
def zgp:List D->Sto->Res D:=zaU 7 zn5
def zh9:SV:=by walk_at "#3rqwex'vSHt`(q8rtAq3tXjR/dS%r01"
def zb8:List D->Sto->Res D:=zaU 3 zh9
def zi0:SV:=by walk_at "#9s3r;r=9uu0sF&q$7R1&8u|Gu,9uu8s`MBSt-BS1t09uu8w&qz7Mrl8w$GqPN3RRR[q+#x(qz7q&rlr:"
def zel:List D->Sto->Res D:=zaU 8 zi0
def zfK:SV:=by walk_at "#9s]GqSPsBvm{7q6r9#taOqE1qUqyql`qzZ(/."
def zde:List D->Sto->Res D:=zaU 3 zfK
def zfD:SV:=by walk_at "#t1ri&t1tct$r*%t1sbqbt1s4qbrbs/u}'7"
def zcx:List D->Sto->Res D:=zaU 2 zfD
def zdV:SV:=by walk_at "#qjrv{8Bqe7q^r{"
def zbz:List D->Sto->Res D:=zaU 2 zdV
def zfC:SV:=by walk_at "#Ps]t2tcqA"
def zay:List D->Sto->Res D:=zaU 1 zfC
def zcY:SV:=by walk_at "#4r>qeqdqdrVt(<qorY<qnq`sGrY"
def za9:List D->Sto->Res D:=zaU 2 zcY
def zdt:SV:=by walk_at "#4sFr1s4qb#r*%#r*t2s4'qS4ZZsG1r>qeqd7rparI/r1u}'s}(`JPx48uhw'Lw((s=tX<rISZsG&%"
def zbp:List D->Sto->Res D:=zaU 4 zdt
def zdc:SV:=by walk_at "#4t[Eqeqdq=1q=qdq8sr=u+t^u/ZsG1(r=as2r1sbqbqi#t^q&s<r1sb'/r=qx<r+qD&ZRsG/S"
def zbj:List D->Sto->Res D:=zaU 5 zdc
def zdU:SV:=by walk_at "#P{9t2tcr7"
def zby:List D->Sto->Res D:=zaU 2 zdU
def zdd:SV:=by walk_at "#4t[r>qed(saq=dq8rtAq3q#q;qt{:{;qA3qZw)u4ujq;qt{<{=sH3qZw*u4ujq;qt{>{?'q&%3qZ{AgP{BBqe7BEqed(O0qt{C{D'u7"
def zbk:List D->Sto->Res D:=zaU 5 zdd
def zds:SV:=by walk_at "#4q$qcrSsCsABqedqP=qjrWr(#w%0qerl#w%0qeqElrdqt{E{Fu:rlq$qi/qcqx("
def zbo:List D->Sto->Res D:=zaU 4 zds
def zeK:SV:=by walk_at "#v^qt{G{Hr74wc'qSr4(qDEqe1r{9{I0qe0qt{J{Kr7MOqUu&r1tcr73/"
def zb6:List D->Sto->Res D:=zaU 4 zeK
def zdT:SV:=by walk_at "#t1sb'sFr1sbu;t2sbr7r<rI&r1u}'rbs/s4'sFr1s4u;t2s4u:J"
def zbx:List D->Sto->Res D:=zaU 2 zdT
def zeL:SV:=by walk_at "#qjrjtdOq4w)q6%t1u}'sGrbs/s4qbqjwrrjtdOq4x5rR%rjx$t3u/sGt-raqt{L{M't3%uk"
def zbH:List D->Sto->Res D:=zaU 2 zeL
def zgM:SV:=by walk_at "#PsBreErYqcqyv}GB(1."
def zc0:List D->Sto->Res D:=zaU 2 zgM
def zeM:SV:=by walk_at "#q9x0C>BEqwu%B(&%r4t~s?vtroq+ju<Sq:>qjrWqnt~s?s1lu~q+u<qir>[1rqtUwxwyu<t{Sr8B[1t0r<qnt~s?vuroq+jt~dZE/u<rru<q:>qxq`q+qDr>qws:"
def zb7:List D->Sto->Res D:=zaU 7 zeM
def zfJ:SV:=by walk_at "#9qlr=rSt`ErYq8Cqr>u+{NOqBMq&q6q5Nr4qTrl7qirqr:#ssq60t]u{1sy0t]u{UNrX0qDu)sEqDu)u(groS#qlrsr=3S"
def zcz:List D->Sto->Res D:=zaU 8 zfJ
def zh4:SV:=by walk_at "#r4r>u%s?x/q%w#J9tat3r91qT:>u3Pssrzt_%rzt_%rzutM0<v{qD(dsE"
def zcL:List D->Sto->Res D:=zaU 3 zh4
def zfH:SV:=by walk_at "#9{OGsy%tVv_srrtu=u+r*t0u${PSsaq=&tVrtNqr_qrqXq3ar+qTsy%7qi#sBrerr7q:rcqyx6GqLrcqPqXgs}q+sDrs8tat/r9t&#u8rRrysEqLqX.ruM`8umt{t)"
def zcy:List D->Sto->Res D:=zaU 10 zfH
end MD
namespace MxD
open PySem PySem.Spec PyProof.Rows
variable{p:ap}{A:aA}{d:af}{z:aj}
section
variable{w:al}{R:bA->aj->Prop}{it:ad}{fs ws:List ad}{n:Nat}{V:Nat->af->Prop}{T:Nat->ax->Prop}
abbrev kwD(d:af):List (ae×af):=[(yaa "default", d)]
def zuF(z:aj)(b:ad)(x:Array af)(c:Nat):Prop:=z.heap.get? b=aa { cls := .type "list", dict:=ab,data := .seq x c,slots := #[] }
theorem ztD:(toString "max" ++ toString ".loop" : String) = "max.loop" := by decide
theorem zwa(W:Walks p w A.in1 it fs ws n V T)(bt:Nat->Nat->Bool)(C:CmpOf p w A.in1 .Gt V bt)(b:ad)(f:b∉fs) :
  ∀(k j:Nat)(z:aj)(x:af)(c:Nat),n-(j+1)=k->j+1<=n->T (j+1) z.heap->V (aP bt j) x->zuF z b #[x,x] c →
  (∀v g t,V (aP bt (n-1)) v->(∀a o,a∉ws->a≠b->z.heap.get? a=aa o->g.get? a=aa o)->R (.ok (.ret v)) { z with heap:=g,toks:=t }) →
  codeAny (ao p w) A (.builtin "max.loop" ⟨[.ref it,.none,.ref b],kwD d⟩) R z
 |0,j,z,x,c,G,F,B,r,i,s=>by
  have y:b∉ws:=fun q=>f (W.sub _ q);have E:j+1=n:=by omega
  refine ca yc4 ?_;rw[ycf ybf _];show wpAny _ A.in1 (bY (.ref b) >>= _) _ _ z;refine ai (aY i rfl ?_);show wpAny _ A.in1 (tryCatch (bh (.ref it)) _ >>= _) _ _ z;refine ai (b5 (W.done z _ _ (E ▸ B) fun g t kp=>?_));have h:=kp b _ y i;show wpAny _ A.in1 (updateSeq b (fun _=> #[]) >>= _) _ _ _;refine ai (cu h rfl (ai (bP (aw ?_))));exact s x _ t (by rw[<- E];exact r) fun a o m l e=>(yaO _ _ (Ne.symm l)).trans (kp a o m e)
 |k+1,j,z,x,c,G,F,B,r,i,s=>by
  have y:b∉ws:=fun q=>f (W.sub _ q);have hl:j+1<n:=by omega
  refine ca yc4 ?_;rw[ycf ybf _];show wpAny _ A.in1 (bY (.ref b) >>= _) _ _ z;refine ai (aY i rfl ?_);show wpAny _ A.in1 (tryCatch (bh (.ref it)) _ >>= _) _ _ z;refine ai (b5 (W.item (j+1) z _ _ hl B fun v g t hv H kp=>?_));have h:=kp b _ y i;show wpAny _ A.in1 (tryCatch (holding [v,v] (richCompare .Gt v x >>= _)) _ >>= _) _ _ _;refine ai (b5 (ba (ai (C (j+1) (aP bt j) v x _ _ _ hv r ?_))));refine ai (ba (aT (ai (bP (aw ?_)))));cases D:bt (j+1) (aP bt j) with
  |true=>
   simp only[if_true];refine ai (cu h rfl (ai (bP ?_)));rw[ztD];refine aw ⟨bX ybf _,zwa W bt C b f k (j+1) _ v _ (by omega) hl (W.frame _ _ _ H fun a ha o e=>(yaO _ _ fun q:b=a=>f (by rw[q];exact ha)).trans e) (by simp only[aP,D,if_true];exact hv) (yb4 _ h rfl) fun u g' t' m l=>?_⟩;exact s u g' t' m fun a o a1 a2 e=>l a o a1 a2 ((yaO _ _ (Ne.symm a2)).trans (kp a o a1 e))
  |false=>
   simp only[yc5,if_false];refine ai (bP ?_);rw[ztD];refine aw ⟨bX ybf _,zwa W bt C b f k (j+1) _ x c (by omega) hl H (by simp only[aP,D,yc5,if_false];exact r) h fun u g' t' m l=>?_⟩;exact s u g' t' m fun a o a1 a2 e=>l a o a1 a2 (kp a o a1 e)
theorem beginD(W:Walks p w A.in1 it fs ws n V T)(bt:Nat->Nat->Bool)(r:CmpOf p w A.in1 .Gt V bt)(b:ad)(f:b∉fs){c:Nat}(i:T 0 z.heap)(j:zuF z b #[] c)
  (s:0<n->∀v g t,V (aP bt (n-1)) v->(∀a o,a∉ws->a≠b->z.heap.get? a=aa o->g.get? a=aa o)->R (.ok (.ret v)) { z with heap:=g,toks:=t })
  (u:n=0->∀g t,(∀a o,a∉ws->z.heap.get? a=aa o->g.get? a=aa o)->R (.ok (.ret d)) { z with heap:=g,toks:=t }) :
  codeAny (ao p w) A (.builtin "max.loop" ⟨[.ref it,.none,.ref b],kwD d⟩) R z:=by
 have m:b∉ws:=fun q=>f (W.sub _ q);refine ca yc4 ?_;rw[ycf ybf _];show wpAny _ A.in1 (bY (.ref b) >>= _) _ _ z;refine ai (aY j rfl ?_);show wpAny _ A.in1 (tryCatch (bh (.ref it)) _ >>= _) _ _ z;rcases Nat.eq_zero_or_pos n with E|hn
 ·refine ai (b5 (W.done z _ _ (by rw[E];exact i) fun g t kp=>?_));exact ai (bp (aw (u E g t kp)))
 ·refine ai (b5 (W.item 0 z _ _ hn i fun v g t hv H kp=>?_));have h:=kp b _ m j;show wpAny _ A.in1 (updateSeq b (fun _=> #[v,v]) >>= _) _ _ _;refine ai (cu h rfl ?_);rw[ztD];refine aw ⟨bX ybf _,zwa W bt r b f _ 0 _ v _ rfl hn (W.frame _ _ _ H fun a ha o e=>(yaO _ _ fun q:b=a=>f (by rw[q];exact ha)).trans e) hv (yb4 _ h rfl) fun k g' t' l Q=>?_⟩;exact s hn k g' t' l fun a o a1 a2 e=>Q a o a1 a2 ((yaO _ _ (Ne.symm a2)).trans (kp a o a1 e))
end
theorem argsD(x d:af):argsOk "max" ⟨[x],kwD d⟩:=by unfold argsOk;kernel_rfl
section
variable{w:al}{X:af->aj->Prop}{l:ad}{xs:Array (Int×Tok)}
theorem maxD{Q:af->aj->Prop}(b:A.handled=ab)(hl:z.heap.IsList l (bw xs))
  (f:0<xs.size->∀v g t,(bw xs)[aP (fun i j=>decide (numAt xs i>numAt xs j)) (xs.size-1)]?=aa v->(∀a o,z.heap.get? a=aa o->g.get? a=aa o)->Q v { z with heap:=g,toks:=t })
  (k:xs.size=0->∀g t,(∀a o,z.heap.get? a=aa o->g.get? a=aa o)->Q d { z with heap:=g,toks:=t }) :
  wpAny (ao p w) A (call (.builtin "max") [.ref l] (kwD d)) Q X z:=by
 have hs:(bw xs).size=xs.size:=by simp[bw]
 refine kmb_tree PySem.F.kind_max PySem.F.plain_max PySem.F.entry_max (argsD _ _) ?_;show wpAny _ A.in1 (yd1 "max" ["key", "default"] 0 ⟨[],kwD d⟩ >>= _) _ _ z;refine ai (aR (show yd1 "max" ["key", "default"] 0 ⟨[],kwD d⟩=pure [ab,aa d] from rfl) ?_);refine ai (aw (ai (iter_intList hl fun Z e st H h=>?_)));subst e;refine ai (aQ ?_);have W:=ycd (prog:=p) (w:=w) (A:=A.in1) b _ l h (bw xs);have c:((z.heap.push { cls := .type "list_iterator", data := .fields #[.ref l,.int 0 0] }).objs.size)∉[z.heap.objs.size,l]:=fun q=>yao _ (H _ q);rw[ztD];refine aw ⟨bX ybf _,beginD W _ (CmpOf.ints_gt (numAt xs) fun _ _=>intItems_at) _ c (W.frame _ _ _ st fun a _ o e=>yt _ e) (yC _ rfl) (fun hn v g t hv kp=>?_) fun hn g t kp=>?_⟩
 ·refine f (by omega) v g t (by rw[<- hs];exact hv) (old_kept fun a o ha e=>kp a o ha (yG (yA e)) (yt _ e))
 ·refine k (by omega) g t (old_kept fun a o ha e=>kp a o ha (yt _ e))
end
end MxD
namespace MD
open PySem PySem.Spec PyProof.Rows L2
variable{X:Cx}{p pos:ay}
section
variable{x:ae}{e:ak}{es:List ak}{kws:List aV}{t tk:TA}{id:String}{ks:List ae}{r:List V->List V->Hp->VK->Prop}
def zuH(X:Cx)(f:af)(ks:List ae)(r:List V->List V->Hp->VK->Prop):Prop :=
 ∀(pins:List (ad×av))(s:aj)(σ : L2.St)(H:Hp)(vs:List V)(us:List af)(zs:List V)(ws:List af)(Q:VK),Inv X pins σ H s->Vals vs us->Vals zs ws->r vs zs H Q->wpAny (ao X.prog X.w) X.A (call f us (ks.zip ws)) (EP X pins σ Q) X.xe s
def tCBK(r:List V->List V->Hp->VK->Prop)(t tk:TA):TE:=fun σ H Q=>t σ H fun vs H1=>tk σ H1 fun zs H2=>r vs zs H2 Q
theorem zqy(n:zuH X (.builtin id) ks r)(l:Gl X x)(hm:X.mg x=ab)(hv:aZ x=aa (.builtin id))(ha:PA X (e::es) t)(f:PK X kws tk)(a:autoParam ((aL pos (aM kws X.env)).all (·.1.isSome)=ac) AutoP.a3._auto_1)(g:autoParam ((aL pos (aM kws X.env)).filterMap (·.1)=ks) AutoP.a3._auto_1)(hn:autoParam (x ≠ "__name__") AutoP.a1._auto_1)(i:autoParam ((x==("__debug__" : ae))=ag) AutoP.a1._auto_1)(m:autoParam (au (e::es) X.env=(ag,eval e X.env)::au es X.env) AutoP.a3._auto_1)(b:autoParam (((aB pos (au (e::es) X.env)).any (·.1)||(aL pos (aM kws X.env)).any (·.1.isNone))=ag) AutoP.a3._auto_1):PE X (.Call (.Name x p) (e::es) kws pos) (tCBK r t tk):=by
 intro pins s σ H Q I h;refine bV (zeg I l hm hv ?_ hn i);obtain⟨d,c⟩:=Bool.or_eq_false_iff.mp b;refine callWith_builtin_kwB d c (evalArgs_kw2 a (thn (ha pos pins s σ H _ I h) fun us s1 ⟨vs,w,u,j,q⟩=>?_) m);refine thn (f pos pins s1 σ w _ u q) ?_;rintro ws s2 ⟨z,v,o,R,k⟩;rw[g];exact n pins s2 σ v vs us z ws Q o j R k
def rMaxD(K:ye):List V->List V->Hp->VK->Prop:=fun vs zs H Q=>∃(l:ad)(ns:List Int)(y:V),vs=[.ref l]/\zs=[y]/\SqL K H l (ns.map V.int)/\(ns≠[]->Q (.int (zpr ns)) H)/\(ns=[]->Q y H)
theorem zsp(k:X.calm=ac):zuH X (.builtin "max") ["default"] (rMaxD X.K):=by
 intro pins s σ H vs us z ws Q I r R h;obtain⟨l,ns,y,rfl,rfl,j,m,n⟩:=h;obtain⟨u,rfl,c⟩:=zcB r;obtain⟨d,rfl,b⟩:=zcB R;cases c;obtain⟨its,r',pl,o⟩:=I.list j;have hl:=pl.isList;obtain⟨ys,e,hs,f⟩:=zpJ r';rw[e]at hl;refine MxD.maxD (I.ok.hd k) hl (fun hn v g t hv a=>?_) fun hn g t a=>?_
 ·obtain⟨t',rfl⟩:=intItems_at hv;refine⟨_,H,I.kept a,?_,m fun q=>?_⟩
  ·have E:numAt ys=fun i=>ns.getD i 0:=funext f;refine⟨t',?_⟩;rw[E,hs];rfl
  ·have:ns.length=0:=by rw[q];rfl
   omega
 ·exact⟨y,H,I.kept a,b,n (ycP.mp (by rw[<- hs];exact hn))⟩
end
def zrj(x d:D)(m:Sto):Res D:=match (lOf x m).bind zeN with
 |some ns=>if ns=[] then .ok d m else .ok (.int (zpr ns)) m|none=>.bad
def zph(f fd:EV):EV:=fun ρ m=>(f ρ m).bind fun x m1=>(fd ρ m1).bind fun d m2=>zrj x d m2
variable{cl:ae->ad}{ex:XD}
section
variable{e e2:ak}{fa fd:EV}{kp:ay}
theorem zql(u:X.calm=ac)(s:Gl X "max")(hm:X.mg "max" = ab)(t:QE X cl ex e fa)(hd:QE X cl ex e2 fd)(hs:autoParam (au [e] X.env=(ag,eval e X.env)::au [] X.env) AutoP.a3._auto_1)(b:autoParam ((aL pos (aM [⟨aa "default", e2,kp⟩] X.env)).all (·.1.isSome)=ac) AutoP.a3._auto_1)(f:autoParam ((aL pos (aM [⟨aa "default", e2,kp⟩] X.env)).filterMap (·.1)=[yaa "default"]) AutoP.a3._auto_1)(c:autoParam (((aB pos (au [e] X.env)).any (·.1)||(aL pos (aM [⟨aa "default", e2,kp⟩] X.env)).any (·.1.isNone))=ag) AutoP.a3._auto_1) : QE X cl ex (.Call (.Name "max" p) [e] [⟨aa "default", e2,kp⟩] pos) (zph fa fd) :=
 ⟨PE.weak (zqy (zsp u) s hm (by rfl) (zcT t.out zgA hs) (zvy hd.out pk_nil) b f (by decide) (by decide) hs c) fun σ H Q o=>ex3 o fun α ρ m W hr h=>
  tD.use W hr h fun k m1 z d v A i hr1 R n=>tD.use i hr1 n fun j m2 y D V x w hr2 r a=>by
   have R:=R.mono i x;unfold zrj at a;split at a
   ·rename_i ns e;obtain⟨xs,E,e2⟩:=yaB.mp e;obtain⟨p,ys,rfl,g,l⟩:=zgl w E R;rw[zdz e2 l]at g;refine⟨p,ns,V,rfl,rfl,g,fun q=>?_,fun q=>?_⟩
    ·rw[if_neg q]at a;exact PQ.ok w a _ zfU
    ·rw[if_pos q]at a;exact PQ.ok w a _ r
   ·exact a.elim⟩
end
section
variable{K:ye}
theorem zvZ{α : List ad}{m:Sto}{H:Hp}{p:ad}{ds:List (L2.Key×D)}{vs:List (L2.Key×V)}{R:RD D}(W:Wd K cl α m H)(c:H p=ab)(r:RepKV K α H ds vs)(h:PQ K cl ex (.ok (.ob m.length) (m++[.dct ds])) α H R):∃α' m',R (.ob m.length) α' m' (upd H p (.dK vs))/\Rep K α' (upd H p (.dK vs)) (.ob m.length) (.ref p):=by
 have E0:Ext α H (α ++ [p]) (upd H p (.dK vs)):=⟨⟨[p],rfl,fun b d=>by rw[y8.mp d];exact c⟩,fun a o h _=>Same.new c a o h,(Ext.of_same W (Same.new c)).there,fun a o u h=>Same.new c a _ h⟩;obtain⟨w,E⟩:=W.new (u := .dK vs) (o := .dct ds) c ⟨vs,zaD,r.mono W E0⟩;refine⟨_,_,h _ _ E w,?_⟩;rw[Rep];refine⟨p,?_,rfl⟩;rw[<- W.len,yan (yh _)];simp
end
end MD
namespace L2
open PySem PySem.Spec PyProof.Rows
variable{X:Cx}{pins:List (ad×av)}{σ : St}{H:Hp}{s:aj}{a:ad}{o:av}{kvs:List (Key×V)}
section
theorem Inv.freeze(I:Inv X pins σ H s)(e:H a=aa (.dK kvs))(h:s.heap.get? a=aa o):Inv X pins σ (upd H a (.frz o (.dK kvs))) s :=
 I.write (x:=a) (e:=a) (t':=s.toks) (by rw[e];trivial) (.inl rfl) (fun b u _ q=>q) ⟨_,h⟩ ⟨h,I.hok a _ e⟩
def Warm(X:Cx)(a:ad):Prop:=∀o u,X.H₀ a≠aa (.frz o u)
theorem Inv.warm(I:Inv X pins σ H s)(e:H a=aa (.dK kvs)):Warm X a:=fun o u q=>by
 have:=I.base.frzs a o u q;rw[e]at this;cases this
theorem Inv.thaw(I:Inv X pins σ H s)(e:H a=aa (.frz o (.dK kvs)))(w:Warm X a):Inv X pins σ (upd H a (.dK kvs)) s:=by
 have N:∀b,H b=ab->b≠a:=fun b n z=>by rw[z,e]at n;cases n
 have kp:∀b,H b=ab->upd H a (.dK kvs) b=ab:=fun b n=>by rw[zax (N b n)];exact n
 refine⟨I.ok,I.os,I.bare,⟨I.base.keep,I.base.slot,fun b u q n f=>kp b (I.base.free b u q n f),I.base.there,fun b xs q=>?_,fun b u v q=>?_,fun b ps q=>?_⟩,I.loc,I.cell,kp _ I.free,fun x c q=>kp _ (I.freeC x c q),fun p g=>?_,fun b u q=>?_,I.len⟩
 ·have h:=I.base.tups b xs q;rw[zax fun z=>by rw[z,e]at h;cases h];exact h
 ·have h:=I.base.frzs b u v q;rw[zax fun z=>w u v (by rw[<- z];exact q)];exact h
 ·obtain⟨more,h⟩:=I.base.tbls b ps q;exact⟨more,by rw[zax fun z=>by rw[z,e]at h;cases h];exact h⟩
 ·obtain⟨k,j,i⟩:=I.pin p g;exact⟨k,kp _ j,i⟩
 ·by_cases d:b=a
  ·subst d;rw[zaD]at q;cases q;exact(I.hok b _ e).2
  ·rw[zax d]at q;exact(I.hok b u q).stay (fun c v _ r=>r) (fun c r=>by rw[zax fun z=>by rw[z,e]at r;cases r];exact r) fun c xs r=>by rw[zax fun z=>by rw[z,e]at r;cases r];exact r
end
def Itk(a:ad)(o:av)(kvs:List (Key×V)):It :=
 ⟨fun i H=>H a=aa (.frz o (.dK kvs))/\i<kvs.length,fun i H x H'=>H'=H/\∃k v,kvs[i]?=aa (k,v)/\x=kV k,fun i H=>H a=aa (.frz o (.dK kvs))/\kvs.length<=i⟩
variable{P:ap}
theorem zry{w:al}{k:Key}{u:af}(h:(zaP P w).is k u=ac):RelV (kV k) u:=by
 rcases zbb (show zmM k u=ac from h) with⟨i,t,rfl,rfl⟩|⟨x,t,rfl,rfl⟩
 ·exact⟨t,rfl⟩
 ·exact⟨t,rfl⟩
theorem zuw{es:Array DictEntry}{ep:Nat}(I:Inv X pins σ H s)(e:H a=aa (.frz o (.dK kvs)))(hd:o.data = .dict es ep):∃vs,KV kvs vs/\s.heap.DictAt (zaP X.prog X.w) a vs ep:=by
 obtain⟨c,_,_,vs,r,o',E,g,b,f,h,d⟩:=I.hok a _ e;rw[c]at b;cases b;rw[hd]at h;cases h;exact⟨vs,r,o,es,c,f,hd,d⟩
variable{tg:ak}
theorem zpF{w:al}{K:ye}(a it:ad)(o:av)(kvs:List (Key×V))(es:Array DictEntry)(ep:Nat)(hd:o.data = .dict es ep):Turn P w K tg (Itk a o kvs) [it] it (fun i h=>h.IsKeyIter it a i kvs.length ep) where
 mem:=by simp
 obj:=fun i h st b f=>by
  have e:b=it:=by simpa using f
  subst e
  obtain⟨o,e,c,d⟩:=st
  exact⟨o,e,fun v z=>by rw[d]at z;cases z⟩
 keep:=fun i h h' st k=>st.at fun o e=>k it (by simp) o e
 item:=by
  intro X t j u A i pins s σ H E I g st n
  subst t j u
  obtain⟨p,hi⟩:=n
  obtain⟨vs,r,D⟩:=zuw I p hd
  have hl:=r.length
  obtain⟨f0,f1,f2,f3,f4,F⟩:=g it (by simp)
  obtain⟨⟨k,x⟩,y⟩:∃q,vs[i]?=aa q:=⟨vs[i]'(by omega),by simp[show i<vs.length by omega]⟩
  rw[hl]at st
  refine wpAny_pyNext_dict_item st D y fun key h' G S B=>?_
  have N:Inv X pins σ H { s with heap:=h' }:=I.turned (t':=s.toks) (fun b o f e=>(B.2 b f).trans e) f0 f1 f3 f4 F
  obtain⟨o',L,M,d'⟩:=id S
  have m:∃v,kvs[i]?=aa (k,v):=by
   have:=congrArg (fun l=>l[i]?) r.keys
   simp only[yW,y,yaL]at this
   obtain⟨q,C,e⟩:=yat.mp this
   exact⟨q.2,by rw[C,<- e]⟩
  obtain⟨v,hv⟩:=m
  exact⟨key,rfl,zrP (s:={ s with heap:=h' }) L M d' (by decide) ⟨kV k,H,N,zry G,⟨rfl,k,v,hv,rfl⟩,by rw[hl];exact S,fun b f=>(g b f).1⟩⟩
 done:=by
  intro X t j u A i pins s σ H E I g st n
  subst t j u
  obtain⟨p,hi⟩:=n
  obtain⟨vs,r,D⟩:=zuw I p hd
  have hl:=r.length
  obtain⟨f0,f1,f2,f3,f4,F⟩:=g it (by simp)
  rw[hl]at st
  exact wpAny_pyNext_dict_end (I.ok.hd A) st D (by simp;omega) fun h' J=>⟨rfl,I.turned (t':=s.toks) (fun b o f e=>J b o f e) f0 f1 f3 f4 F⟩
 self:=fun _ _ _ _ _ st h=>wpAny_pyIter_keyiter st h
def iKeys(X:Cx)(t:TE):TI:=fun σ H R=>t σ H fun x H1=>∃a kvs,x = .ref a/\H1 a=aa (.dK kvs)/\∀o,Warm X a->R (Itk a o kvs) (upd H1 a (.frz o (.dK kvs)))
variable{tl:TE}
theorem zvB{l:ak}(hl:PE X l tl):PI X tg l (iKeys X tl):=by
 intro pins s σ H R I h;refine thn (hl pins s σ H _ I h) ?_;rintro v s1 ⟨x,n,c,g,Q⟩;obtain⟨a,kvs,rfl,e,q⟩:=Q;cases g;obtain⟨_,hs,vs,r,o,es,ep,f,m,d,k⟩:=c.hok a _ e;have D:s1.heap.DictAt (zaP X.prog X.w) a vs ep:=⟨o,es,f,m,d,k⟩;refine wpAny_pyIter_dict hs D ?_;have i:=c.freeze e f;refine⟨s1.heap.objs.size,[s1.heap.objs.size],_,_,upd n a (.frz o (.dK kvs)),rfl,i.kept (t':=s1.toks) fun b o e=>yt _ e,zpF a _ o kvs es ep d,⟨_,yC _ rfl,rfl,by rw[r.length];rfl⟩,fun b j=>?_,q o (c.warm e)⟩;have e:b=s1.heap.objs.size:=by simpa using j
 subst e;exact i.fpOk (yh _) (i.hok.fresh (yh _))
section
variable{N0:List ae}{elt iter:ak}{ifs:List ak}{scope:aG}{xs:List ae}{cl:List (ae×ad)}{pos:ay}{g:TG}{tf:TT}{te:TE}
def zuG(n:Nat)(g:TG)(tf:TT)(te:TE)(J:It)(f:List V->Hp->Prop)(σ : St)(H:Hp):Prop :=
 ∃W:Nat->Nat->List V->Hp->Prop,(∃m,W 0 m [] H)/\∀i m ys H,W i m ys H->ys.length<=sizeLine/\((J.stop i H/\f ys H)∨(J.go i H/\∃(Y:V->Hp->Prop)(Z:Hp->Prop),(∀y H4,Y y H4->ys.length<sizeLine/\∃m',m'<m/\W (i+1) m' (ys++[y]) H4) ∧
  (∀h,Z h->∃m',m'<m/\W (i+1) m' ys h)/\∀x H',J.yld i H x H'->g x (σ ++ yn n ab) H' fun a H2=>tf a H2 fun b h=>if b=ac then te a h Y else Z h))
def tCompK(X:Cx)(n:Nat)(t:TE)(g:TG)(tf:TT)(te:TE):TE:=fun σ H Q=>iKeys X t σ H fun J H2=>∃a o kvs,J=Itk a o kvs/\Warm X a ∧
 zuG n g tf te (Itk a o kvs) (fun ys H'=>H' a=aa (.frz o (.dK kvs))/\∀p,H' p=ab->Q (.ref p) (upd (upd H' p (.lst ys)) a (.dK kvs))) σ H2
theorem ztq(m:X.calm=ac)(d:X.xe=fun _ _=>False)(S:CompOk X N0 scope xs cl)(hl:PE X iter tl)(f:∀C s H fp,PG (X.comp N0 scope xs cl C s H fp) tg g)(j:∀C s H fp,PIf (X.comp N0 scope xs cl C s H fp) ifs tf)(l:∀C s H fp,PE (X.comp N0 scope xs cl C s H fp) elt te)(hs:autoParam (∀x,bi iter X.env x=pure x) AutoP.a2._auto_1) : PE X (.ListComp elt [⟨tg,iter,ifs,0⟩] scope pos) (tCompK X xs.length tl g tf te):=by
 intro pins s σ H Q I h;rw[eval_ListComp];refine cj (use:=ab) rfl hs S.clos S.kind (fun y c hl=>(S.lo c hl).1) ?_;refine thn (zvB (tg:=tg) hl pins s σ H _ I h) fun u s1 q=>thn q fun i s2 p=>?_;obtain⟨it,fp,tn,J,B,rfl,r,T,b,f2,a,o,kvs,rfl,w,W,⟨m0,w0⟩,turn⟩:=p;refine zjb (RR:=fun A C=>compPost (ao X.prog X.w) X.A X.xe ab (EP X pins σ Q) A C) m d S f j l r T b f2 w0 turn ?_;intro D C v ys H' m' t n hn F ⟨e,fin⟩;have ne:a≠D:=fun z=>by rw[z,n]at e;cases e
 exact⟨m',hn,fun h' k=>⟨.ref D,_,(zic t F k).thaw (by rw[zax ne];exact e) w,rfl,fin D n⟩⟩
end
end L2
namespace MD
open PySem PySem.Spec PyProof.Rows L2
variable{K:ye}{cl:ae->ad}{ex:XD}{gt:GV}{ta:TV}{fa:EV}{α : List ad}{H:Hp}{a:ad}{o:av}{kvs:List (L2.Key×D)}
section
theorem zpC{n k:Nat}{o:MO}{ds:List D}{F:List V->Hp->Prop}{σ : L2.St}{c:List ad}{ρ : En}{m1:Sto}{f:Hp}{J:It}{R:RD (List D)}(C:Wd K cl c m1 f)(hr1:RepE K c f ρ σ)(N:ItO K cl c f J k o ds)(Z:ds.length<=1000000)(q:PQ K cl ex (zc3 k o gt ta fa (ρ ++ yn n ab) ds m1) c f R)(hR:∀ds α' m' H' vs,Ext c f α' H'->Wd K cl α' m' H'->m'[k]?=aa o->R ds α' m' H'->RepL K α' H' ds vs->F vs H'):zuG n (tDG K cl ex gt) (tDT K cl ex ta) (tD K cl ex fa) J F σ f:=by
 refine zmZ (k:=ds.length) (fun i ys H=>∃a m2 done,Ext c f a H/\Wd K cl a m2 H/\RepL K a H done ys/\done.length<=i/\PQ K cl ex ((zc3 k o gt ta fa (ρ ++ yn n ab) (ds.drop i) m2).bind fun xs m=>.ok (done++xs) m) a H R) Z ?_ ?_ ?_ ?_
 ·refine⟨c,m1,[],Ext.refl C,C,by rw[RepL],yh _,?_⟩;simp only[ybP,ybM,Res.bind_ok'];exact q
 ·rintro i ys H ⟨_,_,done,_,_,r,l,_⟩;rw[<- r.length];exact l
 ·rintro i ys H hi ⟨a,m2,done,t,W,r2,l2,Q⟩;have hd:ds[i]?=aa ds[i]:=by simp[hi]
  rw[ybN hi,zc3]at Q;have e:m2[k]?=aa o/\PQ K cl ex (((gt ds[i] (ρ ++ yn n ab) m2).bind fun j m1=>(ta j m1).bind fun b m2=>if b=ac then (fa j m2).bind fun x M=>(zc3 k o gt ta fa (ρ ++ yn n ab) (ds.drop (i+1)) M).bind fun xs m=>.ok (x::xs) m else zc3 k o gt ta fa (ρ ++ yn n ab) (ds.drop (i+1)) m2).bind fun xs m=>.ok (done++xs) m) a H R:=by
   unfold grd at Q;split at Q
   ·exact⟨‹_›,Q⟩
   ·exact Q.elim
  obtain⟨h,Q⟩:=e;obtain⟨g1,g2⟩:=(N i a m2 H t W h).1 _ hd;refine⟨g1,fun x H3 y=>?_⟩;obtain⟨S,U⟩:=g2 x H3 y;have u:=Ext.of_same W S;have B:=W.same S;rw[Res.bind_assoc]at Q;have g:=t.trans u;refine⟨a,ρ ++ yn n ab,m2,ds[i],B,(hr1.mono C g).more n,U,PQ.mono u Q.bind fun w T m H4 E4 W4 G P hr4=>?_⟩;rw[Res.bind_assoc]at G;refine tDT.use W4 hr4 G fun p L H5 b E5 A hr5 q5=>?_;have E:=E4.trans E5;cases b with
  |false=>exact⟨p,L,done,g.trans E,A,(r2.mono W u).mono B E,ybQ l2,q5⟩|true=>
   have s:PQ K cl ex (((fa w L).bind fun x M=>(zc3 k o gt ta fa (ρ ++ yn n ab) (ds.drop (i+1)) M).bind fun xs m=>.ok (x::xs) m).bind fun xs m=>.ok (done++xs) m) p H5 R:=q5;rw[Res.bind_assoc]at s;refine tD.use A hr5 s fun z Y H6 d v O W6 hr6 X q6=>?_;rw[Res.bind_assoc]at q6;refine⟨z,Y,done++[d],g.trans (E.trans O),W6,RepL.append (((r2.mono W u).mono B E).mono A O) (RepL.one X),by rw[yI];show done.length+1<=i+1;omega,?_⟩;simp only[yaq,yc1];exact q6
 ·rintro ys H ⟨a,m2,done,t,W,r2,l2,Q⟩;rw[ybO (yh _),zc3]at Q;have e:m2[k]?=aa o/\PQ K cl ex (.ok (done++[]) m2) a H R:=by
   unfold grd at Q;split at Q
   ·exact⟨‹_›,Q⟩
   ·exact Q.elim
  obtain⟨h,I⟩:=e;refine⟨(N ds.length a m2 H t W h).2 rfl,?_⟩;rw[yas]at I;exact hR _ _ _ _ _ t W h (PQ.ok W I) r2
def kD:L2.Key->D
 |.inl i=>.int i|.inr z=>.str z
theorem rep_k(k:L2.Key):Rep K α H (kD k) (kV k):=by
 cases k with
 |inl i=>rw[kD,Rep];rfl|inr z=>rw[kD,Rep];rfl
theorem RepKV.keysEq{α : List ad}{H:Hp}:∀{ds:List (L2.Key×D)}{vs:List (L2.Key×V)},RepKV K α H ds vs->ds.map (·.1)=vs.map (·.1)
 |[],_,h=>by rw[RepKV]at h;subst h;rfl| (k,d)::r,_,h=>by
  rw[RepKV]at h;obtain⟨v,r',rfl,_,h2⟩:=h;rw[yE,yE,RepKV.keysEq h2]
theorem ito_k{k:Nat}{xs:List (L2.Key×V)}(m:H a=aa (.frz o (.dK xs)))(e:kvs.map (·.1)=xs.map (·.1)):ItO K cl α H (Itk a o xs) k .hid (kvs.map fun p=>kD p.1):=fun i b m1 r E W q=>by
 have h:=E.frzs a o _ m;have hl:kvs.length=xs.length:=by have:=congrArg ya8 e;simpa using this
 refine⟨fun d hd=>?_,fun hi=>⟨h,by rw[hi,yj];omega⟩⟩;have hi:=(yi.mp hd).1;rw[yj]at hi;refine⟨⟨h,by omega⟩,?_⟩;rintro x n ⟨rfl,f,v,g,rfl⟩;refine⟨Same.refl _,?_⟩;have c:=congrArg (fun l=>l[i]?) e;simp only[yW,g,yaL]at c;obtain⟨p,j,ep⟩:=yat.mp c;rw[yW,j]at hd;cases hd;show Rep K b n (kD p.1) (kV f);rw[ep];exact rep_k _
end
variable{ys:List (L2.Key×V)}
section
variable{m:Sto}
theorem Kp.thaw(ha:a∈α)(c:H a=aa (.frz o (.dK ys))):Kp α H α (upd H a (.dK ys)):=by
 refine⟨⟨[],by simp⟩,fun b xs h=>by rw[zax fun z=>by rw[z,c]at h;cases h];exact h,fun b xs n h=>⟨n,?_⟩,fun b xs h=>by rw[zax fun z=>by rw[z,c]at h;cases h];exact h,fun b xs h=>by rw[zax fun z=>by rw[z,c]at h;cases h];exact h⟩;have ne:b≠a:=fun z=>n (by rw[z];exact ha);rcases h with h|⟨o',h⟩
 ·exact .inl (by rw[zax ne];exact h)
 ·exact .inr ⟨o',by rw[zax ne];exact h⟩
theorem Wd.thaw(W:Wd K cl α m H){k:Nat}(h:α[k]?=aa a)(g:H a=aa (.frz o (.dK ys)))(r:RepKV K α H kvs ys):Wd K cl α (m.set k (.dct kvs)) (upd H a (.dK ys)):=by
 have ha:a∈α := yai h;have kp:=Kp.thaw ha g;refine⟨by rw[yaw];exact W.len,W.nd,fun j b o' E e=>?_⟩;by_cases d:k=j
 ·subst d;rw[h]at E;cases E;have f:k<m.length:=by rw[<- W.len];exact(yi.mp h).1
  rw[ya3 f]at e;cases e;exact⟨ys,zaD,r.kp kp⟩
 ·rw[ybl d]at e;have c:b≠a:=fun z=>by
   subst z;obtain⟨f,p⟩:=yi.mp h;obtain⟨l,n⟩:=yi.mp E;exact d ((ybX W.nd).mp (p.trans n.symm))
  exact(W.at' j b o' E e).kp kp fun u i=>by rw[zax c];exact i
end
def zwe(n:Nat)(g:GV)(c:TV)(el:EV)(ρ : En)(x:D)(m1:Sto):Res D:=match x with
 |.ob k=>match m1[k]? with
  |some (.dct kvs)=>if kvs.length<=1000000 then (match zc3 k .hid g c el (ρ ++ yn n ab) (kvs.map fun p=>kD p.1) (m1.set k .hid) with
   |.ok xs m2=>.ok (.lst xs) (m2.set k (.dct kvs))|_=>.bad) else .bad
  |_=>.bad
 |_=>.bad
def zi9(n:Nat)(fi:EV)(g:GV)(c:TV)(el:EV):EV:=fun ρ m=>(fi ρ m).bind fun x m1=>zwe n g c el ρ x m1
section
variable{X:Cx}{N0:List ae}{e tg it:ak}{ifs:List ak}{fi:EV}{pos:ay}{scope:aG}{xs:List ae}{clo:List (ae×ad)}
theorem znF(hc:X.calm=ac)(T:X.xe=fun _ _=>False)(S:CompOk X N0 scope xs clo)(hi:QE X cl ex it fi)(hg:∀C s H fp,QG (X.comp N0 scope xs clo C s H fp) cl ex tg gt)(hf:∀C s H fp,PIf (X.comp N0 scope xs clo C s H fp) ifs (tDT X.K cl ex ta))(he:∀C s H fp,QE (X.comp N0 scope xs clo C s H fp) cl ex e fa)(hs:autoParam (∀x,bi it X.env x=pure x) AutoP.a2._auto_1):QE X cl ex (.ListComp e [⟨tg,it,ifs,0⟩] scope pos) (zi9 xs.length fi gt ta fa) :=
 ⟨PE.weak (ztq (g:=tDG X.K cl ex gt) (tf:=tDT X.K cl ex ta) (te:=tD X.K cl ex fa) hc T S hi.out (fun C s H fp=>(hg C s H fp).out) hf (fun C s H fp=>(he C s H fp).out) hs) fun σ H Q Y=>ex3 Y fun α ρ m W hr h=>
  tD.use W hr h fun c m1 H1 d v E1 A hr1 I f=>by
   unfold zwe at f;split at f
   ·rename_i k;split at f
    ·rename_i kvs V;obtain⟨r,f⟩:=PQ.if f;rw[Rep]at I;obtain⟨a,ha,rfl⟩:=I;obtain⟨ys,L,J⟩:=A.dct ha V;have ek:=RepKV.keysEq J;split at f
     ·rename_i Z m2 i;refine⟨a,ys,rfl,L,fun o O=>⟨a,o,ys,rfl,O,?_⟩⟩;obtain⟨M,G⟩:=A.set (u := .frz o (.dK ys)) (o := .hid) ha fun _=>⟨o,ys,zaD⟩;refine zpC (R:=fun ds α' m' _=>ds=Z/\m'=m2) (k:=k) (o := .hid) (ds:=kvs.map fun p=>kD p.1) M (hr1.mono A G) (ito_k zaD ek) (by rw[yj];exact r) (by rw[i];exact fun _ _ _ _=>⟨rfl,rfl⟩) ?_;rintro ds α' m' H' vs E' F U ⟨rfl,rfl⟩ D;have t:=E'.frzs a o _ zaD;refine⟨t,fun p K=>?_⟩;obtain⟨β,rfl,P⟩:=E'.pre;have y:(c ++ β)[k]?=aa a:=by rw[yab (yi.mp ha).1];exact ha
      have B:=Same.new (o := .lst vs) K;have Wp:=F.same B;have l:upd H' p (.lst vs) a=aa (.frz o (.dK ys)):=B a _ t;have N:=E'.trans (Ext.of_same F B);have r2:RepKV X.K (c ++ β) (upd H' p (.lst vs)) kvs ys:=(J.mono A G).mono M N;have Wt:=Wp.thaw y l r2;have Et:Ext c H1 (c ++ β) (upd (upd H' p (.lst vs)) a (.dK ys)):=by
       have E0:=G.trans N;have E:a∈c:=yai ha;refine⟨E0.pre,fun b u j n=>?_,fun b j=>?_,fun b u w j=>?_⟩
       ·rw[zax fun z=>n (by rw[z];exact E)];exact E0.keep b u j n
       ·by_cases z:b=a
        ·rw[z,zaD];exact fun q=>nomatch q
        ·rw[zax z];exact E0.there b j
       ·rw[zax fun z=>by rw[z,L]at j;cases j];exact E0.frzs b u w j
      exact f _ _ Et Wt _ ((zcj F K D).kp (Kp.thaw (yai y) l))
     ·exact f.elim
    ·exact f.elim
   ·exact f.elim⟩
end
end MD
namespace L2
open PySem PySem.Spec PyProof.Rows
theorem zgF:∀{ns:List Int}{us:List af},Vals (ns.map V.int) us->bO us ns
 |[],_,r=>by cases r;exact .nil|n::ns,_,r=>by
  cases r with
  |cons a b=>
   obtain⟨t,rfl⟩:=a;exact .cons _ _ (zgF b)
def zeQ(ns:List Int):List Int:=ns.mergeSort
theorem zbS(ns:List Int):(zeQ ns).Perm ns:=List.mergeSort_perm ns _
theorem zd0(ns:List Int):(zeQ ns).Pairwise (· <= ·):=by
 have h:=List.pairwise_mergeSort (le:=fun a b:Int=>decide (a<=b)) (fun a b c d H=>by simp at *;omega) (fun a b=>by simp;omega) ns;exact h.imp fun h=>by simpa using h
theorem zsM{ns n:List Int}(p:n.Perm ns)(o:n.Pairwise (· <= ·)):n=zeQ ns:=yd2 (p.trans (zbS ns).symm) o (zd0 ns)
theorem zhe(ns:List Int):(zeQ ns).length=ns.length:=(zbS ns).length_eq
variable{X:Cx}{vs:List (Key×af)}
section
theorem zpa{P:ap}{w:al}{kvs:List (Key×V)}(r:KV kvs vs){A:List af}(hl:A.length=vs.length)(h:∀(j:Nat)(v:af),A[j]?=aa v->∃(k:Key)(x:af),vs[j]?=aa (k,x)/\(zaP P w).is k v=ac):Vals (kvs.map fun p=>kV p.1) A:=by
 have H:=r.keys;have:∀(ks:List Key)(A:List af),A.length=ks.length->(∀(j:Nat)(v:af),A[j]?=aa v->∃k:Key,ks[j]?=aa k/\(zaP P w).is k v=ac)->Vals (ks.map kV) A:=by
  intro ks;induction ks with
  |nil=>intro A hl _;cases A with
   |nil=>exact .nil|cons=>cases hl
  |cons k ks i=>intro A hl h;cases A with
   |nil=>cases hl|cons a A=>
    obtain⟨K,b,E⟩:=h 0 a rfl;cases b;exact .cons (zry E) (i A (by simpa using hl) fun j v e=>by simpa using h (j+1) v (by simpa using e))
 have q:=this (vs.map (·.1)) A (by rw[yj];exact hl) fun j v e=>by
  obtain⟨k,x,b,E⟩:=h j v e;exact⟨k,by rw[yW,b];rfl,E⟩
 rw[<- H,yaf]at q;exact q
def znB:List V->Hp->VK->Prop:=fun xs H Q=>∃(a:ad)(kvs:List (Key×V))(ns:List Int),xs=[.ref a]/\Rd H a (.dK kvs)/\kvs.map (·.1)=ns.map yay/\ns.length<64/\∀l,H l=ab->Q (.ref l) (upd H l (.lst ((zeQ ns).map V.int)))
theorem zlE(D:X.calm=ac):CallR X (.builtin "sorted") znB:=by
 intro pins s σ H xs us Q I r h;obtain⟨a,kvs,ns,rfl,hr,y,E,q⟩:=h;obtain⟨u,rfl,B⟩:=zcB r;cases B;obtain⟨l,hd,vs,R,G⟩:=zmU I.hok hr;obtain⟨ep,k⟩:=G.dictAt;have x:kvs.length=ns.length:=by have:=congrArg ya8 y;simpa using this
 have i:=R.length;refine Calls.call_function_entry kind_sorted plain_sorted entry_sorted (args_sorted1 _) ?_;unfold aK.«sorted»;refine ai (m:=checkCount "sorted" 1 1 _) (aw ?_);refine ai (PySem.W.kdu_collect (A:=X.A.in1) (PySem.W.kdl_dict (knd:=zaP X.prog X.w) (kvs:=vs) (ep:=ep) hd) (I.ok.hd D) k (by rw[<- i];exact l) fun h' tk c kp d=>?_);have hl:c.toList.length=vs.length:=by rw[ybC];exact d.1
 have hv:=zpa (P:=X.prog) (w:=X.w) R hl fun j v e=>d.2 j v (by rw[<- ydG];exact e);have F:(kvs.map fun p=>kV p.1)=ns.map V.int:=by
  have:=congrArg (List.map kV) y;rw[yaf,yaf]at this;exact this
 rw[F]at hv;have hi:=zgF hv;refine ai (wpAny_newList ?_ (by rw[hl,<- i];exact l));have f:(h'.push (seqObj "list" c.toList.toArray 0)).get? h'.objs.size=aa (seqObj "list" c.toList.toArray 0):=yC _ rfl;show wpAny _ _ _ _ _ { s with heap:=h'.push (seqObj "list" c.toList.toArray 0),toks:=tk };refine ai (ba (bu slot_list_sort ⟨_,f,rfl⟩ entry_list_sort (list_sort_tree f hi (by omega) fun out n a1 a2 a3=>⟨_,rfl,?_⟩) (args_list_sort _)));refine aw ⟨_,rfl,?_⟩;obtain⟨e,C⟩:=sortedHeap_at (out:=out) f;have hn:n=zeQ ns:=zsM a2 a3;subst hn;have z:Inv X pins σ H { s with heap:=h',toks:=tk }:=I.kept (t':=tk) kp;refine⟨.ref h'.objs.size,_,z.laid (t':=tk) (fun b o t=>?_) (yh _) (show ObjOk X.prog X.w _ _ _ (.lst ((zeQ ns).map V.int)) from ⟨?_,out.toList,e,zha a1,by simpa using C⟩),rfl,q _ (z.hok.fresh (yh _))⟩
 ·have g:=yA t;rw[sortedHeap_old (yG g) (by rw[size_push'];exact ydQ g),Heap.get?_push_ne _ _ _ (yG g)];exact t
 ·rw[yj,zhe,bq];omega
end
variable{N0:List ae}{scope:aG}{xs:List ae}{cl:List (ae×ad)}{pins:List (ad×av)}{σ : St}{H2:Hp}{s2:aj}{fp:List ad}
section
variable{C:ad}
theorem zsj{p:List (ad×av)}{a:St}{H':Hp}{s:aj}{D:ad}{ys:List (Key×V)}(I:Inv X pins σ H2 s2)(f2:∀b∈fp,zfT X pins H2 b)(h:s2.heap.objs.size<=D)(J:Inv (X.comp N0 scope xs cl C s2 H2 fp) p a H' s)(hn:H' D=ab)(hs:(D==aS)=ag)(r:KV ys vs)(g:s.heap.DictOf (zaP X.prog X.w) D vs)(H:ys.length<=sizeLine) : Inv X pins σ (upd H' D (.dK ys)) s:=by
 have u:Un (frs X.stack) fp H2 H' s2.heap s.heap:=J.base;have neD:∀b o,s2.heap.get? b=aa o->b≠D:=fun b o q=>yG (yQ (yA q) h);have neT:∀b o,H2 b=aa o->b≠D:=fun b o q=>yG (yQ (I.hok.lt q) h);refine I.call' (ch:=fp) J.os ⟨u.keep,u.slot,fun b o q m e=>?_,u.there,fun b z q=>?_,fun b o z q=>?_,fun b ps q=>?_⟩ (zfx J.hok hn ⟨H,hs,vs,r,g⟩) J.bare fun b f=>?_
 ·rw[zax (neD b o q)];exact u.free b o q m e
 ·rw[zax (neT b _ q)];exact u.tups b z q
 ·rw[zax (neT b _ q)];exact u.frzs b o z q
 ·rw[zax (neT b _ q)];exact u.tbls b ps q
 ·obtain⟨_,d,_,c,z3,Z⟩:=f2 b f;exact⟨c,d,z3,Z⟩
end
variable{kx vx iter:ak}{ifs:List ak}{pos:ay}
theorem zmY{prog:ap}{w:al}{A:aA}{R:bA->aj->Prop}{s:aj}{t:ak}{it:af}{D:ad}{env:Env}(I:Nat->aj->Prop)
  (turn:∀n s,I n s->wpAny (ao prog w) A (bh it) (fun r a=>match r with
   |none=>R (.ok .next) a
   |some v=>wpAny (ao prog w) A (bT t it v) (fun _ T=>wpAny (ao prog w) A (bg t env v) (fun _ f=>
     wpAny (ao prog w) A (forIn ifs ac fun c r=>if r=ac then do let ok <- isTrue c env (eval c env);pure (ForInStep.yield ok) else pure (ForInStep.yield r)) (fun ok S=>
      if ok=ac then wpAny (ao prog w) A (eval kx env) (fun K e=>wpAny (ao prog w) A (eval vx env) (fun V d=>wpAny (ao prog w) A (dictSet D K V) (fun _ b=> ∃m,m<n/\I m b) (fun _ _=>False) d) (fun _ _=>False) e) (fun _ _=>False) S
      else ∃m,m<n/\I m S) (fun _ _=>False) f) (fun _ _=>False) T) (fun _ _=>False) a) (fun _ _=>False) s)
  (n:Nat) (h:I n s):codeAny (ao prog w) A (.compLoop (.DictComp kx vx [⟨t,iter,ifs,0⟩] scope pos) 0 it (.ref D) env) R s:=by
 refine codeAny_loop rfl I (fun n s o=>?_) n h
 show wpAny _ A (Sem.onRaise (compTurn _ 0 it (.ref D) env) fun x=>do noteFrame x env;theTreesLotGoes x) _ _ s
 refine wpAny_noted ?_
 rw[compTurn_dict]
 refine ai (bx (ai (aJ (turn n s o) (fun r a h₁=> ?_) fun _ _ z=>z.elim)))
 cases r with
 |none=>exact aw h₁
 |some v=>
  refine ai (aJ h₁ (fun _ T k=> ?_) fun _ _ z=>z.elim)
  refine ai (aJ k (fun _ f l=>ai (aJ l (fun ok S H=> ?_) fun _ _ z=>z.elim)) fun _ _ z=>z.elim)
  cases ok with
  |false=>exact aw ⟨rfl,H⟩
  |true=>
   exact ai (ai (aJ H (fun K e j=>ai (ba (aJ j (fun V d i=>ai (bx (ba (aJ i (fun _ b g=>aw ⟨rfl,g⟩) fun _ _ z=>z.elim)))) fun _ _ z=>z.elim))) fun _ _ z=>z.elim))
section
variable{tg:ak}{wi:TI}{g:TG}{tf:TT}{tk tv:TE}
theorem zm0{it:ad}{tn:Nat->ax->Prop}{J:It}{W:Nat->Nat->List (Key×V)->Hp->Prop}{m0:Nat}{fin:List (Key×V)->Hp->Prop}{RR:af->ad->bA->aj->Prop}(hc:X.calm=ac)(hx:X.xe=fun _ _=>False)(S:CompOk X N0 scope xs cl)(hg:∀C s H fp,PG (X.comp N0 scope xs cl C s H fp) tg g)(hf:∀C s H fp,PIf (X.comp N0 scope xs cl C s H fp) ifs tf)(hk:∀C s H fp,PE (X.comp N0 scope xs cl C s H fp) kx tk)(he:∀C s H fp,PE (X.comp N0 scope xs cl C s H fp) vx tv)(L:Inv X pins σ H2 s2)(T:Turn X.prog X.w X.K tg J fp it tn)(st2:tn 0 s2.heap)(f2:∀b∈fp,zfT X pins H2 b)(w0:W 0 m0 [] H2)(turn:∀i m ys H,W i m ys H->ys.length<=sizeLine/\((J.stop i H/\fin ys H)∨(J.go i H/\∃(Y:Key->V->Hp->Prop)(Z:Hp->Prop),(∀k y H4,Y k y H4->ys.length<sizeLine/\∃m',m'<m/\W (i+1) m' (zfr ys k y) H4)/\(∀H3,Z H3->∃m',m'<m/\W (i+1) m' ys H3)∧∀x H',J.yld i H x H'->g x (σ ++ yn xs.length ab) H' fun U H2=>tf U H2 fun b H3=>if b=ac then tk U H3 (fun kv H4=>tv U H4 fun y H5=>∃k,kv=kV k/\Y k y H5) else Z H3)))(hRR:∀(D C:ad)(j:aj)(ys:List (Key×V))(H':Hp)(m':ae->Option af),Inv X pins σ (upd H' D (.dK ys)) j->H' D=ab->j.heap.Ns C m'->zfT X pins (upd H' D (.dK ys)) C->fin ys H'->RR (.ref D) C (.ok .next) j) : wpAny (ao X.prog X.w) X.A newDict (fun acc s₃=>wpAny (ao X.prog X.w) X.A (newFunctionEnv scope X.env.globals cl [] X.env.qual ab .none (aa X.env)) (fun R s₄=>codeAny (ao X.prog X.w) X.A (.compStart (.DictComp kx vx [⟨tg,iter,ifs,0⟩] scope pos) 0 (.ref it) acc { R with scope:=bm scope X.env }) (RR acc R.locals) s₄) X.xe s₃) X.xe s2:=by
 refine aQ (wpAny_newFunctionEnv S.nc (by intro y hy;simp at hy) (fun h₁ f h=> ?_) S.kind);dsimp only at f h ⊢;generalize hG:s2.heap.push { cls := .type "dict", dict:=ab,data := .dict #[] }=G at f h ⊢;have szG:G.objs.size=s2.heap.objs.size+1:=by rw[<- hG,yap]
 have hDC:s2.heap.objs.size≠G.objs.size:=by rw[szG];exact yG (ya6 _)
 have hC:s2.heap.objs.size<=G.objs.size:=by rw[szG];exact ybn _
 have I:∀b∈fp,b<s2.heap.objs.size:=fun b a=>let ⟨_,e,_⟩:=T.obj 0 _ st2 b a;yA e;have old:∀b o,s2.heap.get? b=aa o->h₁.get? b=aa o:=fun b o e=>
  h.extBut b o (yG (yQ (yA e) hC)) (yt _ (hG ▸ yt _ e))
 have Q:h₁.get? s2.heap.objs.size=aa { cls := .type "dict", data := .dict #[] }:=h.extBut _ _ hDC (yt _ (hG ▸ yC _ rfl));have hnew:h₁.DictOf (zaP X.prog X.w) s2.heap.objs.size []:=(ydS (knd:=zaP X.prog X.w) s2.heap).at fun o e=>by rw[yC _ rfl]at e;cases e;exact Q
 have hsys:(s2.heap.objs.size==aS)=ag:=beq_eq_false_iff_ne.mpr (Ne.symm (yG L.big));have t : tn 0 h₁ := T.keep 0 _ _ st2 fun b _ o e=>old b o e;have I3:∀tk,Inv (X.comp N0 scope xs cl G.objs.size s2 H2 fp) [(s2.heap.objs.size,{ cls := .type "dict", data := .dict #[] })] (σ ++ yn xs.length ab) H2 { s2 with heap:=h₁,toks:=tk }:=fun tk=>
  zja L S f2 I hC (yh _) hDC old rfl L.bare f Q fun _ z=>nomatch z
 have B:∀{H':Hp}{o:av},(∀b∈fp,H' b=ab)->∀b∈fp,zfT (X.comp N0 scope xs cl G.objs.size s2 H2 fp) [(s2.heap.objs.size,o)] H' b:=fun {H' o} hn b a=>by
  refine⟨hn b a,yG (yQ (I b a) hC),fun z=>?_,.inl a,fun x c e=>(f2 b a).2.2.2.2.1 x c (S.sub.at e),fun p hp=>?_⟩
  ·rcases yB.mp (L.stkSub b z) with q|q
   ·exact(f2 b a).2.1 q
   ·exact(f2 b a).2.2.1 q
  ·have e:p=(s2.heap.objs.size,o):=y8.mp (show p∈[(s2.heap.objs.size,o)] from hp);subst e;exact yaJ (I b a)
 have M:∀tk0,codeAny (ao X.prog X.w) X.A (.compLoop (.DictComp kx vx [⟨tg,iter,ifs,0⟩] scope pos) 0 (.ref it) (.ref s2.heap.objs.size) (compEnvC scope cl G.objs.size X.env)) (RR (.ref s2.heap.objs.size) G.objs.size) { s2 with heap:=h₁,toks:=tk0 }:=by
  intro tk0;refine zmY (fun n j=>∃i ys vs O H',Inv (X.comp N0 scope xs cl G.objs.size s2 H2 fp) [(s2.heap.objs.size,O)] (σ ++ yn xs.length ab) H' j/\tn i j.heap/\(∀b∈fp,H' b=ab)/\KV ys vs/\j.heap.DictOf (zaP X.prog X.w) s2.heap.objs.size vs/\W i n ys H')
   ?_ m0 ⟨0,[],[],_,H2,I3 tk0,t,fun b a=>(f2 b a).1,.nil,hnew,w0⟩
  rintro n j ⟨i,ys,vs,O,H',I',st',fr',rv,dd,w'⟩;obtain⟨N,way⟩:=turn i n ys H' w';have atD:∀{P:List (ad×av)}{A:St}{H':Hp}{j:aj},Inv (X.comp N0 scope xs cl G.objs.size s2 H2 fp) P A H' j->(s2.heap.objs.size,O)∈(X.comp N0 scope xs cl G.objs.size s2 H2 fp).pn++P->j.heap.DictOf (zaP X.prog X.w) s2.heap.objs.size vs:=fun {P A H' j} J hm=>by
   obtain⟨o,ho,hr⟩:=yc6.mp dd;obtain⟨e1,_⟩:=I'.pin _ (yZ _ (y8.mpr rfl));rw[e1]at ho;cases ho;exact yc6.mpr ⟨O,(J.pin _ hm).1,hr⟩
  rcases way with⟨stop,qf⟩|⟨go,Y,Z,hY,hZ,step⟩
  ·refine thn (T.done (X.comp N0 scope xs cl G.objs.size s2 H2 fp) rfl rfl rfl hc i _ j _ H' (fun _ _=>False) I' (B fr') st' stop) ?_;rintro r s1 ⟨hr,I1⟩;subst hr;obtain⟨e,n1,_⟩:=I1.pin _ (yZ _ (y8.mpr rfl));obtain⟨m1,hn1,_⟩:=I1.loc;refine hRR _ _ s1 ys H' m1 (zsj L f2 (yh _) I1 n1 hsys rv (atD I1 (yZ _ (y8.mpr rfl))) N) n1 hn1 ?_ qf;refine L.fpOk hC ?_;rw[zax hDC.symm];exact I1.free
  ·refine thn (T.item (X.comp N0 scope xs cl G.objs.size s2 H2 fp) rfl rfl rfl hc i _ j _ H' (fun _ _=>False) I' (B fr') st' go) ?_;rintro r s1 ⟨u,hr,h1⟩;subst hr;refine thn h1 ?_;rintro _ s5 ⟨x,H5,I5,r5,y5,st5,fr5⟩;have I5':=I5.pinned (B fr5) (T.obj _ _ st5);have K:(X.comp N0 scope xs cl G.objs.size s2 H2 fp).xe=fun _ _=>False:=hx;have q6:=hg _ s2 H2 fp _ s5 _ H5 x u _ I5' r5 (step x H5 y5);rw[K]at q6;refine thn q6 ?_;rintro _ s6 ⟨w,H6,I6,q6⟩;have q7:=hf _ s2 H2 fp _ s6 w H6 _ I6 q6;rw[K]at q7;refine thn q7 ?_;rintro b s7 ⟨H7,I7,q7⟩;have kept:∀{A:St}{H':Hp}{j:aj},Inv (X.comp N0 scope xs cl G.objs.size s2 H2 fp) ([(s2.heap.objs.size,O)]++zcS fp s5.heap) A H' j->tn (i+1) j.heap/\∀b∈fp,H' b=ab:=fun {A H' j} Z=>by
    refine⟨T.keep _ _ _ st5 fun b a o e=>(Z.pin (b,o) (yZ _ (yZ _ (zcK a e)))).1,fun b a=>?_⟩;obtain⟨o,e,d⟩:=T.obj _ _ st5 b a;exact(Z.pin (b,o) (yZ _ (yZ _ (zcK a e)))).2.1
   cases b with
   |false=>
    rw[if_neg yR];rw[if_neg yR]at q7;obtain⟨m',hm,w7⟩:=hZ _ q7;exact⟨m',hm,i+1,ys,vs,O,H7,zex L S f2 I7.unpinned,(kept I7).1,(kept I7).2,rv,atD I7 (yZ _ (yaj _ (y8.mpr rfl))),w7⟩
   |true=>
    rw[if_pos rfl];rw[if_pos rfl]at q7;have q8:=hk _ s2 H2 fp _ s7 w H7 _ I7 q7;rw[K]at q8;refine thn q8 ?_;rintro kv s8 ⟨kvv,H8,I8,r8,q8⟩;have q9:=he _ s2 H2 fp _ s8 w H8 _ I8 q8;rw[K]at q9;refine thn q9 ?_;rintro y s9 ⟨yv,H9,I9,r9,kk,ek,qY⟩;subst ek;obtain⟨hz,m',hm,w8⟩:=hY _ _ _ qY;have mD:(s2.heap.objs.size,O)∈(X.comp N0 scope xs cl G.objs.size s2 H2 fp).pn++([(s2.heap.objs.size,O)]++zcS fp s5.heap):=yZ _ (yaj _ (y8.mpr rfl));obtain⟨eD,nD,neC,nfD,_⟩:=I9.pin (s2.heap.objs.size,O) mD;have hl:=rv.length;refine wpAny_dictSet_pairs (hsz:=by rw[<- hl];exact N) (zmO r8) (atD I9 mD) fun E l F=> ?_;obtain⟨o',ho',hr'⟩:=yc6.mp l;have hcell:∀v,o'.data ≠ .cell v:=fun v z=>by
     obtain⟨_,es,ep,hg',_,hd',_⟩:=l;rw[ho']at hg';cases hg';rw[hd']at z;cases z
    have drop:Inv (X.comp N0 scope xs cl G.objs.size s2 H2 fp) (zcS fp s5.heap) w H9 s9:=I9.pins_of fun p hp=>I9.pin p (yZ _ (yZ _ hp));have I10:∀t',Inv (X.comp N0 scope xs cl G.objs.size s2 H2 fp) (zcS fp s5.heap) w H9 { s9 with heap:=E,toks:=t' }:=fun t'=>by
     refine drop.turned (it:=s2.heap.objs.size) (t':=t') (fun b o a q=>F.extBut b o a q) nD neC (.inr (yh _)) (fun x c e z=>?_) fun p hp z=>?_
     ·obtain⟨v,q⟩:=L.cell x c (S.sub.at e);exact absurd (q.lt) (by rw[z];exact yao _)
     ·have hp':p∈zcS fp s5.heap:=hp;exact absurd (I _ (zhH hp').1) (by rw[z];exact yao _)
    have I11:∀t',Inv (X.comp N0 scope xs cl G.objs.size s2 H2 fp) ([(s2.heap.objs.size,o')]++zcS fp s5.heap) w H9 { s9 with heap:=E,toks:=t' }:=fun t'=>(I10 t').pins_of fun p hp=>by
     rcases yae.mp hp with z|z
     ·have e:=y8.mp z;subst e;exact⟨ho',nD,neC,nfD,hcell⟩
     ·exact(I10 t').pin p (yZ _ z)
    have kp:tn (i+1) E /\ ∀b∈fp,H9 b=ab:=by
     refine⟨T.keep _ _ _ (kept I9).1 fun b a o e=>F.extBut b o (yG (I b a)) e,(kept I9).2⟩
    exact⟨m',hm,i+1,zfr ys kk yv,stored vs kk y,o',H9,zex L S f2 (I11 _).unpinned,kp.1,kp.2,rv.put kk r9,l,w8⟩
 exact codeAny_compStart_dict (M _) (T.self _ 0 _ _ _ t (M _))
def zt8(n:Nat)(w:TI)(g:TG)(tf:TT)(tk tv:TE)(f:List (Key×V)->Hp->Prop):St->Hp->Prop:=fun σ H=>w σ H fun J H1=>∃W:Nat->Nat->List (Key×V)->Hp->Prop,(∃m,W 0 m [] H1)/\∀i m ys H,W i m ys H →
 ys.length<=sizeLine/\((J.stop i H/\f ys H)∨(J.go i H/\∃(Y:Key->V->Hp->Prop)(Z:Hp->Prop),(∀k y c,Y k y c->ys.length<sizeLine/\∃m',m'<m/\W (i+1) m' (zfr ys k y) c)/\(∀h,Z h->∃m',m'<m/\W (i+1) m' ys h) ∧
  ∀x H',J.yld i H x H'->g x (σ ++ yn n ab) H' fun a H2=>tf a H2 fun b h=>if b=ac then tk a h (fun K c=>tv a c fun y d=>∃k,K=kV k/\Y k y d) else Z h))
theorem ztr(m:X.calm=ac)(c:X.xe=fun _ _=>False)(S:CompOk X N0 scope xs cl)(hi:PI X tg iter wi)(e:∀C s H fp,PG (X.comp N0 scope xs cl C s H fp) tg g)(j:∀C s H fp,PIf (X.comp N0 scope xs cl C s H fp) ifs tf)(d:∀C s H fp,PE (X.comp N0 scope xs cl C s H fp) kx tk)(l:∀C s H fp,PE (X.comp N0 scope xs cl C s H fp) vx tv)(hs:autoParam (∀x,bi iter X.env x=pure x) AutoP.a2._auto_1) : PE X (.DictComp kx vx [⟨tg,iter,ifs,0⟩] scope pos) (fun σ H Q=>zt8 xs.length wi g tf tk tv (fun ys H'=>∀p,H' p=ab->Q (.ref p) (upd H' p (.dK ys))) σ H):=by
 intro pins s σ H Q I h;rw[arm_eval_DictComp];refine cj (use:=ab) rfl hs S.clos S.kind (fun y b hl=>(S.lo b hl).1) ?_;refine thn (hi pins s σ H _ I h) fun u s1 q=>thn q fun i s2 o=>?_;obtain⟨it,fp,tn,J,w,rfl,r,T,a,f2,W,⟨m0,w0⟩,turn⟩:=o;refine zm0 (RR:=fun A C=>compPost (ao X.prog X.w) X.A X.xe ab (EP X pins σ Q) A C) m c S e j d l r T a f2 w0 turn ?_;intro D C v ys H' m' t n hn F f;exact⟨m',hn,fun h' k=>⟨.ref D,_,zic t F k,rfl,f D n⟩⟩
end
end L2
namespace PySem
open Sem (wp)
end PySem
namespace L2
open PySem PySem.Spec PyProof.Rows
section
variable{g:TG}{tf:TT}{tk tv:TE}{fin:List (Key×V)->Hp->Prop}{n:Nat}{σ : St}{H:Hp}
theorem zt1{J:It}{k:Nat}(P:Nat->List (Key×V)->Hp->Prop)(s:k<=1000000)(r:P 0 [] H)(o:∀i ys H,P i ys H->ys.length<=i)(j:∀i ys H,i<k->P i ys H->J.go i H/\∀x H',J.yld i H x H'->g x (σ ++ yn n ab) H' fun a H2=>tf a H2 fun b h=>if b=ac then tk a h (fun K c=>tv a c fun y l=>∃q,K=kV q/\P (i+1) (zfr ys q y) l) else P (i+1) ys h)(f:∀ys H,P k ys H->J.stop k H/\fin ys H) : ∃W:Nat->Nat->List (Key×V)->Hp->Prop,(∃m,W 0 m [] H)/\∀i m ys H,W i m ys H->ys.length<=sizeLine/\((J.stop i H/\fin ys H)∨(J.go i H/\∃(Y:Key->V->Hp->Prop)(Z:Hp->Prop),(∀k y c,Y k y c->ys.length<sizeLine/\∃m',m'<m/\W (i+1) m' (zfr ys k y) c)∧(∀h,Z h->∃m',m'<m/\W (i+1) m' ys h)/\∀x H',J.yld i H x H'->g x (σ ++ yn n ab) H' fun a H2=>tf a H2 fun b h=>if b=ac then tk a h (fun K c=>tv a c fun y l=>∃k,K=kV k/\Y k y l) else Z h)):=by
 have hl:sizeLine=16777216:=bq;refine⟨fun i m ys H=>m=k-i/\i<=k/\P i ys H,⟨k,by simp,yav _,r⟩,?_⟩;rintro i m ys H ⟨rfl,hi,p⟩;have z:=o i ys H p;refine⟨by omega,?_⟩;by_cases d:i<k
 ·obtain⟨g1,G⟩:=j i ys H d p;exact .inr ⟨g1,fun q y c=>P (i+1) (zfr ys q y) c,fun h=>P (i+1) ys h,fun q y c w=>⟨by omega,k-(i+1),by omega,rfl,d,w⟩,fun h q=>⟨k-(i+1),by omega,rfl,d,q⟩,G⟩
 ·have e:i=k:=by omega
  subst e;exact .inl (f ys H p)
end
end L2
namespace MD
open PySem PySem.Spec PyProof.Rows L2
variable{K:ye}{cl:ae->ad}{ex:XD}{gt:GV}{ta:TV}{fk fv:EV}{H:Hp}
section
variable{fr:AV}
def zg0(g:GV)(c:TV)(f E:EV)(ρ : En):List D->List (L2.Key×D)->Sto->Res (List (L2.Key×D))
 |[],a,m=>.ok a m|d::r,a,m=>(g d ρ m).bind fun e m1=>(c e m1).bind fun b m2=>if b=ac then (f e m2).bind fun k h=>(E e h).bind fun x M=>match zk9 k with
  |some q=>zg0 g c f E ρ r (zjM a q x) M|none=>.bad else zg0 g c f E ρ r a m2
def zr6(n:Nat)(it:AV)(g:GV)(c:TV)(E e:EV):EV:=fun ρ m=>(it ρ m).bind fun ds m1=>if ds.length<=1000000 then (zg0 g c E e (ρ ++ yn n ab) ds [] m1).bind fun kvs m2=>.ok (.ob m2.length) (m2++[.dct kvs]) else .bad
theorem znH:∀(kvs:List (L2.Key×D))(k:L2.Key)(d:D),(zjM kvs k d).length<=kvs.length+1
 |[],k,d=>by simp[zjM]|p::r,k,d=>by
  unfold zjM;split
  ·simp
  ·have:=znH r k d;simp only[yD];omega
theorem zpL{n:Nat}{f:List (L2.Key×V)->Hp->Prop}{σ : L2.St}(h:∃α ρ m,Wd K cl α m H/\RepE K α H ρ σ /\ PQ K cl ex ((fr ρ m).bind fun ds m1=>if ds.length<=1000000 then zg0 gt ta fk fv (ρ ++ yn n ab) ds [] m1 else .bad) α H fun ds α' _ H'=>∀vs,RepKV K α' H' ds vs->f vs H') : zt8 n (tDI K cl ex fr) (tDG K cl ex gt) (tDT K cl ex ta) (tD K cl ex fk) (tD K cl ex fv) f σ H:=by
 obtain⟨α,ρ,m,W,hr,h⟩:=h;refine⟨α,ρ,m,W,hr,PQ.mono (Ext.refl W) h.bind fun ds g m1 H1 E1 B q J C=>?_⟩;obtain⟨Z,q⟩:=PQ.if q;have hr1:=hr.mono W E1;refine zt1 (k:=ds.length) (fun i ys c=>∃a m2 done,Ext g H1 a c/\Wd K cl a m2 c/\RepKV K a c done ys/\done.length<=i/\PQ K cl ex (zg0 gt ta fk fv (ρ ++ yn n ab) (ds.drop i) done m2) a c fun ds α' _ H'=>∀vs,RepKV K α' H' ds vs->f vs H') Z ?_ ?_ ?_ ?_
 ·exact⟨g,m1,[],Ext.refl B,B,rfl,yh _,q⟩
 ·rintro i ys c ⟨_,_,done,_,_,r,l,_⟩;rw[<- r.length];exact l
 ·rintro i ys c hi ⟨a,m2,done,p,w,r2,l2,Q⟩;have hd:ds[i]?=aa ds[i]:=by simp[hi]
  obtain⟨g1,g2⟩:=(C i a m2 c p w).1 _ hd;refine⟨g1,fun x H3 y=>?_⟩;obtain⟨S,P⟩:=g2 x H3 y;have o:=Ext.of_same w S;have A:=w.same S;rw[ybN hi,zg0]at Q;have e:=p.trans o;refine⟨a,ρ ++ yn n ab,m2,ds[i],A,(hr1.mono B e).more n,P,PQ.mono o Q.bind fun M O m4 H4 E4 W4 U L hr4=>?_⟩;refine tDT.use W4 hr4 U fun t Y H5 b E5 z hr5 q5=>?_;have E:=E4.trans E5;cases b with
  |false=>exact⟨t,Y,done,e.trans E,z,(r2.mono w o).mono A E,ybQ l2,q5⟩|true=>
   refine tD.use z hr5 q5 fun N m6 H6 d v I F hr6 T q6=>?_;refine tD.use F hr6 q6 fun s X H7 D v2 G W7 hr7 R j=>?_;cases u:zk9 d with
   |none=>rw[u]at j;exact j.elim|some q=>
    rw[u]at j;refine⟨q,zk8 u T,s,X,zjM done q D,e.trans (E.trans (I.trans G)),W7,RepKV.put R (((((r2.mono w o).mono A E).mono z I)).mono F G),?_,j⟩;have:=znH done q D;omega
 ·rintro ys c ⟨a,m2,done,p,w,r2,l2,Q⟩;rw[ybO (yh _),zg0]at Q;exact⟨(C ds.length a m2 c p w).2 rfl,PQ.ok w Q ys r2⟩
end
section
variable{X:Cx}{N0:List ae}{kx vx tg it:ak}{ifs:List ak}{fr:AV}{pos:ay}{scope:aG}{xs:List ae}{clo:List (ae×ad)}
theorem ztf(n:X.calm=ac)(c:X.xe=fun _ _=>False)(S:CompOk X N0 scope xs clo)(hi:QI X cl ex tg it fr)(j:∀C s H fp,QG (X.comp N0 scope xs clo C s H fp) cl ex tg gt)(k:∀C s H fp,PIf (X.comp N0 scope xs clo C s H fp) ifs (tDT X.K cl ex ta))(f:∀C s H fp,QE (X.comp N0 scope xs clo C s H fp) cl ex kx fk)(l:∀C s H fp,QE (X.comp N0 scope xs clo C s H fp) cl ex vx fv)(hs:autoParam (∀x,bi it X.env x=pure x) AutoP.a2._auto_1):QE X cl ex (.DictComp kx vx [⟨tg,it,ifs,0⟩] scope pos) (zr6 xs.length fr gt ta fk fv) :=
 ⟨PE.weak (ztr (g:=tDG X.K cl ex gt) (tf:=tDT X.K cl ex ta) (tk:=tD X.K cl ex fk) (tv:=tD X.K cl ex fv) n c S hi.out (fun C s H fp=>(j C s H fp).out) k (fun C s H fp=>(f C s H fp).out) (fun C s H fp=>(l C s H fp).out) hs) fun σ H Q i=>ex3 i fun α ρ m W hr h=>zpL ⟨α,ρ,m,W,hr,PQ.mono (Ext.refl W) (show PQ X.K cl ex (((fr ρ m).bind fun ds m1=>if ds.length<=1000000 then zg0 gt ta fk fv (ρ ++ yn xs.length ab) ds [] m1 else .bad).bind fun kvs m2=>.ok (.ob m2.length) (m2++[.dct kvs])) α H fun d α' _ H'=>∀v,Rep X.K α' H' d v->Q v H' from by
   rw[Res.bind_assoc];refine(congrArg (fun z=>PQ X.K cl ex ((fr ρ m).bind z) α H _) ?_).mpr h;funext ds m1;split <;> rfl).bind fun ds a m1 o E w q vs R p e=>by
  obtain⟨_,_,b,r⟩:=zvZ w e R q;exact b _ r⟩⟩
end
section
def zpb(ns:List Int):List D:=ns.map D.int
theorem ziL{α : List ad}{H:Hp}:∀(ns:List Int),RepL K α H (zpb ns) (ns.map V.int)
 |[]=>by rw[zpb,yba,RepL];rfl|n::ns=>by
  rw[zpb,yE,RepL];exact⟨.int n,ns.map V.int,rfl,zfU,ziL ns⟩
def sortF(ds:List D)(m:Sto):Res D:=match ds with
 |[x]=>match (lOf x m).bind zeN with
  |some ns=>if ns.length<64 then .ok (.lst (zpb (zeQ ns))) m else .bad|none=>.bad
 |_=>.bad
def dOf(d:D)(m:Sto):Option (List (L2.Key×D)):=match d with
 |.ob k=>match m[k]? with
  |some (.dct kvs)=>aa kvs|_=>ab
 |_=>ab
theorem zwu{α : List ad}{m:Sto}{d:D}{v:V}{kvs:List (L2.Key×D)}(W:Wd K cl α m H)(e:dOf d m=aa kvs)(r:Rep K α H d v):∃p ys,v = .ref p/\H p=aa (.dK ys)/\RepKV K α H kvs ys:=by
 unfold dOf at e;split at e
 ·rw[Rep]at r;obtain⟨a,ha,rfl⟩:=r;split at e
  ·cases e;obtain⟨ys,h,R⟩:=W.dct ha ‹_›;exact⟨a,ys,rfl,h,R⟩
  ·cases e
 ·cases e
def zfb:List (L2.Key×D)->Option (List Int)
 |[]=>aa []| (.inl i,_)::r=>(zfb r).map (i :: ·)|_=>ab
theorem zhS:∀{kvs:List (L2.Key×D)}{ns:List Int},zfb kvs=aa ns->kvs.map (·.1)=ns.map yay
 |[],ns,e=>by cases e;rfl| (.inl i,d)::r,ns,e=>by
  rw[zfb]at e;obtain⟨m,e2,rfl⟩:=yat.mp e;rw[yE,yE,zhS e2]
 | (.inr i,d)::r,ns,e=>by simp[zfb]at e
def zhd(ds:List D)(m:Sto):Res D:=match ds with
 |[x]=>match (dOf x m).bind zfb with
  |some ns=>if ns.length<64 then .ok (.lst (zpb (zeQ ns))) m else .bad|none=>.bad
 |_=>.bad
theorem ztV:FnD K cl ex znB zhd:=fun α m H x V Q W r h=>by
 unfold zhd at h;split at h
 ·split at h
  ·rename_i ns e;obtain⟨a,h⟩:=PQ.if h;obtain⟨v,rfl,R⟩:=r.one_of;obtain⟨xs,d,E⟩:=yaB.mp e;obtain⟨p,ys,rfl,c,b⟩:=zwu W d R;exact⟨p,ys,ns,rfl,.inl c,by rw[<- RepKV.keysEq b];exact zhS E,a,fun l hl=>PQ.okS W (Same.new hl) h _ (zcj W hl (ziL _))⟩
  ·exact h.elim
 ·exact h.elim
def zrx(kvs:List (L2.Key×D)):List D:=kvs.map fun p=>kD p.1
end
def zhV:SV:=by walk_at "#4x7x8L'rplr(/&/&qc3{QLre#{RGqUlrI/(/r0/"
def zbT:List D->Sto->Res D:=zaU 3 zhV
def zgK:SV:=by walk_at "#svr&ri&svr&uoqbrbr&vVvyx9"
def zcX:List D->Sto->Res D:=zaU 2 zgK
def zfA:SV:=by walk_at "#3Zt4'r>t!qdd"
def zaM:List D->Sto->Res D:=zaU 1 zfA
def zeJ:SV:=by walk_at "#3v!<r(rYun<s2t4qb<r(&r2s5w+qA"
def zbG:List D->Sto->Res D:=zaU 2 zeJ
def zej:SV:=by walk_at "#3x7x8LsIqclu6&(q$"
def zbc:List D->Sto->Res D:=zaU 2 zej
def zdS:SV:=by walk_at "#ard&q$Pum8wz`8vwBt!7.Ju>x:x;r|r=Px)Bt!78s3u?q^`BsISs<(S%"
def zbi:List D->Sto->Res D:=zaU 5 zdS
def zgI:SV:=by walk_at "#svr&uo'sFt4u;0t4r7rbr&vV#{S0sI0r2s5w+'."
def zbw:List D->Sto->Res D:=zaU 2 zgI
def zfB:SV:=by walk_at "#u>x:x;u:qU3v!<rd/q$<r+Z&/("
def zbV:List D->Sto->Res D:=zaU 4 zfB
def zgJ:SV:=by walk_at "#9{Tu?q^tVv_srrtu=q3as2(q$ardt4qbsJ{UJqi#ww0r2s5w+qA`B#s3u?qE1qUu4q;r2x<x=sHsJx>Jau~/sIq%v#`Jq#rWs2(q$q;r2x?xA'`B#s3u?qE7%uAv$v%sHsJxBJu>xCxDr|t%t0s;#w&Bt!7t5[sJxEJq9v|sI/q+uAv$v%sHq%tet5"
def zcn:List D->Sto->Res D:=zaU 7 zgJ
def zh0:SV:=by walk_at "#3t4'"
def zdr:List D->Sto->Res D:=zaU 1 zh0
end MD
namespace L2
open PySem PySem.Spec PyProof.Rows
end L2
namespace MD
open PySem PySem.Spec PyProof.Rows L2
def ziC:SV:=by walk_at "#svr&uoqbrbr&vVvyx9"
def zdK:List D->Sto->Res D:=zaU 1 ziC
end MD
namespace MD
open PySem PySem.Spec PyProof.Rows L2
open PySem.SeqAt
section
variable{prog:ap}{w:al}{A:aA}{E:af->aj->Prop}{s:aj}{Q:af->aj->Prop}
open AutoSeq1 (wpAny_loadPart')
end
def Con(K:ye)(a:ad)(s:List ae):Prop:=∃(o:av)(its:Array af)(n:Nat),K.lookup a=aa o/\o.cls = .type "tuple" /\ o.dict=ab/\o.data = .seq its n/\its.size<=sizeLine/\Vals (s.map V.str) its.toList
theorem zkr:∀{xs:List ae}{ys:List af},zsL xs ys=ac->Vals (xs.map V.str) ys
 |[],[],_=>.nil|x::xs,y::ys,h=>by
  unfold zsL at h;split at h
  ·rename_i e;cases e
  ·rename_i a b c d e e1 e2;cases e1;cases e2;rw[yac,decide_eq_true_eq]at h;exact .cons ⟨_,by rw[h.1]⟩ (zkr h.2)
  ·cases h
 |[],_::_,h=>by cases h|_::_,[],h=>by cases h
variable{K:ye}{a:ad}{ss:List ae}
theorem zsh(h:conB K a ss=ac):Con K a ss:=by
 unfold conB at h;split at h
 ·rename_i o e;rw[yac,yac]at h;obtain⟨⟨c,b⟩,H⟩:=h;split at H
  ·rename_i its n E;rw[yac,decide_eq_true_eq]at H;exact⟨o,its,n,e,eq_of_beq c,by simpa using b,E,H.1,zkr H.2⟩
  ·cases H
 ·cases h
variable{X:Cx}{cl:ae->ad}{ex:XD}{p:ay}{x:ae}
section
def zdX(s:List ae):List D:=s.map D.str
theorem zkC{K:ye}{α : List ad}{H:Hp}:∀(S:List ae),RepL K α H (zdX S) (S.map V.str)
 |[]=>by rw[zdX,yba,RepL];rfl|s::S=>by
  rw[zdX,yE,RepL];exact⟨.str s,S.map V.str,rfl,by rw[Rep],zkC S⟩
theorem zkI(b:Gl X x)(hm:X.mg x=aa (.ref a))(c:Con X.K a ss)(hd:autoParam ((x==("__debug__" : ae))=ag) AutoP.a1._auto_1):QE X cl ex (.Name x p) (eC (.tup (zdX ss))):=by
 obtain⟨o,its,n,j,i,g,f,e,d⟩:=c;refine⟨PE.weak (zvG (v := .ref a) b hm rfl hd) fun σ H Q h=>?_⟩;obtain⟨α,ρ,m,W,hr,h⟩:=h;exact PQ.ok W h _ (by rw[Rep];exact⟨a,ss.map V.str,rfl,.inr ⟨o,its,n,j,i,g,f,e,d⟩,zkC ss⟩)
end
def znZ:SV:=by walk_at "#u*wtq%w)Jq%x5qzt-"
def zgn:List D->Sto->Res D:=zaU 1 znZ
def zi5:SV:=by walk_at "#q#rvx4wbre&qcqytdGMrR.vWqxun#x#qzt-<rIr017"
def zdx:List D->Sto->Res D:=zaU 2 zi5
def ziY:SV:=by walk_at "#t6ri&t6tft$w,s/{Vq^t6v&t$w,r&{Wq^t6wut$r*%t6wvt$r*%rbtRvoqb"
def zei:List D->Sto->Res D:=zaU 2 ziY
def ziX:SV:=by walk_at "#4wcqNtf'qS4qtw-{XqNtfu:qUu&sK'sDMu7q%wsMsAu7"
def zdo:List D->Sto->Res D:=zaU 4 ziX
def zdp:SV:=by walk_at "#t(<s2t7qb<r+Zt7'&r>qNriqdd"
def za6:List D->Sto->Res D:=zaU 2 zdp
def zlh:SV:=by walk_at "#3r2w.{YqNv&qA"
def zeu:List D->Sto->Res D:=zaU 1 zlh
def zfz:SV:=by walk_at "#q#xFlrd#x30qNriqEq$lrdiw.xGqAq$vWqx<r+Z&iw.xGqARr>qNriqd11"
def zbU:List D->Sto->Res D:=zaU 3 zfz
def zgH:SV:=by walk_at "#q#xFq;i{Z{[r7q;i{]{^u:qEr{u>te{_qNv&r|qUt6vo'sFt7u;0t7r7u&t8'8{`u73/"
def zcm:List D->Sto->Res D:=zaU 4 zgH
def zeI:SV:=by walk_at "#arI(r80sKqAr{4s.t9s^v'rpt:sc4EsKu-q8u=q3qiixHxI'q&qBqUgt:v(t+sKr|t'/"
def za8:List D->Sto->Res D:=zaU 6 zeI
def zgG:SV:=by walk_at "#arI(r80t8qAr{t:v)raqt{a{bqNtf'Bt8u-Jt:tgt+t8r|JvPt9s^v'"
def zcl:List D->Sto->Res D:=zaU 3 zgG
def zg8:SV:=by walk_at "#q#rjtdOq4w-rR%3i{c{d't3Jq#rjtdOq4xJq6%uAxJ{eqNv&qAvPt9s^v'u4rjxKO0s.t9q>w/v(sc%3i{f{g'BrYt3Jq#rjxKO0s.t9q>w0tgv)%3i{h{i'BrYt3Juk"
def zaY:List D->Sto->Res D:=zaU 2 zg8
def zfy:SV:=by walk_at "#Pw10sKqA"
def zaV:List D->Sto->Res D:=zaU 1 zfy
def zhW:SV:=by walk_at "#Pw10t8qA"
def zbE:List D->Sto->Res D:=zaU 1 zhW
def zhX:SV:=by walk_at "#Pw1t2tcqNtfqA"
def zbF:List D->Sto->Res D:=zaU 1 zhX
def zgL:SV:=by walk_at "#4r0qdtVv_rtu=qr>q3q#rWqo&rwlu6Z#{jq^[vWqxv!<rf(/<qo#uhw'Lw(&u(q;uvrfr(ZZ(1/r:(r:rw"
def zcp:List D->Sto->Res D:=zaU 7 zgL
def zi3:SV:=by walk_at "#4r>iw2w3t,S7q:Cq#rv{kO`t)v^t;rzscq&.u9g4t;sDq{q4w/q4w/q4v(.q&qP>4vUu~[/#sqv#t)#sqteqBBiv*xLt,[q5Nu&/t)3<qnq+r:"
def zdw:List D->Sto->Res D:=zaU 8 zi3
def zlk:SV:=by walk_at "#rSsCq{q6q6q6q[t..r=9s]0iw2w3(u,r<r+[79t^u/Z[1#u8q[rxrXqB.qP>r<qnqTv]%7rat;rzscs7.qjrvxMr;Mt5t*gs;iv+v,t,rwrat;sDq{q4w0q4v)q4tg.rXsA0iv+v,(..Ju9"
def zfG:List D->Sto->Res D:=zaU 7 zlk
def zrT:SV:=by walk_at "#9{lGq5LrSsCrRqS9{mOryqUq9{nAC>8w,tR{orl8{pOB/7%8r*.wosC8wlOyJ:tb:uy:{q.q5Nv^ySSrzw-qB.9{rOB/7qB:qXq5Cqjrv{sOt%t{t*u9"
def zn8:List D->Sto->Res D:=zaU 8 zrT
variable{N:List ae}
theorem sco{P:List ae}{sc:aG}(a:autoParam (sc.kind = .function) AutoP.a3._auto_1)(b:autoParam (sc.isCoroutine=ag) AutoP.a3._auto_1)(c:autoParam (sc.isGenerator=ag) AutoP.a3._auto_1)(d:autoParam (N.Nodup) AutoP.a6._auto_1)(e:autoParam (N.take P.length=P) AutoP.a3._auto_1)
  (f:autoParam (∀x∈P,sc.names.lookup x=aa .local∨sc.names.lookup x=aa .cell) AutoP.a6._auto_1) (g:autoParam (∀y∈sc.names,y.2 ≠ .free) AutoP.a6._auto_1):FnScope N P sc:=⟨a,b,c,d,e,f,g⟩
variable{pos:ay}
theorem qxi{a b:ak}{F f:EV}{k:Nat}(hr:Room k X.A)(ha:QE X cl ex a F)(h:QE X cl ex b f)(hs:autoParam (znd b) AutoP.a7._auto_1):QE X cl ex (.Subscript a b pos) (eOp ixD F f) :=
 qe_ix (ix_A (zrM hr)) od_ix ha h hs
theorem qfn{e:ak}{es:List ak}{fr:AV}{k n j:Nat}{g:List D->Sto->Res D}(h:FnX X.prog X.w X.K X.mg X.base cl x k n g)(hr:Room j X.A)
  (ha:QA X cl X0 (e::es) fr) (hn:autoParam (n=(e::es).length) AutoP.a3._auto_1) (c:autoParam (k<=j) AutoP.a1._auto_1) (d:autoParam (Gl X x) AutoP.a3._auto_1) (H:autoParam (∀ρ m ds m1,fr ρ m = .ok ds m1->ds.length=(e::es).length) AutoP.a8._auto_1) (b:autoParam ((x==("__debug__" : ae))=ag) AutoP.a1._auto_1) (f:autoParam (au (e::es) X.env=(ag,eval e X.env)::au es X.env) AutoP.a3._auto_1) (a:autoParam ((aB pos (au es X.env)).any (·.1)=ag) AutoP.a3._auto_1) :
  QE X cl X0 (.Call (.Name x p) (e::es) [] pos) (eFn g fr):=qe_fn h hn (hr.mono c) d ha H b f a
variable{mg:ae->Option af}{qual:ae}{st:am}{f:ad}{fd:aH}{ps:List ae}{body:SV}
theorem mkx(P:ap)(w:al)(base:ax)(cl:ae->ad)(k:Nat)(F:Fun K x qual st f fd)(b:Binds K fd ps [])(m:mg x=aa (.ref f))(S:FnScope N ps (zai st))
  (h:∀(cdv:af)(A:aA)(outer:List ybx)(s:aj)(H:Hp)(E:XK),Room k (A.deeper (aN qual (zai st) s.heap.objs.size f cdv))->QSs (zpu CX0 P w K mg base N qual (zai st) f cdv A outer s H E).nox cl X0 (zcs st) body):FnX P w K mg base cl x (k+1) ps.length (zaU N.length body):=FnX.mk' F b m S rfl h
theorem mkm(P:ap)(w:al)(base:ax)(cl:ae->ad)(k:Nat){c:ae}(F:Fun K x qual st f fd)(b:Binds K fd ps [])(m:Meth K (cl c) x f)(S:FnScope N ps (zai st))
  (h:∀(cdv:af)(A:aA)(outer:List ybx)(s:aj)(H:Hp)(E:XK),Room k (A.deeper (aN qual (zai st) s.heap.objs.size f cdv))->QSs (zpu CX0 P w K mg base N qual (zai st) f cdv A outer s H E).nox cl X0 (zcs st) body):FnM P w K mg base cl c x (k+1) ps.length (zaU N.length body):=FnM.mk' F b m S rfl h
theorem _root_.L2.Fun.bindA(F:Fun K x qual st f fd)
  (h:∀(kV doc pm:af)(an:Option ad)(cdv ct:af)(us:List af),us.length=ps.length->bindArgs (ybp x qual (zgq st) (zcs st) (zai st) .none kV doc pm an cdv ct) ⟨us,[]⟩=pure (ps.zip us):=by intro _ _ _ _ _ _ us hl;first | (obtain rfl:=us0 hl;rfl) | (obtain⟨_,rfl⟩:=us1 hl;rfl) | (obtain⟨_,_,rfl⟩:=us2 hl;rfl) | (obtain⟨_,_,_,rfl⟩:=us3 hl;rfl) | (obtain⟨_,_,_,_,rfl⟩:=us4 hl;rfl) | (obtain⟨_,_,_,_,_,rfl⟩:=us5 hl;rfl) | (obtain⟨_,_,_,_,_,_,rfl⟩:=us6 hl;rfl)):Binds K fd ps []:=F.binds h
end MD
namespace Mth
end Mth
namespace MD
open PySem PySem.Spec PyProof.Rows L2
theorem znW{a:ad}{o:av}:∀{K:ye},K.lookup a=aa o->(a,o)∈K
 |[],h=>nomatch h| (b,u)::K,h=>by
  rw[yaW]at h;cases H:a==b with
  |true=>
   rw[H]at h;cases h;rw[eq_of_beq H];exact yar
  |false=>
   rw[H]at h;exact yag _ (znW h)
theorem Kof_in(n:Nat)(h:ax):(Kof n h).In h:=fun a o e=>by
 obtain⟨b,_,c⟩:=ycB.mp (znW e);obtain⟨u,H,E⟩:=yat.mp c;cases E;exact H
theorem fun_of{K:ye}{f:ad}{x q:ae}{st:am}(h:fnV K f=(aa (x,q,zgq st,zcs st,zai st),ac)):∃fd,Fun K x q st f fd:=by
 unfold fnV at h;split at h
 ·rename_i oc od X Q ps b sc G D kV doc pm an C ct bl sl hl;simp only[yc7,yaP,yac]at h;obtain⟨⟨rfl,rfl,rfl,rfl,rfl⟩,⟨⟨d,c⟩,H⟩,a⟩:=h;have g:=yd3 d;have E:=yd3 c;subst g E;have e:D = .none:=by
   unfold zpB at H;split at H
   ·rfl
   ·cases H
  subst e;refine⟨_,⟨⟨oc,od,kV,doc,pm,an,C,ct,sl,rfl,hl,a⟩,?_⟩⟩;unfold yaK;dsimp only;rw[hl]
 ·cases h
variable{τ υ : Type}
theorem ziO{f : τ -> υ}{l:List τ}{e:List υ}(h:l.map f=e)(i:Nat){x : τ}{v : υ}(H:l[i]?=aa x)(hv:e[i]?=aa v):f x=v:=by
 rw[<- h,yW,H]at hv;exact yad hv
variable{α β γ : Type}
theorem both{r:Option α}{f:α -> β}{g:α -> γ}{a : β}{b : γ}(h:r.map f=aa a)(H:r.map g=aa b):r.map (fun s=>(f s,g s))=aa (a,b):=by
 cases r with
 |none=>cases h|some s=>
  simp only[yaL,yaP]at h H ⊢;rw[h,H]
theorem zrC{r:Option α}{g:α -> τ -> υ}{l1 l2:List τ}{E e:List υ}(h:r.map (fun s=>l1.map (g s))=aa E)(H:r.map (fun s=>l2.map (g s))=aa e):r.map (fun s=>(l1++l2).map (g s))=aa (E++e):=by
 cases r with
 |none=>cases h|some s=>
  simp only[yaL,yaP]at h H ⊢;rw[yak,h,H]
variable{B C:Type}{d:D}
theorem both4{A D:Type}{r:Option α}{f1:α -> A}{f2:α -> B}{f3:α -> C}{f4:α -> D}{a:A}{b:B}{c:C}{d:D}(H:r.map f1=aa a)(h:r.map (fun s=>(f2 s,f4 s))=aa (b,d))(e:r.map f3=aa c):r.map (fun s=>(f1 s,f2 s,f3 s,f4 s))=aa (a,b,c,d):=by
 cases r with
 |none=>cases H|some s=>
  simp only[yaL,yaP,yc7]at H h e ⊢;exact⟨H,h.1,e,h.2⟩
theorem parts4{D:Type}{r:Option α}{f:α -> Seen×B×C×D}{g:Seen×B×C×D}(k:Nat)(ha:r.map (fun s=>(f s).1.defs.take k)=aa (g.1.defs.take k))(i:r.map (fun s=>(f s).1.defs.drop k)=aa (g.1.defs.drop k))(H:r.map (fun s=>(f s).1.ownsOk)=aa g.1.ownsOk)(hn:r.map (fun s=>(f s).1.names)=aa g.1.names)(h:r.map (fun s=>((f s).1.globalsOk,(f s).1.builtinsOk,(f s).1.noLimit,(f s).1.gens))=aa (g.1.globalsOk,g.1.builtinsOk,g.1.noLimit,g.1.gens))(hv:r.map (fun s=>(f s).2.1)=aa g.2.1)(e:r.map (fun s=>(f s).2.2.1)=aa g.2.2.1)(a:r.map (fun s=>(f s).2.2.2)=aa g.2.2.2):r.map f=aa g:=by
 cases r with
 |none=>cases h|some s=>
  simp only[yaL,yaP,yc7]at ha i H hn h hv e a ⊢;have E:(f s).1.defs=g.1.defs:=by rw[<- yc8 k (f s).1.defs,ha,i,yc8]
  generalize f s=x at *;obtain⟨⟨a1,a2,a3,a4,a5,a6,a7⟩,b,c,d⟩:=x;obtain⟨⟨b1,b2,b3,b4,n,m,l⟩,o,j,d'⟩:=g;simp only at E H hn h hv e a;obtain⟨rfl,rfl,rfl,rfl⟩:=h;subst E H hn hv e a;rfl
theorem walk_ofY{l:yb8}{n k N:Nat}{q:ap}{loose:List ae}{XP:(ae->Option af)->ax->Prop}{d:DefRec}{CX:CXT}{sp:ye->Sp}{x:ae}{Yf:ye->α}{E:α}(hn:l.most=aa n)(p:n<=sizeLine)(z:d.params.defaults=[])(hr:Room k bj)(F:∀(K:ye),Yf K=E->∀(w:al)(mg:ae->Option af)(D:ad)(h:ax),K.In h->h.Ns aD mg->mg d.name=aa (.ref D)->∃fd:aH,(∀(s:aj)(u:af),bC s fd ⟨[u],[]⟩ [(x,u)])/\∀base:ax,K.In base->base.Ns aD mg->FnOk l.prog w K mg base CX k D fd [x] (sp K))(j:∀(K:ye)(H:Hp)(a:ad)(ns:List Int),ns.length<=n->Only H->SqL K H a (ns.map V.int)->sp K [.ref a] H (fun v _=>v = .bl ac) fun _ _ _=>False)(B:∀(H:Hp)(s:aj)(e:af)(I:aj),CX [] H s (fun _ _ _=>False) e I->False) : PySem.W.WalkX q loose XP (fun s=>Yf (Kof N s.heap)) (fun _=>E) l.row.toRowW d [] (fun f vs=>yb7 f vs):=by
 intro w s₀ S mg mb G y a o pm Q doc P kV J hd A O r M args b C L c g m i t;have R:(Kof N s₀.heap).In S.heap:=(Kof_in N s₀.heap).keeps L.keeps;exact L2.walk_ofK (YP:=fun w h=>(Kof N s₀.heap).In h) (K:=fun _=>Kof N s₀.heap) hn p z hr (fun w h Y=>Y) (F (Kof N s₀.heap) y) j B w s₀ S mg mb G R a o pm Q doc P kV J hd A O r M args b C c g m i t
section
def kThen(f:α -> Sto->Res β)(g : β -> Sto->Res γ):α -> Sto->Res γ := fun a m=>(f a m).bind g
theorem then_at(f:α -> Sto->Res β)(g : β -> Sto->Res γ)(a:α)(m:Sto):kThen f g a m=(f a m).bind g:=rfl
theorem bind_then(r:Res α)(f:α -> Sto->Res β)(g : β -> Sto->Res γ):(r.bind f).bind g=r.bind (kThen f g):=Res.bind_assoc r f g
end
section
variable(m:Sto)(ρ : En)(d:D)(f g:SV)(fa fb fc:EV)(fr:AV)(c t:TV)(h:GV)
def kSeq(g:SV):Fl->Sto->Res Fl:=fun fl m1=>match fl with
 |.nx a=>g a m1|fl=>.ok fl m1
theorem seq_at:zar f g ρ m=(f ρ m).bind (kSeq g):=rfl
theorem seq_nx:kSeq g (.nx ρ) m=g ρ m:=rfl
theorem seq_rt:kSeq g (.rt d) m = .ok (.rt d) m:=rfl
theorem nil_at:za3 ρ m = .ok (.nx ρ) m:=rfl
def kRt:D->Sto->Res Fl:=fun d m=>.ok (.rt d) m
theorem ret_at:zaE fa ρ m=(fa ρ m).bind kRt:=rfl
theorem rt_at:kRt d m = .ok (.rt d) m:=rfl
theorem retN_at:sRetN ρ m = .ok (.rt .non) m:=rfl
def kDrop(ρ : En):D->Sto->Res Fl:=fun _ m=>.ok (.nx ρ) m
theorem drop_at:zbs fa ρ m=(fa ρ m).bind (kDrop ρ):=rfl
theorem kdrop_at:kDrop ρ d m = .ok (.nx ρ) m:=rfl
def kIf(f g:SV)(ρ : En):Bool->Sto->Res Fl:=fun b m=>if b=ac then f ρ m else g ρ m
theorem if_at:sIf c f g ρ m=(c ρ m).bind (kIf f g ρ):=rfl
theorem kif_at(b:Bool):kIf f g ρ b m=if b=ac then f ρ m else g ρ m:=rfl
def kAsg(h:GV)(ρ : En):D->Sto->Res Fl:=fun d m1=>(h d ρ m1).bind fun a m2=>.ok (.nx a) m2
def kNx:En->Sto->Res Fl:=fun ρ m=>.ok (.nx ρ) m
theorem asg_at:zaJ fa h ρ m=(fa ρ m).bind (kAsg h ρ):=rfl
theorem kasg_at:kAsg h ρ d m=(h d ρ m).bind kNx:=rfl
theorem nx_at:kNx ρ m = .ok (.nx ρ) m:=rfl
theorem gN_at(i:Nat):gN i d ρ m = .ok (ρ.set i (aa d)) m:=rfl
theorem gs_nil:zcw [] ρ m = .ok ρ m:=rfl
theorem gs_cons(g:List D->En->Sto->Res En)(r:List D):zaA h g (d::r) ρ m=(h d ρ m).bind (g r):=rfl
theorem gT_at(n:Nat)(g:List D->En->Sto->Res En)(ds:List D):gT n g (.tup ds) ρ m=if ds.length=n then g ds ρ m else .bad:=rfl
def kPar(i j:Nat)(ρ : En):List D->Sto->Res Fl:=fun ds m1=>match ds with
 |[x,y]=>.ok (.nx ((ρ.set i (aa x)).set j (aa y))) m1|_=>.bad
theorem par_at(i j:Nat):sPar i j fr ρ m=(fr ρ m).bind (kPar i j ρ):=rfl
theorem kpar_at(i j:Nat)(x y:D):kPar i j ρ [x,y] m = .ok (.nx ((ρ.set i (aa x)).set j (aa y))) m:=rfl
def kFor(h:GV)(f:SV)(ρ : En):List D->Sto->Res Fl:=fun ds m1=>ze9 h f ds ρ m1
theorem for_at:zkl fr h f ρ m=(fr ρ m).bind (kFor h f ρ):=rfl
theorem kfor_at(ds:List D):kFor h f ρ ds m=ze9 h f ds ρ m:=rfl
theorem eC_at:eC d ρ m = .ok d m:=rfl
def kOp(g:D->D->Sto->Res D)(f:EV)(ρ : En):D->Sto->Res D:=fun x m1=>(f ρ m1).bind (g x)
theorem op_at(g:D->D->Sto->Res D):eOp g fa fb ρ m=(fa ρ m).bind (kOp g fb ρ):=rfl
theorem kop_at(g:D->D->Sto->Res D):kOp g fb ρ d m=(fb ρ m).bind (g d):=rfl
theorem un_at(g:D->Sto->Res D):eUn g fa ρ m=(fa ρ m).bind g:=rfl
theorem fn_at(g:List D->Sto->Res D):eFn g fr ρ m=(fr ρ m).bind g:=rfl
def kIfE(f g:EV)(ρ : En):Bool->Sto->Res D:=fun b m=>if b=ac then f ρ m else g ρ m
theorem ife_at:eIf c fa fb ρ m=(c ρ m).bind (kIfE fa fb ρ):=rfl
theorem kife_at(b:Bool):kIfE fa fb ρ b m=if b=ac then fa ρ m else fb ρ m:=rfl
theorem aNil_at:zaj ρ m = .ok [] m:=rfl
def kCons(fr:AV)(ρ : En):D->Sto->Res (List D):=fun x m1=>(fr ρ m1).bind fun xs m2=>.ok (x::xs) m2
def zuq(x:D):List D->Sto->Res (List D):=fun xs m2=>.ok (x::xs) m2
theorem aCons_at:zac fa fr ρ m=(fa ρ m).bind (kCons fr ρ):=rfl
theorem kcons_at:kCons fr ρ d m=(fr ρ m).bind (zuq d):=rfl
theorem kcons2_at(xs:List D):zuq d xs m = .ok (d::xs) m:=rfl
theorem asB_at(b:Bool):asB (.bl b) m = .ok b m:=rfl
theorem tV_at:tV fa ρ m=(fa ρ m).bind asB:=rfl
def kAndT(t:TV)(ρ : En):Bool->Sto->Res Bool:=fun b m=>if b=ac then t ρ m else .ok ag m
theorem andT_at:zfY c t ρ m=(c ρ m).bind (kAndT t ρ):=rfl
theorem kandT_at(b:Bool):kAndT t ρ b m=if b=ac then t ρ m else .ok ag m:=rfl
def kOrT(t:TV)(ρ : En):Bool->Sto->Res Bool:=fun b m=>if b=ac then .ok ac m else t ρ m
theorem orT_at:tOrM c t ρ m=(c ρ m).bind (kOrT t ρ):=rfl
theorem korT_at(b:Bool):kOrT t ρ b m=if b=ac then .ok ac m else t ρ m:=rfl
def kNotT:Bool->Sto->Res Bool:=fun c m1=>.ok (!c) m1
theorem notT_at:zfm c ρ m=(c ρ m).bind kNotT:=rfl
theorem knotT_at(b:Bool):kNotT b m = .ok (!b) m:=rfl
def kAnd(f:EV)(ρ : En):D->Sto->Res D:=fun c m1=>(asB c m1).bind fun c m1=>if c=ac then f ρ m1 else .ok (.bl ag) m1
theorem and_at:zr7 fa fb ρ m=(fa ρ m).bind (kAnd fb ρ):=rfl
theorem kand_at(b:Bool):kAnd fb ρ (.bl b) m=if b=ac then fb ρ m else .ok (.bl ag) m:=rfl
def kOr(f:EV)(ρ : En):D->Sto->Res D:=fun c m1=>(asB c m1).bind fun c m1=>if c=ac then .ok (.bl ac) m1 else f ρ m1
theorem or_at:eOr fa fb ρ m=(fa ρ m).bind (kOr fb ρ):=rfl
theorem kor_at(b:Bool):kOr fb ρ (.bl b) m=if b=ac then .ok (.bl ac) m else fb ρ m:=rfl
def kNot:D->Sto->Res D:=fun c m1=>(asB c m1).bind fun c m1=>.ok (.bl (!c)) m1
theorem not_at:eNot fa ρ m=(fa ρ m).bind kNot:=rfl
theorem knot_at(b:Bool):kNot (.bl b) m = .ok (.bl (!b)) m:=rfl
theorem aIt_at:aIt fa ρ m=(fa ρ m).bind zm6:=rfl
theorem sq_t(ds:List D):zm6 (.tup ds) m = .ok ds m:=rfl
theorem sq_l(ds:List D):zm6 (.lst ds) m = .ok ds m:=rfl
theorem sq_s(z:ae):zm6 (.str z) m = .ok (zgR z) m:=rfl
theorem sq_c(ds:List D):zm6 (.scr ds) m = .ok ds m:=rfl
theorem rngA_at(g:List D->Sto->Res (List D)):znb g fr ρ m=(fr ρ m).bind g:=rfl
def zwg:D->Sto->Res (List D):=fun d m1=>(asSq2 d m1).bind fun ds m2=>.ok (zcJ 0 ds) m2
theorem enumA_at:zlT fa ρ m=(fa ρ m).bind zwg:=rfl
theorem kenum_t(ds:List D):zwg (.tup ds) m = .ok (zcJ 0 ds) m:=rfl
theorem kenum_l(ds:List D):zwg (.lst ds) m = .ok (zcJ 0 ds) m:=rfl
def kZip(f:EV)(ρ : En):D->Sto->Res (List D):=fun x m1=>(f ρ m1).bind (zsD x)
theorem zipA_at:aZip fa fb ρ m=(fa ρ m).bind (kZip fb ρ):=rfl
theorem kzip_at:kZip fb ρ d m=(fb ρ m).bind (zsD d):=rfl
def kZip3(F f:EV)(ρ : En):D->Sto->Res (List D):=fun x m1=>(F ρ m1).bind fun y m2=>(f ρ m2).bind (zip3 x y)
def kZip4(x:D)(f:EV)(ρ : En):D->Sto->Res (List D):=fun y m1=>(f ρ m1).bind (zip3 x y)
theorem zip3A_at:aZip3 fa fb fc ρ m=(fa ρ m).bind (kZip3 fb fc ρ):=rfl
theorem kzip3_at:kZip3 fb fc ρ d m=(fb ρ m).bind (kZip4 d fc ρ):=rfl
theorem kzip4_at(x:D):kZip4 x fc ρ d m=(fc ρ m).bind (zip3 x d):=rfl
theorem oNone_at:zj3 ρ m = .ok ab m:=rfl
def kSome:D->Sto->Res (Option Int):=fun d m1=>match d with
 |.int i=>.ok (aa i) m1|_=>.bad
theorem oSome_at:zee fa ρ m=(fa ρ m).bind kSome:=rfl
theorem ksome_at(i:Int):kSome (.int i) m = .ok (aa i) m:=rfl
def kSl1(lo hi:OV)(ρ : En):D->Sto->Res D:=fun x m1=>(lo ρ m1).bind fun l m2=>(hi ρ m2).bind (slD x l)
def kSl2(hi:OV)(ρ : En)(x:D):Option Int->Sto->Res D:=fun l m2=>(hi ρ m2).bind (slD x l)
theorem slD_at(lo hi:OV):eSl fa lo hi ρ m=(fa ρ m).bind (kSl1 lo hi ρ):=rfl
theorem ksl1_at(lo hi:OV):kSl1 lo hi ρ d m=(lo ρ m).bind (kSl2 hi ρ d):=rfl
theorem ksl2_at(hi:OV)(l:Option Int):kSl2 hi ρ d l m=(hi ρ m).bind (slD d l):=rfl
def kSlA1(lo hi:OV)(ρ : En):D->Sto->Res D:=fun x m1=>(lo ρ m1).bind fun l m2=>(hi ρ m2).bind (slA x l)
def kSlA2(hi:OV)(ρ : En)(x:D):Option Int->Sto->Res D:=fun l m2=>(hi ρ m2).bind (slA x l)
theorem slA_at(lo hi:OV):eSlA fa lo hi ρ m=(fa ρ m).bind (kSlA1 lo hi ρ):=rfl
theorem kslA1_at(lo hi:OV):kSlA1 lo hi ρ d m=(lo ρ m).bind (kSlA2 hi ρ d):=rfl
theorem kslA2_at(hi:OV)(l:Option Int):kSlA2 hi ρ d l m=(hi ρ m).bind (slA d l):=rfl
def kMeth(ty:D->Sto->Bool)(g:D->List D->Sto->Res D)(fr:AV)(ρ : En):D->Sto->Res D:=fun o m1=>if ty o m1=ac then (fr ρ m1).bind (g o) else .bad
theorem meth_at(ty:D->Sto->Bool)(g:D->List D->Sto->Res D):zcr ty g fa fr ρ m=(fa ρ m).bind (kMeth ty g fr ρ):=rfl
theorem kmeth_at(ty:D->Sto->Bool)(g:D->List D->Sto->Res D):kMeth ty g fr ρ d m=if ty d m=ac then (fr ρ m).bind (g d) else .bad:=rfl
theorem isStr_at(z:ae):ztO (.str z) m=ac:=rfl
theorem isTup_at(ds:List D):ztN (.tup ds) m=ac:=rfl
theorem fin_nx:zi8 (.nx ρ) m = .ok .non m:=rfl
theorem fin_rt:zi8 (.rt d) m = .ok d m:=rfl
theorem run_at(n:Nat)(ds:List D):zaU n f ds m=(f (ds.map aa++yn (n-ds.length) ab) m).bind zi8:=rfl
def kCh3(g':D->D->Sto->Res D)(f:EV)(ρ : En)(y:D):D->Sto->Res D:=fun z m=>(asB z m).bind fun k m=>if k=ac then (f ρ m).bind (g' y) else .ok (.bl ag) m
def kCh2(g g':D->D->Sto->Res D)(f:EV)(ρ : En)(x:D):D->Sto->Res D:=fun y m2=>(g x y m2).bind (kCh3 g' f ρ y)
def kCh1(g g':D->D->Sto->Res D)(F f:EV)(ρ : En):D->Sto->Res D:=fun x m1=>(F ρ m1).bind (kCh2 g g' f ρ x)
theorem chain_at(g g':D->D->Sto->Res D):zfO g g' fa fb fc ρ m=(fa ρ m).bind (kCh1 g g' fb fc ρ):=rfl
theorem kch1_at(g g':D->D->Sto->Res D):kCh1 g g' fb fc ρ d m=(fb ρ m).bind (kCh2 g g' fc ρ d):=rfl
theorem kch2_at(g g':D->D->Sto->Res D)(x:D):kCh2 g g' fc ρ x d m=(g x d m).bind (kCh3 g' fc ρ d):=rfl
theorem kch3_at(g':D->D->Sto->Res D)(y:D)(b:Bool):kCh3 g' fc ρ y (.bl b) m=if b=ac then (fc ρ m).bind (g' y) else .ok (.bl ag) m:=rfl
def kPutA(fo fi:EV)(ρ : En):D->Sto->Res Fl:=fun v m1=>(fo ρ m1).bind fun x m2=>(fi ρ m2).bind fun y M=>(zin x y v M).bind fun _ m=>.ok (.nx ρ) m
def kPutB(fi:EV)(ρ : En)(v:D):D->Sto->Res Fl:=fun x m2=>(fi ρ m2).bind fun y M=>(zin x y v M).bind fun _ m=>.ok (.nx ρ) m
def kPutC(ρ : En)(v x:D):D->Sto->Res Fl:=fun y M=>(zin x y v M).bind fun _ m=>.ok (.nx ρ) m
def kPutE(ρ : En):Unit->Sto->Res Fl:=fun _ m=>.ok (.nx ρ) m
theorem put_at:zoJ fa fb fc ρ m=(fc ρ m).bind (kPutA fa fb ρ):=rfl
theorem kputA_at:kPutA fa fb ρ d m=(fa ρ m).bind (kPutB fb ρ d):=rfl
theorem kputB_at(x:D):kPutB fb ρ d x m=(fb ρ m).bind (kPutC ρ d x):=rfl
theorem kputC_at(x y:D):kPutC ρ d x y m=(zin x y d m).bind (kPutE ρ):=rfl
theorem kputE_at:kPutE ρ () m = .ok (.nx ρ) m:=rfl
theorem var_0:zad 0 (aa d::ρ) m = .ok d m:=rfl
theorem var_S(i:Nat)(x:Option D):zad (i+1) (x::ρ) m=zad i ρ m:=rfl
end
theorem bind_ok(a:α)(m:Sto)(k:α -> Sto->Res β):(Res.ok a m).bind k=k a m:=rfl
def Run(r:Res α)(P:α -> Sto->Prop):Prop:=∃a m,r = .ok a m/\P a m
variable{Q:α -> Sto->Prop}
theorem Run.bind{r:Res α}{k:α -> Sto->Res β}{P : β -> Sto->Prop}(h:Run r Q)(H:∀a m,Q a m->Run (k a m) P):Run (r.bind k) P:=by
 obtain⟨a,m,rfl,q⟩:=h;exact H a m q
variable{m:Sto}{P:α -> Sto->Prop}
theorem Run.ok{a:α}(h:P a m):Run (.ok a m) P:=⟨a,m,rfl,h⟩
theorem Run.mono{r:Res α}(h:Run r P)(k:∀a m,P a m->Q a m):Run r Q:=by
 obtain⟨a,m,e,p⟩:=h;exact⟨a,m,e,k a m p⟩
theorem zbD{g:GV}{b:SV}(I:Nat->En->Sto->Prop):∀(ds:List D)(k:Nat){ρ : En}{m:Sto},I k ρ m->(∀i d ρ m,ds[i]?=aa d->I (k+i) ρ m->Run ((g d ρ m).bind b) fun f m2=>∃a,f = .nx a/\I (k+i+1) a m2) →
  Run (ze9 g b ds ρ m) fun f m'=>∃ρ',f = .nx ρ'/\I (k+ds.length) ρ' m'
 |[],k,ρ,m,h,_=>⟨_,m,rfl,ρ,rfl,h⟩|d::r,k,ρ,m,h,st=>by
  obtain⟨_,m2,e2,a,rfl,h2⟩:=st 0 d ρ m rfl h;obtain⟨_,m',e,ρ',rfl,H⟩:=zbD I r (k+1) h2 fun i d ρ m hd hi=>by
   have:=st (i+1) d ρ m (by simpa using hd) (by rw[show k+(i+1)=k+1+i by omega];exact hi);rw[show k+(i+1)+1=k+1+i+1 by omega]at this;exact this
  refine⟨_,m',?_,ρ',rfl,by rw[yD,show k+(r.length+1)=k+1+r.length by omega];exact H⟩;rw[ze9,<- Res.bind_assoc,e2,bind_ok];exact e
theorem zki{g:GV}{el:EV}{ρ : En}(I:Nat->Sto->Prop)(P:Nat->D->D->Prop):∀(ds:List D)(k:Nat){m:Sto},I k m->(∀i d m,ds[i]?=aa d->I (k+i) m->Run ((g d ρ m).bind el) fun x M=>P (k+i) d x/\I (k+i+1) M) →
  Run (zgs g zcf el ρ ds m) fun xs m'=>xs.length=ds.length/\(∀i d x,ds[i]?=aa d->xs[i]?=aa x->P (k+i) d x)/\I (k+ds.length) m'
 |[],k,m,h,_=>⟨[],m,rfl,rfl,fun i d x e=>by simp at e,h⟩|d::r,k,m,h,st=>by
  obtain⟨x,M,l,c,j⟩:=st 0 d m rfl h;obtain⟨xs,m',E,hl,a,f⟩:=zki I P r (k+1) j fun i d m hd hi=>by
   have:=st (i+1) d m (by simpa using hd) (by rw[show k+(i+1)=k+1+i by omega];exact hi);rw[show k+(i+1)+1=k+1+i+1 by omega,show k+(i+1)=k+1+i by omega]at this;exact this
  refine⟨x::xs,m',?_,by rw[yD,yD,hl],fun i d' X hd H=>?_,by rw[yD,show k+(r.length+1)=k+1+r.length by(clear hl;omega)];exact f⟩
  ·have e:zgs g zcf el ρ (d::r) m=((g d ρ m).bind el).bind fun x M=>(zgs g zcf el ρ r M).bind fun xs b=>.ok (x::xs) b:=by
    rw[zgs,Res.bind_assoc];rfl
   rw[e,l,bind_ok,E,bind_ok]
  ·cases i with
   |zero=>simp at hd H;subst hd H;exact c|succ i=>
    have:=a i d' X (by simpa using hd) (by simpa using H);rw[show k+(i+1)=k+1+i by(clear hl;omega)];exact this
theorem zoj{g:GV}{el:EV}{ρ : En}{m:Sto}(f:D->D):∀(ds:List D),(∀d∈ds,∃a,g d ρ m = .ok a m/\el a m = .ok (f d) m)->zgs g zcf el ρ ds m = .ok (ds.map f) m
 |[],_=>rfl|d::r,h=>by
  obtain⟨a,e1,e2⟩:=h d (by simp);rw[zgs,e1,bind_ok];show (Res.ok ac m).bind _=_;rw[bind_ok,if_pos rfl,e2,bind_ok,zoj f r fun d hd=>h d (yag _ hd),bind_ok];rfl
theorem zg4:∀ns:List Int,pyL (ns.map D.int)=ns.map PyData.int
 |[]=>by simp[pyL]|a::r=>by simp[pyL,py,zg4 r]
theorem zgb:∀ns:List Int,pyOkL (ns.map D.int)=ac
 |[]=>by simp[pyOkL]|a::r=>by simp[pyOkL,zgc,zgb r]
theorem zkj:∀ns:List Int,PyData.canLayAll0 (ns.map PyData.int)=ac
 |[]=>by simp[PyData.canLayAll0]|a::r=>by simp[PyData.canLayAll0,PyData.canLay0,zkj r]
theorem zoi:∀ns:List Int,PyData.depthAll (ns.map PyData.int)=0
 |[]=>by simp[PyData.depthAll]|a::r=>by simp[PyData.depthAll,PyData.depth,zoi r]
theorem zog:∀ns ms:List Int,PyData.eqvAll (ns.map PyData.int) (ms.map PyData.int)=decide (ns=ms)
 |[],[]=>by simp[PyData.eqvAll]|[],_::_=>by simp[PyData.eqvAll]|_::_,[]=>by simp[PyData.eqvAll]|a::r,b::t=>by
  simp only[yE,PyData.eqvAll,PyData.eqv,zog r t];by_cases h:a=b <;> by_cases h':r=t <;> simp[h,h']
theorem zkh(ns:List Int):zeD (.lst (ns.map D.int))=ac:=by
 simp[zeD,zgc,py,zgb,zg4,SeqAt.shaped,PyData.canLay0,zkj,PyData.depth,zoi]
theorem zr3(ns m:List Int):eqB (.lst (ns.map D.int)) (.lst (m.map D.int))=aa (decide (ns=m)):=by
 show (if zeD (.lst (ns.map D.int))&&zeD (.lst (m.map D.int)) then aa (PyData.eqv (py (.lst (ns.map D.int))) (py (.lst (m.map D.int)))) else ab)=_;rw[zkh,zkh];simp[py,PyData.eqv,zg4,zog]
structure Fr(p q:Nat)(m m':Sto):Prop where
 len:m.length<=m'.length
 at':∀j,j<m.length->j≠p->j≠q->m'[j]?=m[j]?
variable{p q:Nat}
theorem Fr.refl:Fr p q m m:=⟨yh _,fun _ _ _ _=>rfl⟩
theorem Fr.trans{a b c:Sto}(h:Fr p q a b)(k:Fr p q b c):Fr p q a c:=⟨yO h.len k.len,fun j e d H=>(k.at' j (yQ e h.len) d H).trans (h.at' j e d H)⟩
variable{a:Int}{xs:List D}
section
theorem add_i(a b:Int):zbN (.int a) (.int b) m = .ok (.int (a+b)) m:=rfl
theorem sub_i(a b:Int):zc8 (.int a) (.int b) m = .ok (.int (a-b)) m:=rfl
theorem eq_i(a b:Int):eqD (.int a) (.int b) m = .ok (.bl (decide (a=b))) m:=rfl
theorem ne_i(a b:Int):neD (.int a) (.int b) m = .ok (.bl (!decide (a=b))) m:=rfl
theorem eq_s(a b:ae):eqD (.str a) (.str b) m = .ok (.bl (decide (a=b))) m:=rfl
theorem ne_s(a b:ae):neD (.str a) (.str b) m = .ok (.bl (!decide (a=b))) m:=rfl
theorem lt_i(a b:Int):ltD (.int a) (.int b) m = .ok (.bl (decide (a<b))) m:=rfl
theorem gt_i(a b:Int):gtD (.int a) (.int b) m = .ok (.bl (decide (b<a))) m:=rfl
theorem ge_i(a b:Int):geD (.int a) (.int b) m = .ok (.bl (decide (b<=a))) m:=rfl
theorem le_i(a b:Int):leD (.int a) (.int b) m = .ok (.bl (decide (a<=b))) m:=rfl
theorem zmE{b:Int}(h : -(2^64)<b/\b<2^64):zez (.int a) (.int b) m = .ok (.int (a*b)) m:=by rw[zhL];exact if_pos (.inr h)
theorem ziA{b:Int}(h : -(2^64)<a/\a<2^64):zez (.int a) (.int b) m = .ok (.int (a*b)) m:=by rw[zhL];exact if_pos (.inl h)
theorem zcV{b:Int}(h:0<b):zfv (.int a) (.int b) m = .ok (.int (a%b)) m:=if_pos h
theorem zws{b:Int}(h:0<b/\b<2^64):zlv (.int a) (.int b) m = .ok (.int (a/b)) m:=by rw[zof];exact if_pos h
theorem zeR{n:Nat}(h:n<=1000000):zjq (.int 1) (.int n) m = .ok (.int (2^n)) m:=by
 rw[zpT];show (if _ then _ else _)=_;rw[if_pos ⟨by(clear h;omega),by omega,by decide⟩,yaA,Int.one_mul]
theorem lst_0:zcZ [] m = .ok (.lst []) m:=if_pos (yav _)
theorem zbW{n:Nat}(h:n<=8):n<=sizeLine:=yO h (by decide)
theorem lst_2(a b:D):zcZ [a,b] m = .ok (.lst [a,b]) m:=if_pos (zbW (by simp))
theorem lst_3(a b c:D):zcZ [a,b,c] m = .ok (.lst [a,b,c]) m:=if_pos (zbW (by simp))
theorem lst_4(a b c d:D):zcZ [a,b,c,d] m = .ok (.lst [a,b,c,d]) m:=if_pos (zbW (by simp))
theorem lst_5(a b c d e:D):zcZ [a,b,c,d,e] m = .ok (.lst [a,b,c,d,e]) m:=if_pos (zbW (by simp))
theorem tup_0:zbr [] m = .ok (.tup []) m:=if_pos (yav _)
theorem tup_1(a:D):zbr [a] m = .ok (.tup [a]) m:=if_pos (zbW (by simp))
theorem tup_2(a b:D):zbr [a,b] m = .ok (.tup [a,b]) m:=if_pos (zbW (by simp))
theorem tup_3(a b c:D):zbr [a,b,c] m = .ok (.tup [a,b,c]) m:=if_pos (zbW (by simp))
theorem zj5:zfE [] m = .ok (.ob m.length) (m++[.lst []]):=if_pos (yav _)
theorem min_i(a b:Int):zkZ [.int a,.int b] m = .ok (.int (if b<a then b else a)) m:=rfl
theorem len_t(xs:List D):zeB [.tup xs] m = .ok (.int xs.length) m:=rfl
theorem len_l(xs:List D):zeB [.lst xs] m = .ok (.int xs.length) m:=rfl
theorem tup_l(xs:List D):zkm [.lst xs] m = .ok (.tup xs) m:=rfl
theorem l1(xs:List D):gL1 xs m = .ok (.lst xs) m:=rfl
theorem zgw{xs:List τ}{n:Nat}:L2.atI xs (n:Int)=xs[n]?:=by
 unfold L2.atI L2.ixN;by_cases h:n<xs.length
 ·rw[if_pos (by(clear h;omega)),if_pos (by omega)];simp
 ·rw[if_pos (by(clear h;omega)),if_neg (by omega)];simp;omega
theorem zps{n:Nat}(h:xs[n]?=aa d):ixD (.tup xs) (.int n) m = .ok d m:=by
 show opt (L2.atI xs n) m=_;rw[zgw,h];rfl
theorem ix_l{n:Nat}(h:xs[n]?=aa d):ixD (.lst xs) (.int n) m = .ok d m:=by
 show opt (L2.atI xs n) m=_;rw[zgw,h];rfl
theorem ix_t0(a:D)(xs:List D):ixD (.tup (a::xs)) (.int 0) m = .ok a m:=zps (n:=0) rfl
theorem ix_t1(a b:D)(xs:List D):ixD (.tup (a::b::xs)) (.int 1) m = .ok b m:=zps (n:=1) rfl
theorem ix_t2(a b c:D)(xs:List D):ixD (.tup (a::b::c::xs)) (.int 2) m = .ok c m:=zps (n:=2) rfl
theorem zus{d:Int}(H:0<=d)(h:d<xs.length):∃x∈xs,ixD (.lst xs) (.int d) m = .ok x m:=by
 obtain⟨n,rfl⟩:∃n:Nat,d=n:=⟨d.toNat,by(clear h;omega)⟩;have hn:n<xs.length:=by(clear H;omega)
 exact⟨xs[n],yaC hn,ix_l (by simp[hn])⟩
end
variable{it:AV}{g:GV}{el:EV}{ρ : En}{ds:List D}
theorem zcc{n:Nat}(f:D->D)(h:it ρ m = .ok ds m)(hl:ds.length<=1000000)(H:∀d∈ds,∃ρ1,g d (ρ ++ yn n ab) m = .ok ρ1 m/\el ρ1 m = .ok (f d) m):zc6 n it g zcf el ρ m = .ok (ds.map f) m:=by
 unfold zc6;rw[h,bind_ok,if_pos hl];exact zoj f ds H
theorem zfS{n:Nat}(I:Nat->Sto->Prop)(P:Nat->D->D->Prop)(h:it ρ m = .ok ds m)(hl:ds.length<=1000000)(a:I 0 m)(H:∀i d m,ds[i]?=aa d->I i m->Run ((g d (ρ ++ yn n ab) m).bind el) fun x M=>P i d x/\I (i+1) M) : Run (zc6 n it g zcf el ρ m) fun xs m'=>xs.length=ds.length/\(∀i d x,ds[i]?=aa d->xs[i]?=aa x->P i d x)/\I ds.length m':=by
 unfold zc6;rw[h,bind_ok,if_pos hl];have:=zki (g:=g) (el:=el) (ρ := ρ ++ yn n ab) I P ds 0 a (fun i d m hd hi=>by
  have:=H i d m hd (by rw[yL]at hi;exact hi);rw[yL];exact this)
 simpa only[yL] using this
theorem zbm(lo:Int)(n:Nat):(zdj lo n).length=n:=by simp[zdj]
theorem zhw{j:Int}(h:0<=j)(h':j<=1000000):zpp [.int j] m = .ok (zdj 0 j.toNat) m:=by rw[zqb];exact if_pos ⟨by(clear h';omega),by(clear h;omega)⟩
theorem zvT{a b:String}(h:yaa a=yaa b):a=b:=by
 rw[yd4,yd4]at h;have H:=congrArg (fun s:ae=>s.cps.toList) h;exact String.toList_inj.mp ((List.map_inj_right fun x y e=>Char.toNat_inj.mp e).mp H)
theorem ofs_eq(a b:String):(yaa a=yaa b)=(a=b):=propext ⟨zvT,fun h=>by rw[h]⟩
local macro_rules | `(tactic| walk_at "w") => do
  let ids := ("run_at fin_nx fin_rt seq_at seq_nx seq_rt nil_at ret_at rt_at retN_at drop_at kdrop_at if_at kif_at asg_at kasg_at nx_at gs_nil gs_cons gT_at par_at kpar_at List.set_cons_zero List.set_cons_succ for_at kfor_at eC_at op_at kop_at un_at fn_at ife_at kife_at aNil_at aCons_at kcons_at kcons2_at asB_at tV_at andT_at kandT_at orT_at korT_at notT_at knotT_at and_at kand_at or_at kor_at not_at knot_at aIt_at sq_t sq_l sq_s sq_c rngA_at enumA_at kenum_t kenum_l zipA_at kzip_at zip3A_at kzip3_at kzip4_at oNone_at oSome_at ksome_at slD_at ksl1_at ksl2_at slA_at kslA1_at kslA2_at meth_at kmeth_at isStr_at isTup_at chain_at kch1_at kch2_at kch3_at put_at kputA_at kputB_at kputC_at kputE_at bind_ok bind_then then_at var_0 var_S gN_at Bool.false_eq_true reduceIte List.map_cons List.map_nil List.length_cons List.length_nil Nat.reduceAdd Nat.reduceSub List.cons_append List.nil_append add_i sub_i eq_i ne_i eq_s ne_s lt_i le_i gt_i ge_i lst_0 lst_2 lst_3 lst_4 lst_5 tup_0 tup_1 tup_2 tup_3 min_i len_t len_l tup_l l1 ix_t0 ix_t1 ix_t2 List.replicate List.append_nil decide_eq_true_eq Bool.not_true Bool.not_false eq_self not_true_eq_false not_false_eq_true decide_true decide_false ofs_eq String.reduceEq".splitOn " ").toArray.map fun s => Lean.mkIdent s.toName
  `(tactic| try simp only [$[$ids:ident],*])
variable{kvs:List (L2.Key×D)}
theorem zeh{k:ae}(h:m[p]?=aa (.dct kvs))(e:zgQ kvs (.inr k)=aa d):ixD (.ob p) (.str k) m = .ok d m:=by
 simp only[ixD,h,e,opt]
theorem zvl{k:ae}(h:m[p]?=aa (.dct kvs))(hl:kvs.length<sizeLine):zin (.ob p) (.str k) d m = .ok () (m.set p (.dct (zjM kvs (.inr k) d))):=by
 simp only[zin,h,zk9,if_pos hl]
variable{o:MO}
theorem zaR{o':MO}(h:m[p]?=aa o):(m.set p o')[p]?=aa o':=ya3 (yi.mp h).1
variable{j:Nat}
theorem zaO(h:p≠j):(m.set p o)[j]?=m[j]?:=ybl h
theorem Fr.set:Fr p q m (m.set p o):=⟨by rw[yaw];exact yh _,fun j _ h _=>zaO (Ne.symm h)⟩
theorem Fr.set':Fr p q m (m.set q o):=⟨by rw[yaw];exact yh _,fun j _ _ h=>zaO (Ne.symm h)⟩
theorem zrd(x:Int) : -(2^64)<x%1000003+69621/\x%1000003+69621<2^64:=by
 have H:=yau x (b:=1000003) (by decide);have h:=yax x (b:=1000003) (by decide)
 (clear h H;omega)
variable{own:List Int}
theorem zqp(h:m[q]?=aa (.lst ((a::own).map D.int))):zpq (.ob q) [.int 0] m = .ok (.int a) (m.set q (.lst (own.map D.int))):=by
 simp only[zpq,h];rw[if_pos (by decide)];have e:bv 0 ((a::own).map D.int).length=aa 0:=by
  simp[bv]
 rw[e];simp
inductive Kd where
 |step (n:Int) | turn (row:List Int) | wth (i:Nat) (f:Int) | still | drawn
def Kd.e:Kd->D
 |.step n=>.tup [.str "step", .int n]|.turn row=>.tup [.str "turn", .tup (row.map D.int)]|.wth i f=>.tup [.str "with", .int i,.int f]
 |.still=>.tup [.str "still"]|.drawn=>.tup [.str "drawn"]
def Kd.Ok(pl b:Nat):Kd->Prop
 |.step n=>0<=n/\n<2^b|.turn row=>row≠[]/\row.length<=12/\∀v∈row,0<=v/\v<2^b|.wth i f=>i<pl /\ -99<=f/\f<=99|_=>True
theorem p2(b:Nat):(0:Int)<2^b:=Int.pow_pos (by decide)
variable{b:Nat}
theorem p2le(h:b<=40):(2:Int)^b<=2^40:=by
 have:=yc9 (n:=2) (by decide) h
 exact_mod_cast this
theorem p2lt(h:b<=40):(2:Int)^b<2^64:=Int.lt_of_le_of_lt (p2le h) (by decide)
structure Fd where
 nm:ae
 b:Nat
 kd:Kd
def Fd.e(f:Fd):D := .tup [.str f.nm,.int f.b,f.kd.e]
def zoq(fs:List Fd):Prop:=∀(i:Nat)(f:Fd),fs[i]?=aa f->0<f.b/\f.b<=40/\f.kd.Ok i f.b
variable{r:Nat}
theorem zfR(h:m[r]?=aa (.lst xs))(hl:xs.length<sizeLine):zbB (.ob r) [d] m = .ok .non (m.set r (.lst (xs++[d]))):=by
 simp only[zbB,h,if_pos hl]
theorem zhQ(h:m[r]?=aa (.lst xs)):zbM (.ob r) m=ac:=by simp only[zbM,h]
variable{n:Int}{z:ae}
theorem mul_s(h:z.length=1)(a:0<=n)(H:n<=1000):zez (.str z) (.int n) m = .ok (.str (Txt.mul z n)) m:=by rw[zhL];exact if_pos ⟨a,H,by(clear H a;omega)⟩
theorem zbC{n:Nat}(h:n<1000):n<sizeLine:=Nat.lt_trans h (by decide)
theorem pow106:znI (.int 10) (.int 6) m = .ok (.int 1000000) m:=by
 rw[zhy];have e:zvt (.int 10) (.int 6) m=if (0:Int)<=6/\(6:Int)<=1000000/\(10:Int).natAbs<2^64 then .ok (.int ((10:Int)^(6:Int).toNat)) m else .bad:=rfl
 rw[e,if_pos (by decide)];rfl
theorem zas{r:Res τ}{x : τ}(h:Run r fun a m'=>a=x/\m'=m):r = .ok x m:=by
 obtain⟨a,m',e,rfl,rfl⟩:=h;exact e
variable{v:Int}{row:List Int}
theorem zmQ:inD (.int v) (.tup (row.map D.int)) m = .ok (.bl (decide (v∈row))) m:=by
 have h:inO (.int v) (.tup (row.map D.int)) m=aa (decide (v∈row)):=by
  show inB (.int v) (row.map D.int)=_;unfold inB;rw[zgb,zg4,zkj];have hd:zeD (.int v)=ac:=by simp[zeD,zgc,py,SeqAt.shaped,PyData.canLay0,PyData.depth]
  rw[hd];simp only[Bool.and_self,if_true,py];congr 1;rw[ycn];induction row with
  |nil=>simp|cons a r i=>
   rw[yaY,i];simp only[Function.comp,PyData.eqv,yB,Bool.decide_or];by_cases e:a=v
   ·simp[e]
   ·have E : ¬ v=a:=fun h=>e h.symm;simp[e,E]
 simp only[inD,h]
theorem zo2:zkX (.int v) (.tup (row.map D.int)) m = .ok (.bl (!decide (v∈row))) m:=by
 have h:=zmQ (v:=v) (row:=row) (m:=m);unfold inD at h;unfold zkX;split at h
 ·rename_i b e;simp only[Res.ok.injEq,D.bl.injEq,and_true]at h;rw[h]
 ·cases h
theorem zcM:∀row:List Int,zeN (row.map D.int)=aa row
 |[]=>rfl|a::r=>by simp only[yE,zeN,zcM r];rfl
theorem znp(h:v∈row):zeP (.tup (row.map D.int)) [.int v] m = .ok (.int (row.idxOf v)) m:=by
 simp only[zeP,zcM,if_pos h]
theorem zdH{n:Nat}(h:row[n]?=aa v):ixD (.tup (row.map D.int)) (.int n) m = .ok (.int v) m:=zps (by simp[h])
def exV(b:Nat)(kd:Kd)(v more:Int)(fo a:List Int):Int:=match kd with
 |.step n=>(v+more*n)%2^b|.turn row=>if v∈row then row.getD ((row.idxOf v+more)%row.length).toNat 0 else v|.wth i f=>(v+f*(a.getD i 0-fo.getD i 0))%2^b|.still=>v|.drawn=>v
theorem md2(x:Int)(b:Nat):0<=x%2^b/\x%2^b<2^b:=⟨yau _ (Int.ne_of_gt (p2 b)),yax _ (p2 b)⟩
def shD(fs:List Fd)(n:Int):D := .tup [.tup (fs.map Fd.e),.int n]
def zdk(l:List Int):D := .tup (l.map D.int)
variable{i:Nat}{f:Fd}
theorem zmP{fs:List Fd}(h:fs[i]?=aa f):ixD (.tup (fs.map Fd.e)) (.int i) m = .ok (.tup [.str f.nm,.int f.b,f.kd.e]) m:=zps (by simp[h,Fd.e])
def Bin(l:List Nat):Prop:=∀c∈l,c=48∨c=49
def ze7(l:List Nat):Int:=l.foldl (fun a c=>a*2+if c=49 then 1 else 0) 0
theorem zq4(l:List Nat)(c:Nat):ze7 (l++[c])=ze7 l*2+if c=49 then 1 else 0:=by simp only[ze7,List.foldl_append,ybs,List.foldl_nil]
theorem znw(h:(zgR z)[i]?=aa d):∃c,z.cps.toList[i]?=aa c/\d = .str ⟨#[c]⟩:=by
 have hi:i<z.cps.size:=by have:=(yi.mp h).1;simpa [zgR] using this
 have hd:d = .str ⟨#[z.cps.getD i 0]⟩:=by
  simp only[zgR,yW,ybR hi,yaL,yaP]at h;exact h.symm
 refine⟨z.cps[i],by simp[hi],?_⟩;rw[hd];simp[Array.getD,hi]
theorem zpR(z:ae):(zgR z).length=z.cps.toList.length:=by simp[zgR]
variable{c:Nat}
theorem zkn{l:List Nat}(h:l[i]?=aa c):l.take (i+1)=l.take i++[c]:=by
 rw[ycR,h];rfl
theorem int_0:zwm [.str ⟨#[48]⟩] m = .ok (.int 0) m:=by
 have e:ybJ ⟨#[48]⟩=aa 0:=by decide +kernel
 simp only[zwm,e];rfl
theorem int_1:zwm [.str ⟨#[49]⟩] m = .ok (.int 1) m:=by
 have e:ybJ ⟨#[49]⟩=aa 1:=by decide +kernel
 simp only[zwm,e];rfl
theorem ziR(H:Bin z.cps.toList):Run (zbA [.str z] m) fun a m'=>a = .int (ze7 z.cps.toList)/\m'=m:=by
 unfold zbA ziZ;ac_nf;refine Run.bind (zbD (fun k ρ m'=>∃x,ρ = [aa (.str z),aa (.int (ze7 (z.cps.toList.take k))),x]/\m'=m) (zgR z) 0 ⟨_,rfl,rfl⟩ ?_) ?_
 ·rintro i d ρ m' hd ⟨x,rfl,rfl⟩;obtain⟨c,h,rfl⟩:=znw hd;rw[yL,zkn h,zq4];erw [zmE (by decide)];ac_nf;rcases H c (yai h) with rfl|rfl
  ·rw[int_0];ac_nf;exact Run.ok ⟨_,rfl,_,rfl,rfl⟩
  ·rw[int_1];ac_nf;exact Run.ok ⟨_,rfl,_,rfl,rfl⟩
 ·rintro _ m' ⟨ρ,rfl,x,rfl,rfl⟩;rw[yL,zpR,ych];ac_nf;exact Run.ok ⟨rfl,rfl⟩
inductive Wy where
 |keep | whole | low (w:Nat) (bl:Int)
def Wy.e:Wy->D
 |.keep=>.tup [.str "keep"]|.whole=>.tup [.str "whole"]|.low w bl=>.tup [.str "low", .int w,.int bl]
def Wy.w(b:Nat):Wy->Nat
 |.keep=>0|.whole=>b|.low w _=>w
def Wy.Ok(b:Nat):Wy->Prop
 |.low w bl=>0<w/\w<=b/\0<=bl/\bl<2^w|_=>True
theorem Wy.w_le{w:Wy}(h:w.Ok b):w.w b<=b:=by
 cases w with
 |keep=>exact yav _|whole=>exact yh _|low w bl=>exact h.2.1
def zuL(wy:Wy)(b:Nat)(base r:Int):Int:=match wy with
 |.keep=>base|.whole=>r|.low w bl=>((base-bl)+(r-(base-bl))%2^w)%2^b
theorem zci{w:Nat}(h:w<=1000000):Run (zbR [.int n,.int w] m) fun a m'=>a = .int (n%2^w)/\m'=m:=by
 unfold zbR zn3;erw [zeR h];erw [zcV (p2 _)];ac_nf;exact Run.ok ⟨rfl,rfl⟩
variable{rest:Int}
theorem zpl{w:Nat}{base bl:Int}(H:b<=1000000)(h:w<=1000000):Run (zia [.int b,.int base,.int bl,.int rest,.int w] m) fun a m'=>a = .int (((base-bl)+(rest-(base-bl))%2^w)%2^b)/\m'=m:=by
 have c:Run (zbP [.int (base-bl),.int rest,.int w] m) fun a m'=>a = .int ((base-bl)+(rest-(base-bl))%2^w)/\m'=m:=by
  unfold zbP zgo;erw [zas (zci h)];ac_nf;exact Run.ok ⟨rfl,rfl⟩
 unfold zia zob;erw [zas c];erw [zas (zci H)];ac_nf;exact Run.ok ⟨rfl,rfl⟩
variable{wy:Wy}
theorem zji{base:Int}(H:b<=1000000)(h:wy.Ok b):Run (zdn [wy.e,.int b,.int base,.int rest] m) fun a m'=>a = .int (zuL wy b base rest)/\m'=m:=by
 unfold zdn zhT;cases wy with
 |keep=>simp only[Wy.e];ac_nf;exact Run.ok ⟨rfl,rfl⟩|whole=>simp only[Wy.e];ac_nf;exact Run.ok ⟨rfl,rfl⟩|low w bl=>
  simp only[Wy.e];ac_nf;have c:=h.2.1;rw[zas (zpl H (by omega))];ac_nf;exact Run.ok ⟨rfl,rfl⟩
theorem zeO:Run (zcI [wy.e,.int b] m) fun a m'=>a = .int (wy.w b:Nat)/\m'=m:=by
 unfold zcI zlg;cases wy with
 |keep=>simp only[Wy.e];ac_nf;exact Run.ok ⟨rfl,rfl⟩|whole=>simp only[Wy.e];ac_nf;exact Run.ok ⟨rfl,rfl⟩|low w bl=>simp only[Wy.e];ac_nf;exact Run.ok ⟨rfl,rfl⟩
theorem zou{more:Int}:Run (zhU [.tup (row.map D.int),.int v,.int more] m) fun a m'=>a = .int (if v∈row then row.getD ((row.idxOf v+more)%row.length).toNat 0 else v)/\m'=m:=by
 unfold zhU zn1;erw [zo2];ac_nf;by_cases hr:v∈row
 ·rw[decide_eq_true hr];erw [znp hr];ac_nf;simp only[yj];have hl:0<row.length:=yd5 hr;rw[zcV (by omega)];ac_nf;have a0:=yau (row.idxOf v+more) (b:=row.length) (by omega);have a1:=yax (row.idxOf v+more) (b:=row.length) (by(clear a0;omega));rw[if_pos hr];generalize h:((row.idxOf v:Int)+more)%row.length=x at a0 a1;obtain⟨j,rfl⟩:∃j:Nat,x=j:=⟨x.toNat,by(clear a1 h hl;omega)⟩;have H:j<row.length:=by(clear a0 h hl;omega)
  rw[zdH (yu H)];ac_nf;refine Run.ok ⟨?_,rfl⟩;simp only[yaA,yal,yu H,yaR]
 ·rw[decide_eq_false hr];erw [if_neg hr];exact Run.ok ⟨rfl,rfl⟩
theorem sl_fd{a b c:D}:slD (.tup [a,b,c]) (aa 1) ab m = .ok (.tup [b,c]) m:=by
 have e:slD (.tup [a,b,c]) (aa 1) ab m=if HT.sIx 3 0 (aa 1)=0/\HT.sIx 3 3 ab=3 then .bad else .ok (.tup (zmX [a,b,c] (aa 1) ab)) m:=rfl
 rw[e,if_neg (by decide)];rfl
variable{fo ah:List Int}
theorem zlw{fs:List Fd}{more:Int}(hs:zoq fs)(l:fs[i]?=aa f)(hv:fo[i]?=aa v)(e:0<=v)(V:v<2^f.b)(ha:ah.length=i) : Run (zen [shD fs n,.int i,.tup (fo.map D.int),.tup (ah.map D.int),.int more] m) fun a m'=>a = .int (exV f.b f.kd v more fo ah)/\m'=m:=by
 obtain⟨h,c,g⟩:=hs i f l;unfold zen zi6 shD;erw [zmP l];erw [sl_fd];erw [zdH hv];ac_nf;have H:=p2lt c;cases k:f.kd with
 |step w=>
  rw[k]at g;simp only[Kd.Ok]at g;simp only[Kd.e];erw [ziA (by(clear c h ha V e;omega))];erw [zas (zci (by(clear g H h ha V e;omega)))];ac_nf;exact Run.ok ⟨by simp only[exV,ybg],rfl⟩
 |turn row=>
  simp only[Kd.e];erw [zas zou];ac_nf;exact Run.ok ⟨by simp only[exV],rfl⟩
 |wth j w=>
  rw[k]at g;simp only[Kd.Ok]at g;simp only[Kd.e];ac_nf;have b:j<ah.length:=by(clear H c h V e;omega)
  have d:j<fo.length:=by have:=(yi.mp hv).1;(clear b H c h ha V e;omega)
  rw[zdH (yu b)];erw [zdH (yu d)];erw [ziA (by(clear d b H c h ha V e;omega))];erw [zas (zci (by(clear d b g H h ha V e;omega)))];ac_nf;refine Run.ok ⟨?_,rfl⟩;simp only[exV,yal,yu b,yu d,yaR]
 |still=>
  simp only[Kd.e];ac_nf;exact Run.ok ⟨by simp only[exV],rfl⟩
 |drawn=>
  simp only[Kd.e];ac_nf;exact Run.ok ⟨by simp only[exV],rfl⟩
def fmD(a b:Int)(wys:List Wy):D := .tup [.int a,.int b,.tup (wys.map Wy.e)]
def zdA(fs:List Fd)(wys:List Wy):List Nat:=ybh (fun f w=>Wy.w f.b w) fs wys
theorem zeq{fs:List Fd}(h:fs.length<=1000):Run (zb9 [shD fs n] m) fun a m'=>a = .lst (fs.map fun f=>.int f.b)/\m'=m:=by
 unfold zb9 zi7 shD;ac_nf;rw[zcc (ds:=fs.map Fd.e) (fun d=>match d with | .tup [_,b,_]=>b | d=>d)]
 ·ac_nf;refine Run.ok ⟨?_,rfl⟩;rw[yaf];rfl
 ·ac_nf
 ·rw[yj];omega
 ·intro d hd;simp only[yah]at hd;obtain⟨f,_,rfl⟩:=hd;exact⟨_,rfl,(ix_t1 (.str f.nm) (.int f.b) [f.kd.e]:ixD (.tup _) (.int 1) m=_)⟩
theorem zt6:∀(fs:List Fd)(wys:List Wy),zg1 (wys.map Wy.e) (fs.map fun f=>D.int f.b)=ybh (fun(f:Fd)(w:Wy)=>D.tup [w.e,.int f.b]) fs wys
 |[],[]=>rfl|[],_::_=>rfl|_::_,[]=>rfl|f::fs,w::ws=>by simp only[yE,zg1,yd6,zt6 fs ws]
theorem zrk{α β c d : Type}(g : c -> d)(f:α -> β -> c):∀(a:List α)(b:List β),(ybh f a b).map g=ybh (fun x y=>g (f x y)) a b
 |[],_=>by simp|_::_,[]=>by simp|x::a,y::b=>by simp[zrk g f a b]
theorem zup{α β d : Type}(f:α -> β -> d):∀(a:List α)(b:List β){c : d},c∈ybh f a b->∃x y,c=f x y
 |[],_,c,h=>by simp at h|_::_,[],c,h=>by simp at h|x::a,y::b,c,h=>by
  simp only[yd6,yB]at h;rcases h with h|h
  ·exact⟨x,y,h⟩
  ·exact zup f a b h
def wdF(d:D):D:=match d with
 |.tup [a,b]=>match zcI [a,b] [] with
  |.ok x _=>x|_=>.non
 |d=>d
variable{wys:List Wy}
theorem zfV{fs:List Fd}{b:Int}(h:fs.length<=1000)(hl:wys.length=fs.length):Run (zdJ [shD fs n,fmD a b wys] m) fun x m'=>x = .lst ((zdA fs wys).map fun k:Nat=>.int k)/\m'=m:=by
 unfold zdJ zn0 fmD;erw [zcc (ds:=ybh (fun(f:Fd)(w:Wy)=>D.tup [w.e,.int f.b]) fs wys) wdF]
 ·ac_nf;refine Run.ok ⟨?_,rfl⟩;rw[zrk,zdA,zrk];congr 2;funext f w;show (match zcI [w.e,.int f.b] [] with | .ok x _=>x | _=>.non)=_;rw[zas zeO]
 ·erw [zas (zeq h)];ac_nf;simp only[zsD];rw[if_pos (by simp[hl]),zt6]
 ·simp;(clear hl;omega)
 ·intro d hd;obtain⟨f,w,rfl⟩:=zup _ _ _ hd;refine⟨_,rfl,?_⟩;show zcI [w.e,.int f.b] m = .ok (match zcI [w.e,.int f.b] [] with | .ok x _=>x | _=>.non) m;rw[zas zeO,zas zeO]
def zig(ws:List Nat)(k:Nat):Nat:=(ws.take k).sum
theorem zhc{ws:List Nat}{k w:Nat}(h:ws[k]?=aa w):zig ws (k+1)=zig ws k+w:=by
 unfold zig;rw[zkn h,ycS];simp
theorem zuR(ws:List Nat)(k:Nat):zig ws k<=ws.sum:=by
 unfold zig
 conv=>rhs;rw[<- yc8 k ws,ycS]
 omega
def zmD(l:List Nat)(ws:List Nat)(k:Nat):Int:=ze7 ((l.drop (zig ws k)).take (ws.getD k 0))
theorem Bin.drop{l:List Nat}(h:Bin l)(k:Nat):Bin (l.drop k):=fun c H=>h c (List.mem_of_mem_drop H)
theorem Bin.take{l:List Nat}(h:Bin l)(k:Nat):Bin (l.take k):=fun c H=>h c (ycV H)
theorem znu{lo hi:Option Int}(h:z.length<=sizeLine):slD (.str z) lo hi m = .ok (.str (Txt.slice z lo hi)) m:=if_pos h
theorem zeF(f:Nat -> τ)(k:Nat):(yJ (k+1)).map f=(yJ k).map f++[f k]:=by rw[List.range_succ,yak];rfl
theorem zhI{ws:List Nat}(o:Bin z.cps.toList)(hl:z.length<=sizeLine)(hs:ws.sum<=z.cps.size)(g:ws.length<1000) : Run (zco [.str z,.lst (ws.map fun k:Nat=>.int k)] m) fun a m'=>a = .lst (((yJ ws.length).map (zmD z.cps.toList ws)).map D.int)/\m'=m:=by
 have h:Run (zaU 5 zff [.str z,.lst (ws.map fun k:Nat=>.int k)] m) fun a m'=>a = .ob m.length/\m'=m++[.lst (((yJ ws.length).map (zmD z.cps.toList ws)).map D.int)]:=by
  unfold zff;erw [zj5];ac_nf;refine Run.bind (zbD (fun k ρ m'=>∃x,ρ = [aa (.str z),aa (.lst (ws.map fun k:Nat=>.int k)),aa (.ob m.length),aa (.int (zig ws k:Nat)),x]/\m'=m++[.lst (((yJ k).map (zmD z.cps.toList ws)).map D.int)]) (ws.map fun k:Nat=>.int k) 0 ⟨_,rfl,rfl⟩ ?_) ?_
  ·rintro i d ρ m' hd ⟨x,rfl,rfl⟩;rw[yL];have hi:i<ws.length:=by have:=(yi.mp hd).1;simpa using this
   have c:ws[i]?=aa ws[i]:=yu hi;have j:d = .int (ws[i]:Nat):=by
    rw[yW,c]at hd;simpa using hd.symm
   subst j;have hm:(m++[MO.lst (((yJ i).map (zmD z.cps.toList ws)).map D.int)])[m.length]?=aa (.lst (((yJ i).map (zmD z.cps.toList ws)).map D.int)):=by simp
   have H:=zhc c;have f:=zuR ws (i+1);erw [if_pos (zhQ hm)];erw [znu hl];ac_nf;have b:=Mth.slice_mid z (zig ws i) (zig ws (i+1)) (by(clear f g hs hl;omega)) (by(clear H g hl;omega));rw[H]at b;rw[yd7]at b;rw[show ((zig ws i:Nat):Int)+(ws[i]:Nat)=((zig ws i+ws[i]:Nat):Int) by(clear f H g hs hl;omega)];rw[zas (ziR (by rw[b];exact(o.drop _).take _)),b];erw [zfR hm (by simp;exact zbC (by(clear f H hs hl;omega)))];ac_nf;refine Run.ok ⟨_,rfl,_,by rw[H,Int.natCast_add],?_⟩;rw[zeF,yak];have:zmD z.cps.toList ws i=ze7 ((z.cps.toList.drop (zig ws i)).take ws[i]):=by rw[zmD,yal,c];rfl
   rw[this];simp
  ·rintro _ m' ⟨ρ,rfl,x,rfl,rfl⟩;ac_nf;refine Run.ok ⟨rfl,?_⟩;simp
 unfold zco;unfold locF;have h':=zas h;rw[h',bind_ok];generalize ((yJ ws.length).map (zmD z.cps.toList ws))=l;have e:frz (m++[.lst (l.map D.int)]) m.length (.ob m.length) = .lst (l.map D.int):=by simp[frz]
 rw[e];have n:clsd m.length (.lst (l.map D.int))=ac:=by
  have:∀l:List Int,clsdL m.length (l.map D.int)=ac:=by
   intro l;induction l with
   |nil=>simp[clsdL]|cons a r I=>simp[clsdL,clsd,I]
  simp[clsd,this]
 rw[if_pos ⟨by simp,n⟩];exact Run.ok ⟨rfl,by simp⟩
theorem zfh{a : Type}{f : a -> D}:∀{xs:List a}{k i:Nat}{d:D},(zcJ k (xs.map f))[i]?=aa d->∃x,xs[i]?=aa x/\d = .tup [.int ((k+i:Nat):Int),f x]
 |[],k,i,d,h=>by simp[zcJ]at h|x::xs,k,0,d,h=>by
  simp only[yE,zcJ,yd8,yaP]at h;exact⟨x,rfl,h.symm⟩
 |x::xs,k,i+1,d,h=>by
  simp only[yE,zcJ,yda]at h;obtain⟨y,h1,h2⟩:=zfh h;exact⟨y,by simpa using h1,by rw[h2,show k+1+i=k+(i+1) by omega]⟩
theorem zdN{a : Type}{f : a -> D}:∀{xs:List a}{k:Nat},(zcJ k (xs.map f)).length=xs.length
 |[],k=>rfl|x::xs,k=>by simp[zcJ,zdN]
def hdV(fs:List Fd)(wys:List Wy)(fo:List Int)(more:Int)(l:List Nat):Nat->List Int
 |0=>[]|k+1=>hdV fs wys fo more l k++[match fs[k]?,wys[k]?,fo[k]? with
  |some f,aa w,aa v=>zuL w f.b (exV f.b f.kd v more fo (hdV fs wys fo more l k)) (zmD l (zdA fs wys) k)|_,_,_=>0]
theorem zka(fs:List Fd)(wys:List Wy)(fo:List Int)(more:Int)(l:List Nat):∀k,(hdV fs wys fo more l k).length=k
 |0=>rfl|k+1=>by rw[hdV,yI,zka fs wys fo more l k];rfl
structure HdOk(fs:List Fd)(fo:List Int):Prop where
 len:fo.length=fs.length
 at':∀(i:Nat)(f:Fd)(v:Int),fs[i]?=aa f->fo[i]?=aa v->0<=v/\v<2^f.b
structure WyOk(fs:List Fd)(wys:List Wy):Prop where
 len:wys.length=fs.length
 at':∀(i:Nat)(f:Fd)(w:Wy),fs[i]?=aa f->wys[i]?=aa w->w.Ok f.b
theorem zct{fs:List Fd}(h:WyOk fs wys):(zdA fs wys).length=fs.length:=by simp[zdA,h.len]
theorem zg9{fs:List Fd}{w:Wy}(H:fs[i]?=aa f)(h:wys[i]?=aa w):(zdA fs wys)[i]?=aa (w.w f.b):=by
 rw[zdA,List.getElem?_zipWith,H,h]
theorem ziP{fs:List Fd}{b:Int}{more:Int}(hs:zoq fs)(hn:fs.length<=12)(h:WyOk fs wys)(c:HdOk fs fo)(j:Bin z.cps.toList)(hl:z.length<=sizeLine)(hsz:z.cps.size=(zdA fs wys).sum) : Run (zfe [shD fs n,fmD a b wys,.str z,.tup (fo.map D.int),.int more] m) fun x m'=>x = .tup ((hdV fs wys fo more z.cps.toList fs.length).map D.int)/\m'=m:=by
 unfold zfe zn6;erw [zas (zfV (by(clear hsz hl;omega)) h.len)];erw [zas (zhI j hl (by(clear hl hn;omega)) (by rw[zct h];(clear hsz hl;omega)))];ac_nf;refine Run.bind (zbD (fun k ρ m'=>∃x y w,ρ = [aa (shD fs n),aa (fmD a b wys),aa (.str z),aa (.tup (fo.map D.int)),aa (.int more),aa (.tup ((hdV fs wys fo more z.cps.toList k).map D.int)),x,y,w]/\m'=m) _ 0 ⟨_,_,_,rfl,rfl⟩ ?_) ?_
 ·rintro i d ρ m' hd ⟨x,y,w,rfl,rfl⟩;obtain⟨v,hv,rfl⟩:=zfh hd;have hi:i<fs.length:=by
   have:=(yi.mp hv).1;rw[yj,ybb,zct h]at this;exact this
  have H:v=zmD z.cps.toList (zdA fs wys) i:=by
   rw[yW,ybR (by rw[zct h];exact hi)]at hv;simpa using hv.symm
  subst H;rw[yL];have e:=yu hi;have f:=yu (show i<wys.length by rw[h.len];exact hi);have E:=yu (show i<fo.length by rw[c.len];exact hi);obtain⟨V,g⟩:=c.at' i _ _ e E;erw [zas (zlw hs e E V g (zka _ _ _ _ _ i))];ac_nf;simp only[shD,fmD];erw [zps (d:=(wys[i]'(by rw[h.len];exact hi)).e) (by rw[yW,f];rfl)];erw [zmP e];erw [zas (zji (by have:=(hs i _ e).2.1;(clear g V hsz hl hn;omega)) (h.at' i _ _ e f))];ac_nf;simp only[zbN];rw[if_pos (by rw[yj,zka];exact ybk (zbC (by simp;(clear V hsz hl;omega))))];ac_nf;have l:(hdV fs wys fo more z.cps.toList (i+1)).map D.int=(hdV fs wys fo more z.cps.toList i).map D.int++[.int (zuL (wys[i]'(by rw[h.len];exact hi)) fs[i].b (exV fs[i].b fs[i].kd (fo[i]'(by rw[c.len];exact hi)) more fo (hdV fs wys fo more z.cps.toList i)) (zmD z.cps.toList (zdA fs wys) i))]:=by
   rw[hdV,e,f,E];simp
  rw[l];exact Run.ok ⟨_,rfl,_,_,_,rfl,rfl⟩
 ·rintro _ m' ⟨ρ,rfl,x,y,w,rfl,rfl⟩;rw[yL,zdN,yj,ybb,zct h];ac_nf;exact Run.ok ⟨rfl,rfl⟩
open PySem PyProof.Rows L2 Mth
theorem ztM(t:List ae)(h:∀a∈t,a.length=1)(hl:t.length<=1000000):JoinOk (yaa "") t=ac:=by
 refine joinOk_of ?_;rw[sumLen_of_ones t h];have z:(yaa "").length=0:=by decide
 rw[z]
 (clear z;omega)
def znN(c:Nat):ae:=⟨#[c]⟩
theorem ziT:∀cs:List Nat,(yco (yaa "") (cs.map znN)).cps.toList=cs
 |[]=>rfl|[c]=>rfl|c::d::r=>by
  show (znN c++yaa "" ++ yco (yaa "") ((d::r).map znN)).cps.toList=_;rw[ycp,ycp,ziT (d::r)];rfl
theorem zrB(cs:List Nat):(PySem.Txt.join (yaa "") (cs.map znN)).cps.toList=cs:=by
 show (yd9 (yaa "") (cs.map znN)).cps.toList=_;rw[StrLaws.glued_eq_join,ziT]
section
theorem isi_tt(xs:List D):zpt "tuple" (.tup xs) m = .ok (.bl ac) m:=rfl
theorem isi_ii(a:Int):zpt "int" (.int a) m = .ok (.bl ac) m:=rfl
theorem isi_bi(a:Int):zpt "bool" (.int a) m = .ok (.bl ag) m:=rfl
end
theorem lift{a : Type}(e : a -> D)(P:Nat -> a -> Prop):∀(xs:List D)(k:Nat),(∀i x,xs[i]?=aa x->∃t,x=e t/\P (k+i) t)->∃l:List a,xs=l.map e/\∀i t,l[i]?=aa t->P (k+i) t
 |[],k,_=>⟨[],rfl,fun i t h=>by simp at h⟩|x::xs,k,h=>by
  obtain⟨t,rfl,c⟩:=h 0 x rfl;obtain⟨l,rfl,hl⟩:=lift e P xs (k+1) fun i x b=>by
   rw[show k+1+i=k+(i+1) by omega];exact h (i+1) x (by simpa using b)
  refine⟨t::l,rfl,fun i u H=>?_⟩;cases i with
  |zero=>simp at H;subst H;exact c|succ i=>
   rw[show k+(i+1)=k+1+i by omega];exact hl i u (by simpa using H)
open PySem L2
theorem str_0:zuW [.int 0] m = .ok (.str ⟨#[48]⟩) m:=rfl
theorem str_1:zuW [.int 1] m = .ok (.str ⟨#[49]⟩) m:=rfl
theorem zjm{fs:List Fd}{wys:List Wy}(hs:zoq fs)(H:WyOk fs wys):∀k,k<=fs.length->zig (zdA fs wys) k<=40*k
 |0,_=>by simp[zig]|k+1,h=>by
  have e1:=yu (show k<fs.length by omega);have e:=yu (show k<wys.length by rw[H.len];omega);rw[zhc (zg9 e1 e)];have:=zjm hs H k (by omega);have b:=Wy.w_le (H.at' k _ _ e1 e);have a:=(hs k _ e1).2.1;omega
theorem zsK{fs:List Fd}(h:WyOk fs wys):zig (zdA fs wys) fs.length=(zdA fs wys).sum:=by
 rw[zig,<- zct h,ych]
theorem zje:∀cs:List Nat,zgP (cs.map fun c=>D.str (znN c))=aa (cs.map znN)
 |[]=>rfl|a::r=>by simp only[yE,zgP,zje r];rfl
theorem zvv:znI (.int 10) (.int 18) m = .ok (.int 1000000000000000000) m:=by
 rw[zhy];have e:zvt (.int 10) (.int 18) m=if (0:Int)<=18/\(18:Int)<=1000000/\(10:Int).natAbs<2^64 then .ok (.int ((10:Int)^(18:Int).toNat)) m else .bad:=rfl
 rw[e,if_pos (by decide)];rfl
open PySem L2
def dig(n:Int)(k:Nat):Nat:=if n/2^k%2=1 then 49 else 48
def dgs(n:Int):Nat->List Nat
 |0=>[]|k+1=>dig n k::dgs n k
theorem za0(n:Int):∀k,(dgs n k).length=k
 |0=>rfl|k+1=>by rw[dgs,yD,za0 n k]
theorem zfi(n:Int):∀k,Bin (dgs n k)
 |0=>fun c h=>by simp[dgs]at h|k+1=>fun c h=>by
  rw[dgs,yB]at h;rcases h with rfl|h
  ·unfold dig;split <;> simp
  ·exact zfi n k c h
theorem zfZ{a b:ae}(h:a.cps.toList=b.cps.toList):a=b:=by
 cases a;cases b;congr 1;exact yb9 h
theorem zuB(n:Int):∀w,(yJ w).map (fun i=>dig n (w-1-i))=dgs n w
 |0=>rfl|w+1=>by
  rw[ycc,yE,yaf,dgs,<- zuB n w];congr 1;refine ybS fun i hi=>?_;show dig n (w+1-1-(i+1))=dig n (w-1-i);congr 1;omega
theorem zuU:zuW [.int (ybD (n/2^p) 1)] m = .ok (.str (znN (dig n p))) m:=by
 rw[PyProof.Rows.bitAnd_m1];unfold dig;rcases (show n/2^p%2=0∨n/2^p%2=1 by omega) with h|h
 ·rw[h,str_0];rfl
 ·rw[h,str_1];rfl
theorem join_m{cs:List Nat}(h:cs.length<=1000000):zla (.str "") [.lst (cs.map fun c=>D.str (znN c))] m = .ok (.str ⟨cs.toArray⟩) m:=by
 simp only[zla,lOf,yaS,zje];rw[if_pos (ztM _ (fun a ha=>by obtain⟨c,_,rfl⟩:=yah.mp ha;rfl) (by simpa using h))];congr 2;exact zfZ (by rw[zrB])
def bitD(n:Int)(d:D):D:=match d with
 |.int p=>.str (znN (dig n p.toNat))|d=>d
theorem rev_ok{w:Nat}(h:w<=1000):revR [.int w] m = .ok ((yJ w).map fun i:Nat=>.int ((w:Int)-1-i)) m:=by
 rw[zqd];unfold zta;simp only;rw[if_pos ⟨by(clear h;omega),by omega⟩,yaA]
theorem shr_i:shrD (.int n) (.int (p:Nat)) m = .ok (.int (n/2^p)) m:=by
 unfold shrD;simp only;rw[if_pos (by omega),yaA]
theorem and_i{b:Int}:andD (.int a) (.int b) m = .ok (.int (ybD a b)) m:=rfl
theorem bit_el{x:Option D}:eFn zuW (zac (eOp andD (eOp shrD (zad 0) (zad 2)) (eC (.int 1))) zaj) [aa (.int n),x,aa (.int (p:Nat))] m = .ok (.str (znN (dig n p))) m:=by
 simp -implicitDefEqProofs only[eFn,zac,zaj,eOp,zad,eC,bind_ok,yd8,yda,shr_i,and_i,zuU]
theorem zdy{w:Nat}(h:w<=1000):Run (zc2 [.int n,.int w] m) fun a m'=>a = .str ⟨(dgs n w).toArray⟩/\m'=m:=by
 unfold zc2 zoa;erw [zcc (ds:=(yJ w).map fun i:Nat=>.int ((w:Int)-1-i)) (bitD n)]
 ·ac_nf;have e:((yJ w).map fun i:Nat=>D.int ((w:Int)-1-i)).map (bitD n)=(dgs n w).map fun c=>D.str (znN c):=by
   rw[<- zuB,yaf,yaf];refine ybS fun i hi=>?_;have hi:=yaI.mp hi;show D.str (znN (dig n ((w:Int)-1-i).toNat))=D.str (znN (dig n (w-1-i)));rw[show ((w:Int)-1-i).toNat=w-1-i by(clear hi h;omega)]
  rw[e,join_m (by rw[za0];omega)];ac_nf;exact Run.ok ⟨rfl,rfl⟩
 ·ac_nf;exact rev_ok h
 ·simp;omega
 ·intro d hd;simp only[yah,yaI]at hd;obtain⟨i,hi,rfl⟩:=hd;obtain⟨p,H⟩:∃p:Nat,(w:Int)-1-i=p:=⟨((w:Int)-1-i).toNat,by(clear h;omega)⟩;rw[H];refine⟨_,rfl,bit_el.trans ?_⟩;simp only[bitD,yaA]
def pcK(fs:List Fd)(wys:List Wy)(hd:List Int):Nat->List Nat
 |0=>[]|k+1=>pcK fs wys hd k++match fs[k]?,wys[k]?,hd[k]? with
  |some f,aa w,aa v=>dgs (v%2^w.w f.b) (w.w f.b)|_,_,_=>[]
theorem zhA{fs:List Fd}{wys:List Wy}{hd:List Int}(H:WyOk fs wys)(a:HdOk fs hd):∀k,k<=fs.length->(pcK fs wys hd k).length=zig (zdA fs wys) k
 |0,_=>by simp[pcK,zig]|k+1,h=>by
  have e1:=yu (show k<fs.length by omega);have e:=yu (show k<wys.length by rw[H.len];omega);have E:=yu (show k<hd.length by rw[a.len];omega);rw[pcK,e1,e,E,yI,zhA H a k (by omega),zhc (zg9 e1 e)];simp only[za0]
theorem zmn{fs:List Fd}{wys:List Wy}{hd:List Int}:∀k,Bin (pcK fs wys hd k)
 |0=>fun c h=>by simp[pcK]at h|k+1=>fun c h=>by
  rw[pcK]at h;rcases yae.mp h with h|h
  ·exact zmn k c h
  ·split at h
   ·exact zfi _ _ c h
   ·simp at h
open PySem PyProof.Rows L2 Mth
theorem zhP:∀ts:List ae,(yco (yaa "") ts).cps.toList=(ts.map fun t=>t.cps.toList).flatten
 |[]=>rfl|[t]=>by
  show t.cps.toList=_;simp
 |t::d::r=>by
  show (t++yaa "" ++ yco (yaa "") (d::r)).cps.toList=_;rw[ycp,ycp,zhP (d::r)];show t.cps.toList++[]++_=_;simp
def txD(l:List Nat):D := .str ⟨l.toArray⟩
theorem zlS:∀ls:List (List Nat),zgP (ls.map txD)=aa (ls.map fun l=>⟨l.toArray⟩)
 |[]=>rfl|a::r=>by simp only[yE,txD,zgP];rw[show r.map (fun l=>txD l)=r.map txD from rfl];rw[zlS r];rfl
theorem sum_bd(ls:List (List Nat))(h:∀t∈ls,t.length<=1000):(ls.map ya8).sum<=1000*ls.length:=by
 induction ls with
 |nil=>exact yh _|cons t r i=>
  rw[yE,ycT,yD];have b:=h t (by simp);have a:=i fun u H=>h u (yag _ H);omega
theorem zwh{ls:List (List Nat)}(h:∀t∈ls,t.length<=1000)(hl:ls.length<=1000):zla (.str "") [.lst (ls.map txD)] m = .ok (.str ⟨ls.flatten.toArray⟩) m:=by
 have H:JoinOk (yaa "") (ls.map fun l=>(⟨l.toArray⟩:ae))=ac:=by
  refine joinOk_of ?_;have z:(yaa "").length=0:=by decide
  rw[z,Nat.mul_zero,Nat.add_zero];have:=sum_bd ls h;have e:((ls.map fun l=>(⟨l.toArray⟩:ae)).map fun t=>t.length)=ls.map ya8:=by
   rw[yaf];rfl
  exact yO (by first | exact yb2 (congrArg List.sum e) | (rw[e];exact yh _)) (by(clear z;omega))
 simp only[zla,lOf,yaS,zlS];rw[if_pos H];congr 2;refine zfZ ?_;show (yd9 (yaa "") _).cps.toList=_;rw[StrLaws.glued_eq_join,zhP,yaf];show (ls.map id).flatten=_;rw[List.map_id]
def pc1(fs:List Fd)(wys:List Wy)(hd:List Int)(k:Nat):List Nat:=match fs[k]?,wys[k]?,hd[k]? with
 |some f,aa w,aa v=>dgs (v%2^w.w f.b) (w.w f.b)|_,_,_=>[]
theorem znL(fs:List Fd)(wys:List Wy)(hd:List Int):∀k,pcK fs wys hd k=((yJ k).map (pc1 fs wys hd)).flatten
 |0=>rfl|k+1=>by
  rw[zeF,List.flatten_append,<- znL fs wys hd k,pcK];congr 1;simp only[List.flatten_cons,List.flatten_nil,yas,pc1];all_goals (cases fs[k]? <;> cases wys[k]? <;> cases hd[k]? <;> rfl)
theorem zpv{ys:List D}:∀{i:Nat}{d:D},(zg1 xs ys)[i]?=aa d->∃x y,xs[i]?=aa x/\ys[i]?=aa y/\d = .tup [x,y]:=by
 induction xs generalizing ys with
 |nil=>intro i d h;simp[zg1]at h|cons x xs I=>
  intro i d h;cases ys with
  |nil=>simp[zg1]at h|cons y ys=>
   rw[zg1]at h;cases i with
   |zero=>simp at h;exact⟨x,y,rfl,rfl,h.symm⟩|succ i=>
    simp only[yda]at h;obtain⟨a,b,e,c,H⟩:=I h;exact⟨a,b,by simpa using e,by simpa using c,H⟩
theorem zdY:∀{xs ys:List D},xs.length<=ys.length->(zg1 xs ys).length=xs.length
 |[],ys,_=>by simp[zg1]|x::xs,[],h=>by simp at h|x::xs,y::ys,h=>by
  rw[zg1,yD,yD,zdY (by simpa using h)]
variable{hd:List Int}
theorem zeH{fs:List Fd}{b:Int}(hs:zoq fs)(hn:fs.length<=12)(g:WyOk fs wys)(f:HdOk fs hd) : Run (zdL [shD fs n,fmD a b wys,.tup (hd.map D.int)] m) fun x m'=>x = .str ⟨(pcK fs wys hd fs.length).toArray⟩/\m'=m:=by
 unfold zdL zn4;ac_nf;have H:(hd.map D.int).length<=((zdA fs wys).map fun k:Nat=>D.int k).length:=by rw[yj,yj,zct g,f.len];exact yh _
 refine Run.bind (zfS (ds:=zg1 (hd.map D.int) ((zdA fs wys).map fun k:Nat=>.int k)) (fun k m'=>m'=m) (fun i d x=>∃l,x=txD l/\l=pc1 fs wys hd i) ?_ (by rw[zdY H,yj,f.len];(clear H;omega)) rfl ?_) ?_
 ·erw [zas (zfV (by(clear H;omega)) g.len)];ac_nf;simp only[zsD];rw[if_pos H]
 ·rintro i d m' u rfl;obtain⟨x,y,q,w,rfl⟩:=zpv u;have hi:i<fs.length:=by
   have:=(yi.mp q).1;rw[yj,f.len]at this;exact this
  have E:=yu hi;have j:=yu (show i<wys.length by rw[g.len];exact hi);have r:=yu (show i<hd.length by rw[f.len];exact hi);rw[yW,r,yaL]at q;rw[yW,zg9 E j,yaL]at w;cases q;cases w;have s:=Wy.w_le (g.at' i _ _ E j);have v:=(hs i _ E).2.1;erw [zas (zci (by(clear H hn;omega)))];erw [zas (zdy (by(clear H hn;omega)))];exact Run.ok ⟨⟨_,rfl,by rw[pc1,E,j,r]⟩,rfl⟩
 ·rintro xs m' ⟨h,C,rfl⟩;rw[zdY H,yj,f.len]at h;obtain⟨ls,rfl,o⟩:=lift txD (fun i l=>l=pc1 fs wys hd i) xs 0 fun i x z=>by
   have hi:i<(zg1 (hd.map D.int) ((zdA fs wys).map fun k:Nat=>D.int k)).length:=by
    have:=(yi.mp z).1;rw[zdY H,yj,f.len]
    (clear H hn;omega)
   rw[yL];exact C i _ x (yu hi) z
  have p:ls.length=fs.length:=by simpa using h
  have e:ls=(yJ fs.length).map (pc1 fs wys hd):=by
   refine List.ext_getElem (by simp[p]) fun i q w=>?_;have:=o i ls[i] (yu q);rw[yL]at this;rw[this];simp
  have B:∀t∈ls,t.length<=1000:=by
   intro t A;obtain⟨i,hi,rfl⟩:=ycl.mp A;have:=o i ls[i] (yu hi);rw[yL]at this;have c:i<fs.length:=by(clear h H hn;omega)
   have E:=yu c;have j:=yu (show i<wys.length by rw[g.len];exact c);have r:=yu (show i<hd.length by rw[f.len];exact c);rw[this,pc1,E,j,r];have s:=Wy.w_le (g.at' i _ _ E j);have v:=(hs i _ E).2.1;simp only[za0]
   (clear p h H hn;omega)
  erw [zwh B (by(clear h H;omega))];ac_nf;refine Run.ok ⟨?_,rfl⟩;rw[znL,e]
def fmE(p:Int×List Int):D := .tup [.int p.1,.tup (p.2.map D.int)]
section
variable{fs:List Fd}{b:Int}
theorem zvL(hs:zoq fs)(hn:fs.length<=12)(h:WyOk fs wys)(b:HdOk fs hd):(⟨(pcK fs wys hd fs.length).toArray⟩:ae).length<=sizeLine/\(⟨(pcK fs wys hd fs.length).toArray⟩:ae).cps.size=(zdA fs wys).sum:=by
 have a:=zhA h b fs.length (yh _);have c:=zjm hs h fs.length (yh _);have H:=zsK h;have e:(⟨(pcK fs wys hd fs.length).toArray⟩:ae).cps.size=zig (zdA fs wys) fs.length:=by show (pcK fs wys hd fs.length).toArray.size=_;rw[yM,a]
 refine⟨?_,by rw[e,H]⟩;show (⟨(pcK fs wys hd fs.length).toArray⟩:ae).cps.size<=sizeLine;rw[e];exact ybk (zbC (by(clear e H a;omega)))
end
theorem zie{b : Type}(f : b -> Bool):∀l:List b,zm8 (l.map fun t=>D.bl (f t))=aa (l.map f)
 |[]=>rfl|a::r=>by simp only[yE,zm8,zie f r];rfl
open PySem L2
theorem ix_ob{n:Nat}(h:m[r]?=aa (.lst xs))(hd:xs[n]?=aa d):ixD (.ob r) (.int n) m = .ok d m:=by
 simp only[ixD,h];rw[zgw,hd];rfl
theorem zrr(h:m[r]?=aa (.lst xs)):zeB [.ob r] m = .ok (.int xs.length) m:=by simp only[zeB,h]
theorem max_i(a b:Int):zeA [.int a,.int b] m = .ok (.int (if b>a then b else a)) m:=rfl
variable{ns:List Int}
theorem max_l(h:ns≠[]):zk2 [.lst (ns.map D.int)] m = .ok (.int (zpr ns)) m:=by
 simp only[zk2,lOf,yaS,zcM,if_pos h]
theorem slA_t(ds:List D)(lo hi:Option Int):slA (.tup ds) lo hi m = .ok (.tup (zmX ds lo hi)) m:=rfl
theorem add_t{a b:List D}(h:a.length+b.length<=sizeLine):zbN (.tup a) (.tup b) m = .ok (.tup (a++b)) m:=if_pos h
theorem zkW(l:List Nat):∀a:Int,l.foldl (fun a c=>a*2+if c=49 then 1 else 0) a=a*2^l.length+ze7 l:=by
 induction l with
 |nil=>intro a;simp[ze7]|cons c l i=>
  intro a;rw[ybs,i];have e:ze7 (c::l)=(if c=49 then 1 else 0)*2^l.length+ze7 l:=by
   unfold ze7;rw[ybs,i];simp only[ydb,ybT];rfl
  rw[e,yD,ybU];generalize (2:Int)^l.length=B;generalize ze7 l=C;split
  ·rw[ycU,ybi,ybg 2 B,Int.add_assoc]
  ·rw[Int.add_zero,ybi,ybg 2 B,ydb,ybT]
theorem zq5(c:Nat)(l:List Nat):ze7 (c::l)=(if c=49 then 1 else 0)*2^l.length+ze7 l:=by
 have:=zkW (c::l) 0;unfold ze7;rw[ybs,zkW];simp only[ydb,ybT];rfl
theorem zv4(n:Int)(k:Nat):n%2^(k+1)=(n/2^k%2)*2^k+n%2^k:=by
 have h:=p2 k;rw[ybU];generalize (2:Int)^k=B at h;have H:=yea n B;have a:=yea (n/B) 2;have f:=yau n (b:=B) (by(clear a H;omega));have d:=yax n h;have c:=yau (n/B) (b:=2) (by(clear d f a H h;omega));have g:=yax (n/B) (b:=2) (by(clear c d f a H h;omega));generalize hs:n/B%2=s at *;generalize hr:n%B=r at *;generalize n/B/2=q at *;have e:n=s*B+r+B*2*q:=by
  rw[<- a]at H;rw[<- H,Int.mul_add,ybg B s,<- ybi]
  (clear a H d f hr g c hs h;omega)
 rw[e,Int.add_mul_emod_self_left];apply ybV
 ·have:=ydc c (Int.le_of_lt h);(clear e a d H hr g c hs h;omega)
 ·rcases (show s=0∨s=1 by(clear e a d f H hr hs h;omega)) with rfl | rfl
  ·(clear e a g c hs H hr h;omega)
  ·(clear e a g c hs f H hr h;omega)
theorem zg5(n:Int):∀w,ze7 (dgs n w)=n%2^w
 |0=>by simp[dgs,ze7,Int.emod_one]|k+1=>by
  rw[dgs,zq5,za0,zg5 n k,zv4];congr 2;have H:=yau (n/2^k) (b:=2) (by omega);have a:=yax (n/2^k) (b:=2) (by(clear H;omega));unfold dig;by_cases h:n/2^k%2=1
  ·rw[if_pos h,if_pos rfl,h]
  ·rw[if_neg h,if_neg (by decide)]
   (clear a H;omega)
theorem zqz(fs:List Fd)(wys:List Wy)(hd:List Int){k:Nat}:∀N,k<N->∃t,pcK fs wys hd N=pcK fs wys hd k++(pc1 fs wys hd k++t)
 |0,h=>by omega|N+1,h=>by
  have e:∀j,pcK fs wys hd (j+1)=pcK fs wys hd j++pc1 fs wys hd j:=fun j=>by
   rw[pcK];congr 1
  rcases ybe k N with H|H
  ·obtain⟨t,a⟩:=zqz fs wys hd N H;exact⟨t++pc1 fs wys hd N,by rw[e,a];simp only[yaq]⟩
  ·have:k=N:=by omega
   subst this;exact⟨[],by rw[e,yas]⟩
theorem zvX{fs:List Fd}(h:WyOk fs wys)(c:HdOk fs hd){k:Nat}{w:Wy}(e:fs[k]?=aa f)(a:wys[k]?=aa w)(i:hd[k]?=aa v) : zmD (pcK fs wys hd fs.length) (zdA fs wys) k=v%2^w.w f.b:=by
 have b:k<fs.length:=(yi.mp e).1;obtain⟨t,H⟩:=zqz fs wys hd fs.length b;unfold zmD;have E:(zdA fs wys).getD k 0=w.w f.b:=by rw[yal,zg9 e a];rfl
 have g:pc1 fs wys hd k=dgs (v%2^w.w f.b) (w.w f.b):=by simp only[pc1,e,a,i]
 rw[H,E,g,<- zhA h c k (by(clear E;omega)),List.drop_append_of_le_length (yh _),List.drop_length,ybP];have d:List.take (w.w f.b) (dgs (v%2^w.w f.b) (w.w f.b)++t)=dgs (v%2^w.w f.b) (w.w f.b):=by
  rw[List.take_append_of_le_length (by rw[za0];exact yh _),ybu (by rw[za0];exact yh _)]
 rw[d,zg5,ydd]
theorem zj8{g:GV}{b:SV}(I:Nat->En->Sto->Prop)(R:D->Sto->Prop):∀(ds:List D)(k:Nat){ρ : En}{m:Sto},I k ρ m->(∀i d ρ m,ds[i]?=aa d->I (k+i) ρ m->Run ((g d ρ m).bind b) fun f m2=>(∃a,f = .nx a/\I (k+i+1) a m2)∨∃v,f = .rt v/\R v m2) →
  Run (ze9 g b ds ρ m) fun f m'=>(∃ρ',f = .nx ρ'/\I (k+ds.length) ρ' m')∨∃v,f = .rt v/\R v m'
 |[],k,ρ,m,h,_=>⟨_,m,rfl,.inl ⟨ρ,rfl,h⟩⟩|d::r,k,ρ,m,h,st=>by
  obtain⟨f,m2,e2,h2⟩:=st 0 d ρ m rfl h;rcases h2 with⟨a,rfl,h2⟩|⟨v,rfl,h2⟩
  ·obtain⟨F,m',e,H⟩:=zj8 I R r (k+1) h2 fun i d ρ m hd hi=>by
    have:=st (i+1) d ρ m (by simpa using hd) (by rw[show k+(i+1)=k+1+i by omega];exact hi);rw[show k+(i+1)+1=k+1+i+1 by omega]at this;exact this
   refine⟨F,m',?_,by rw[yD,show k+(r.length+1)=k+1+r.length by(clear H;omega)];exact H⟩;rw[ze9,<- Res.bind_assoc,e2,bind_ok];exact e
  ·exact⟨.rt v,m2,by rw[ze9,<- Res.bind_assoc,e2,bind_ok],.inr ⟨v,rfl,h2⟩⟩
variable{s:ae}
section
theorem is_nn:isD .non .non m = .ok (.bl ac) m:=rfl
theorem isnt_nn:zgm .non .non m = .ok (.bl ag) m:=rfl
theorem zwk(xs:List D):zgm (.tup xs) .non m = .ok (.bl ac) m:=rfl
theorem isi_ss(s:ae):zpt "str" (.str s) m = .ok (.bl ac) m:=rfl
theorem zpw(a:Int):zdM [.int a] m = .ok (.bl ac) m:=by
 apply zas;unfold zdM zlp;erw [isi_ii];erw [isi_bi];ac_nf;exact Run.ok ⟨rfl,rfl⟩
theorem zlQ(a lo hi:Int):zcq [.int a,.int lo,.int hi] m = .ok (.bl (decide (lo<=a/\a<=hi))) m:=by
 apply zas;unfold zcq zh8;erw [zpw];ac_nf;by_cases h:lo<=a
 ·rw[if_pos h];ac_nf;exact Run.ok ⟨by congr 1;simp[h],rfl⟩
 ·rw[if_neg h];ac_nf;exact Run.ok ⟨by congr 1;simp[h],rfl⟩
theorem zrI(xs:List D)(lo hi:Int):zh6 [.tup xs,.int lo,.int hi] m = .ok (.bl (decide (lo<=xs.length/\(xs.length:Int)<=hi))) m:=by
 apply zas;unfold zh6 zrU;erw [isi_tt];ac_nf;by_cases h:lo<=xs.length
 ·rw[if_pos h];ac_nf;exact Run.ok ⟨by congr 1;simp[h],rfl⟩
 ·rw[if_neg h];ac_nf;exact Run.ok ⟨by congr 1;simp[h],rfl⟩
theorem zrH(H:b<=1000000):zew [.int v,.int b] m = .ok (.bl (decide (0<=v/\v<2^b))) m:=by
 apply zas;unfold zew zlq;erw [zeR H];erw [zlQ];ac_nf;refine Run.ok ⟨?_,rfl⟩;congr 2;exact propext ⟨fun h=>⟨h.1,by(clear H;omega)⟩,fun h=>⟨h.1,by(clear H;omega)⟩⟩
theorem zc7{w:ae}{k:Int}:zbq [.tup (.str s::xs),.str w,.int k] m = .ok (.bl (decide (k=xs.length+1/\s=w))) m:=by
 apply zas;unfold zbq zi4;erw [zrI];ac_nf;by_cases h:k<=((D.str s::xs).length:Nat)/\(((D.str s::xs).length:Nat):Int)<=k
 ·have H:k=xs.length+1:=by simp at h;omega
  simp only[yD]at h;rw[if_pos h];erw [isi_ss];ac_nf;exact Run.ok ⟨by congr 1;simp[H],rfl⟩
 ·have H : ¬ k=xs.length+1:=by simp at h;omega
  simp only[yD]at h;rw[if_neg h];ac_nf;exact Run.ok ⟨by congr 1;simp[H],rfl⟩
end
theorem znv{fs:List Fd}{b:Int}(hs:zoq fs)(hn:fs.length<=12)(h:WyOk fs wys):zfd [shD fs n,fmD a b wys] m = .ok (.int ((zdA fs wys).sum:Nat)) m:=by
 apply zas;unfold zfd zn2;erw [zas (zfV (by omega) h.len)];ac_nf;have e:((zdA fs wys).map fun k:Nat=>D.int k)=((zdA fs wys).map fun k:Nat=>(k:Int)).map D.int:=by rw[yaf];rfl
 rw[e];simp only[zuS,lOf,yaS,zcM];have hok:∀x,x∈((zdA fs wys).map fun k:Nat=>(k:Int))->0<=x/\x<=2^50:=by
  intro x c;simp only[yah]at c;obtain⟨k,f,rfl⟩:=c;obtain⟨i,hi⟩:=yby.mp f;have H:i<fs.length:=by have:=(yi.mp hi).1;rw[zct h]at this;exact this
  have E:=yu H;have d:=yu (show i<wys.length by rw[h.len];exact H);rw[zg9 E d]at hi;cases hi;have:=Wy.w_le (h.at' i _ _ E d);have:=(hs i _ E).2.1
  (clear hn;omega)
 rw[if_pos ⟨hok,by rw[yj,zct h];omega⟩];ac_nf;refine Run.ok ⟨?_,rfl⟩;congr 1;generalize zdA fs wys=l;induction l with
 |nil=>rfl|cons x l I=>simp only[yE,ycT,I];(clear I hn;omega)
def encO:Option (Nat×Int)->D
 |none=>.non|some (j,t)=>.tup [.int j,.int t]
def FO(hd td:List Int):Option (Nat×Int)->Prop
 |none=>∀i:Nat,td[i]?=hd[i]?|some (j,t)=>td[j]?=aa t/\hd[j]?≠aa t/\∀i:Nat,i<j->td[i]?=hd[i]?
variable{td:List Int}
theorem FO.uniq{o o':Option (Nat×Int)}(h:FO hd td o)(h':FO hd td o'):o=o':=by
 match o,o',h,h' with
 |none,ab,_,_=>rfl|none,aa (j,t),h,h'=>exact absurd (by rw[<- h j];exact h'.1) h'.2.1|some (j,t),ab,h',h=>exact absurd (by rw[<- h j];exact h'.1) h'.2.1|some (j,t),aa (J,t'),h,h'=>
  rcases yde j J with H|H|H
  ·exact absurd (by rw[<- h'.2.2 j H];exact h.1) h.2.1
  ·subst H;have:=h.1.symm.trans h'.1;cases this;rfl
  ·exact absurd (by rw[<- h.2.2 J H];exact h'.1) h'.2.1
theorem ziD(hl:td.length=hd.length):Run (zc1 [.tup (hd.map D.int),.tup (td.map D.int)] m) fun a m'=>∃o,a=encO o/\FO hd td o/\m'=m:=by
 unfold zc1 zgN;ac_nf;refine Run.bind (zj8 (fun k ρ m'=>(∃X x,ρ = [aa (.tup (hd.map D.int)),aa (.tup (td.map D.int)),X,x])/\(∀i:Nat,i<k->td[i]?=hd[i]?)/\m'=m) (fun v m'=>∃j t,v=encO (aa (j,t))/\FO hd td (aa (j,t))/\m'=m) _ 0 ⟨⟨_,_,rfl⟩,fun i h=>by(clear hl;omega),rfl⟩ ?_) ?_
 ·rintro i d ρ m' c ⟨⟨X,x,rfl⟩,H,rfl⟩;obtain⟨t,E,rfl⟩:=zfh c;rw[yL]at H ⊢;have hi:i<td.length:=(yi.mp E).1;have e:=yu (show i<hd.length by omega);erw [zdH e];ac_nf;by_cases h:t=hd[i]'(by omega)
  ·rw[decide_eq_true h];ac_nf;refine Run.ok (.inl ⟨_,rfl,⟨_,_,rfl⟩,fun j g=>?_,rfl⟩);rcases ybe j i with b|b
   ·exact H j b
   ·have:j=i:=by(clear h;omega)
    subst this;rw[E,e,h]
  ·rw[decide_eq_false h];ac_nf;exact Run.ok (.inr ⟨_,rfl,i,t,rfl,⟨E,fun z=>h (by rw[e]at z;cases z;rfl),H⟩,rfl⟩)
 ·rintro _ m' h;rcases h with⟨ρ,rfl,⟨X,x,rfl⟩,H,rfl⟩|⟨v,rfl,j,t,rfl,f,rfl⟩
  ·ac_nf;refine Run.ok ⟨ab,rfl,fun i=>?_,rfl⟩;rw[yL,zdN]at H;rcases ybe i td.length with hi|hi
   ·exact H i hi
   ·rw[ybW hi,ybW (by omega)]
  ·ac_nf;exact Run.ok ⟨_,rfl,f,rfl⟩
def zpg:Option (Nat×Nat×Int)->D
 |none=>.non|some (k,j,t)=>.tup [.int k,.int j,.int t]
def tdV(fs:List Fd)(wys:List Wy)(hd:List Int)(x:Int×List Int):List Int:=hdV fs wys x.2 x.1 (pcK fs wys hd fs.length) fs.length
def DB(fs:List Fd)(wys:List Wy)(hd:List Int)(fm:List (Int×List Int)):Option (Nat×Nat×Int)->Prop
 |none=>∀(i:Nat)(x:Int×List Int),fm[i]?=aa x->FO hd (tdV fs wys hd x) ab|some (k,j,t)=>(∃x,fm[k]?=aa x/\FO hd (tdV fs wys hd x) (aa (j,t)))/\∀(i:Nat)(x:Int×List Int),i<k->fm[i]?=aa x->FO hd (tdV fs wys hd x) ab
variable{fm:List (Int×List Int)}
theorem zsa{fs:List Fd}{b:Int}(hs:zoq fs)(hn:fs.length<=12)(q:WyOk fs wys)(r:HdOk fs hd)(h:∀p∈fm,HdOk fs p.2) : Run (zlr [shD fs n,fmD a b wys,.tup (hd.map D.int),.tup (fm.map fmE)] m) fun x m'=>∃o,x=zpg o/\DB fs wys hd fm o/\m'=m:=by
 obtain⟨hl,f⟩:=zvL hs hn q r;unfold zlr zrV;erw [zas (zeH hs hn q r)];ac_nf;refine Run.bind (zj8 (fun k ρ m'=>(∃x5 x6 g X,ρ = [aa (shD fs n),aa (fmD a b wys),aa (.tup (hd.map D.int)),aa (.tup (fm.map fmE)),aa (.str ⟨(pcK fs wys hd fs.length).toArray⟩),x5,x6,g,X])/\(∀i x,i<k->fm[i]?=aa x->FO hd (tdV fs wys hd x) ab)/\m'=m) (fun v m'=>∃o,v=zpg o/\DB fs wys hd fm o/\m'=m) _ 0 ⟨⟨_,_,_,_,rfl⟩,fun i x h=>by(clear f hl hn;omega),rfl⟩ ?_) ?_
 ·rintro i d ρ m' s ⟨⟨x5,x6,g,X,rfl⟩,e,rfl⟩;obtain⟨x,E,rfl⟩:=zfh s;rw[yL]at e ⊢;unfold fmE;erw [zas (ziP hs hn q (h x (yai E)) (zmn fs.length) hl f)];ac_nf;refine Run.bind (ziD (by rw[zka,r.len])) ?_;rintro _ m' ⟨o,rfl,H,rfl⟩
  match o,H with
  |none,H=>
   unfold encO;erw [isnt_nn];ac_nf;refine Run.ok (.inl ⟨_,rfl,⟨_,_,_,_,rfl⟩,fun j y w l=>?_,rfl⟩);rcases ybe j i with c|c
   ·exact e j y c l
   ·have:j=i:=by(clear f hl hn;omega)
    subst this;rw[E]at l;cases l;exact H
  |some (j,t),H=>
   unfold encO;erw [zwk];erw [add_t (by simp;exact ybk (zbC (by(clear f hl hn;omega))))];ac_nf;exact Run.ok (.inr ⟨_,rfl,aa (i,j,t),rfl,⟨⟨x,E,H⟩,e⟩,rfl⟩)
 ·rintro _ m' h';rcases h' with⟨ρ,rfl,⟨x5,x6,g,X,rfl⟩,e,rfl⟩|⟨v,rfl,o,rfl,H,rfl⟩
  ·ac_nf;refine Run.ok ⟨ab,rfl,fun i x u=>e i x ?_ u,rfl⟩;rw[yL,zdN];exact(yi.mp u).1
  ·ac_nf;exact Run.ok ⟨o,rfl,H,rfl⟩
theorem zwi{fs:List Fd}:ixD (shD fs n) (.int 0) m = .ok (.tup (fs.map Fd.e)) m:=ix_t0 _ _
open PySem L2
theorem DB.uniq{fs:List Fd}{o o':Option (Nat×Nat×Int)}(h:DB fs wys hd fm o)(h':DB fs wys hd fm o'):o=o':=by
 have n:∀ {k j t K J t'},k<K->DB fs wys hd fm (aa (k,j,t))->DB fs wys hd fm (aa (K,J,t'))->False:=by
  intro k j t K J t' c a b;obtain⟨⟨x,H,q⟩,_⟩:=a;have:=FO.uniq q (b.2 k x c H);cases this
 match o,o',h,h' with
 |none,ab,_,_=>rfl|none,aa (k,j,t),h,⟨⟨x,H,q⟩,_⟩=>exact(nomatch (FO.uniq q (h k x H)))|some (k,j,t),ab,⟨⟨x,H,q⟩,_⟩,h=>exact(nomatch (FO.uniq q (h k x H)))|some (k,j,t),aa (K,J,t'),h,h'=>
  rcases yde k K with c|c|c
  ·exact(n c h h').elim
  ·subst c;obtain⟨⟨x,H,q⟩,_⟩:=h;obtain⟨⟨y,d,Q⟩,_⟩:=h';rw[H]at d;cases d;cases FO.uniq q Q;rfl
  ·exact(n c h' h).elim
theorem ne_lst(ns M:List Int):neD (.lst (ns.map D.int)) (.lst (M.map D.int)) m = .ok (.bl (!decide (ns=M))) m:=by
 simp only[neD,rs,zr3]
open PySem L2
theorem zcG{l:Sto}(h:m[r]?=aa o):(m++l)[r]?=aa o:=by
 rw[yab (yi.mp h).1];exact h
theorem new_of(h:xs.length<=1000):zfE xs m = .ok (.ob m.length) (m++[.lst xs]):=if_pos (yO h (by decide))
theorem zpG(h:xs.length<=1000):zbr xs m = .ok (.tup xs) m:=if_pos (yO h (by decide))
theorem zuD(xs:List τ)(k:Nat):zmX xs ab (aa (k:Int))=xs.take k:=by
 unfold zmX;rw[HT.sIx_nat,HT.sIx_none,ybM,Nat.sub_zero];rcases Nat.le_total k xs.length with h|h
 ·rw[Nat.min_eq_left h]
 ·rw[Nat.min_eq_right h,ych,ybu h]
theorem mul_t(h:1<=n/\n<=1000):zez (.tup [d]) (.int n) m = .ok (.tup (yn n.toNat d)) m:=by rw[zhL];exact if_pos h
open PySem L2
def kGI3(ρ : En):Unit->Sto->Res En:=fun _ m=>.ok ρ m
def kGI2(ρ : En)(d x:D):D->Sto->Res En:=fun y m=>(putL x y d m).bind (kGI3 ρ)
def kGI1(fi:EV)(ρ : En)(d:D):D->Sto->Res En:=fun x m=>(fi ρ m).bind (kGI2 ρ d x)
variable{y:D}{fi:EV}
section
variable{x:D}{fo:EV}
theorem gI_at:gI fo fi d ρ m=(fo ρ m).bind (kGI1 fi ρ d):=rfl
theorem zrw:kGI1 fi ρ d x m=(fi ρ m).bind (kGI2 ρ d x):=rfl
theorem zrv:kGI2 ρ d x y m=(putL x y d m).bind (kGI3 ρ):=rfl
theorem zwd:kGI3 ρ () m = .ok ρ m:=rfl
theorem lst_6(a b c e f g:D):zcZ [a,b,c,e,f,g] m = .ok (.lst [a,b,c,e,f,g]) m:=if_pos (zbW (by simp))
theorem ztI(a b c e f g i:D):zcZ [a,b,c,e,f,g,i] m = .ok (.lst [a,b,c,e,f,g,i]) m:=if_pos (zbW (by simp))
end
theorem alpha(h:j<26):ixD (.str "abcdefghijklmnopqrstuvwxyz") (.int j) m = .ok (.str ⟨#[97+j]⟩) m:=by
 have H:∀j,j<26->(yaa "abcdefghijklmnopqrstuvwxyz").cps.toList[j]?=aa (97+j):=by decide
 have e:ixD (.str "abcdefghijklmnopqrstuvwxyz") (.int j) m=if (yaa "abcdefghijklmnopqrstuvwxyz").length<=sizeLine then opt ((L2.atI (yaa "abcdefghijklmnopqrstuvwxyz").cps.toList j).map fun c=>D.str ⟨#[c]⟩) m else .bad:=rfl
 rw[e,if_pos (by decide),zgw,H j h];rfl
theorem add_ss{a b:ae}(h:a.length+b.length<=sizeLine):zbN (.str a) (.str b) m = .ok (.str (a++b)) m:=if_pos h
theorem zsx{n:Nat}(h:(zdj 0 n)[i]?=aa d):d = .int (i:Nat):=by
 have hi:=(yi.mp h).1;rw[zbm]at hi;simp only[zdj,yW,ybR hi,yaL,yaP,ybT]at h;exact h.symm
theorem zvV{y d:Int}(h:(2:Int)^b∣(2*y+1)*d):(2:Int)^b∣d:=by
 induction b generalizing d with
 |zero=>simp|succ b i=>
  obtain⟨c,H⟩:=h;rw[ybU]at H;have j:d%2=0:=by
   have a:(2*y+1)*d=2*(y*d)+d:=by rw[ycU,ybi,Int.one_mul]
   have E:2^b*2*c=2*(2^b*c):=by rw[ybg (2^b) 2,ybi]
   rw[a,E]at H;generalize y*d=u at H;generalize (2:Int)^b*c=w at H;omega
  obtain⟨d',rfl⟩:∃d',d=2*d':=⟨d/2,by omega⟩;have g:(2:Int)^b∣(2*y+1)*d':=by
   refine⟨c,?_⟩;have a:(2*y+1)*(2*d')=2*((2*y+1)*d'):=by rw[Int.mul_left_comm]
   have E:2^b*2*c=2*(2^b*c):=by rw[ybg (2^b) 2,ybi]
   rw[a,E]at H;omega
  obtain⟨e,f⟩:=i g;exact⟨e,by rw[f,ybU,ybg (2^b) 2,ybi]⟩
theorem zu5{f y:Int}(hi:(i:Int)<2^b)(d:(j:Int)<2^b)(h:(f+(2*y+1)*i)%2^b=(f+(2*y+1)*j)%2^b):i=j:=by
 have a:(2:Int)^b∣(2*y+1)*((i:Int)-j):=by
  have:=Int.dvd_of_emod_eq_zero (Int.emod_eq_emod_iff_emod_sub_eq_zero.mp h);rw[show f+(2*y+1)*i-(f+(2*y+1)*j)=(2*y+1)*((i:Int)-j) by rw[Int.mul_sub];omega]at this;exact this
 obtain⟨c,e⟩:=zvV a;have g:=p2 b;generalize (2:Int)^b=B at *;rcases Int.lt_trichotomy c 0 with H|H|H
 ·have:B*c<=B*(-1):=yeb (by omega) (by omega);omega
 ·subst H;omega
 ·have:B*1<=B*c:=yeb (by omega) (by omega);omega
theorem zq6{c : Type}[DecidableEq c](g:Nat -> c):∀n,(∀i j,i<n->j<n->g i=g j->i=j)->((yJ n).map g).Nodup:=fun n h=>by
 rw[List.Nodup,yec];have:=List.nodup_range (n:=n);refine List.Pairwise.imp_of_mem ?_ this;intro a b ha d H e;exact H (h a b (yaI.mp ha) (yaI.mp d) e)
def Kd.Ok2(pl b:Nat)(k:Kd):Prop:=k.Ok pl b/\∀row,k = .turn row->2<=row.length/\row.Nodup
theorem zwA(bs:List Bool):allF [.lst (bs.map D.bl)] m = .ok (.bl (bs.all id)) m:=by
 simp only[allF,lOf,yaS];rw[zie (fun b=>b)];simp
theorem add_tt{a b:List D}(h:a.length+b.length<=sizeLine):zbN (.tup a) (.tup b) m = .ok (.tup (a++b)) m:=if_pos h
theorem slen{n:Nat}(h:n<=100):n<=sizeLine:=yO h (by decide)
open PySem L2
def chB(c:Nat):Bool:=decide (97<=c/\c<=122)
def nmB(x:ae):Bool:=decide (1<=x.length/\x.length<=8)&&x.cps.toList.all chB
structure ShG(fs:List Fd):Prop where
 at':∀(i:Nat)(f:Fd),fs[i]?=aa f->0<f.b/\f.b<=40/\f.kd.Ok2 i f.b
 nm:∀x∈fs.map Fd.nm,nmB x=ac/\x.length<=8
 nd:(fs.map Fd.nm).Nodup
theorem ShG.ok{fs:List Fd}(h:ShG fs):zoq fs:=fun i f H=>let ⟨a,b,c⟩:=h.at' i f H;⟨a,b,c.1⟩
open PySem L2
def zm3(q:Nat)(seed turn:Int):List (L2.Key×D):=[(yaG "own", .ob q),(yaG "seed", .int seed),(yaG "turn", .int turn)]
structure P3(m0:Sto)(p q:Nat)(c:Nat)(m:Sto):Prop where
 ex:∃(own:List Int)(seed turn:Int),m[p]?=aa (.dct (zm3 q seed turn))/\m[q]?=aa (.lst (own.map D.int))/\p≠q/\own.length<=63/\(∀a∈own,0<=a)/\0<=seed/\seed<2^62/\0<=turn/\turn<=c
 fr:Fr p q m0 m
variable{m0:Sto}{c':Nat}
theorem P3.more(h:P3 m0 p q c m)(k:c<=c'):P3 m0 p q c' m:=by
 obtain⟨own,s,t,i,g,e,d,f,b,a,H,j⟩:=h.ex;exact⟨⟨own,s,t,i,g,e,d,f,b,a,H,by(clear H a b d e;omega)⟩,h.fr⟩
theorem P3.re(h:P3 m0 p q c m):P3 m p q c m:=⟨h.ex,Fr.refl⟩
variable{m':Sto}
theorem P3.via(h:P3 m0 p q c m)(h':P3 m p q c' m'):P3 m0 p q c' m':=⟨h'.ex,h.fr.trans h'.fr⟩
theorem P3.lt(h:P3 m0 p q c m):p<m.length/\q<m.length:=by
 obtain⟨own,s,t,a,H,_⟩:=h.ex;exact⟨(yi.mp a).1,(yi.mp H).1⟩
theorem P3.app{r:Sto}(h:P3 m0 p q c m):P3 m0 p q c (m++r):=by
 obtain⟨own,s,t,e,H,f⟩:=h.ex;exact⟨⟨own,s,t,by rw[yab (yi.mp e).1];exact e,by rw[yab (yi.mp H).1];exact H,f⟩,by rw[yI];exact yO h.fr.len (ybv _ _),fun j a b d=>by rw[yab (yQ a h.fr.len)];exact h.fr.at' j a b d⟩
theorem P3.set(h:P3 m0 p q c m)(i:m0.length<=r)(f:r≠p)(e:r≠q):P3 m0 p q c (m.set r o):=by
 obtain⟨own,s,t,g1,g,H⟩:=h.ex;exact⟨⟨own,s,t,by rw[zaO f];exact g1,by rw[zaO e];exact g,H⟩,by rw[yaw];exact h.fr.len,fun j a b d=>by rw[zaO (by omega)];exact h.fr.at' j a b d⟩
theorem P3.kept(h:P3 m p q c m')(hr:m[r]?=aa o)(a:r≠p)(H:r≠q):m'[r]?=aa o:=by
 rw[h.fr.at' r (yi.mp hr).1 a H];exact hr
theorem zgx(q:Nat)(s t:Int):zgQ (zm3 q s t) (.inr "own")=aa (.ob q):=rfl
theorem zuJ(q:Nat)(s t:Int):zgQ (zm3 q s t) (.inr "seed")=aa (.int s):=rfl
theorem zpy(q:Nat)(s t:Int):zgQ (zm3 q s t) (.inr "turn")=aa (.int t):=rfl
theorem zvM(q:Nat)(s t v:Int):zjM (zm3 q s t) (.inr "turn") (.int v)=zm3 q s v:=rfl
theorem zt4(q:Nat)(s t:Int):(zm3 q s t).length<sizeLine:=by show 3<sizeLine;decide
def zvN:TV:=by walk_at "#rWqos~rwlqnEu17"
def ownB:SV:=by walk_at "#t+s~q[%"
theorem znQ(h:m[q]?=aa (.lst (own.map D.int))):neD (.ob q) (.lst []) m = .ok (.bl (!decide (own=[]))) m:=by
 have e:=zr3 own [];rw[yba]at e;simp only[neD,rs,h,e]
theorem zrE(h:m[q]?=aa (.lst ((a::own).map D.int))):ixD (.ob q) (.int 0) m = .ok (.int a) m:=by
 simp only[ixD,h];show opt (atI _ ((0:Nat):Int)) m=_;rw[zgw];rfl
theorem znM{p q:Nat}{seed turn:Int}{ρ : En}:∀(own:List Int)(n:Nat)(m:Sto),own.length<n->m[p]?=aa (.dct (zm3 q seed turn))->m[q]?=aa (.lst (own.map D.int))->p≠q →
  Run (zgk zvN ownB n (aa (.ob p)::ρ) m) fun f m'=>f = .nx (aa (.ob p)::ρ)/\∃o:List Int,(o=[]∨∃a r,o=a::r/\a≠0)/\(∀a∈o,a∈own)/\o.length<=own.length/\m'[p]?=aa (.dct (zm3 q seed turn))/\m'[q]?=aa (.lst (o.map D.int))/\Fr p q m m'
 |own,0,m,h,_,_,_=>absurd h (ydf _)|[],n+1,m,h,h1,h2,H=>by
  rw[zgk];have e:zvN (aa (.ob p)::ρ) m = .ok ag m:=by
   unfold zvN;erw [zeh h1 (zgx _ _ _)];erw [znQ (own:=[]) h2];rfl
  rw[e,bind_ok,if_neg (by decide)];exact Run.ok ⟨rfl,[],.inl rfl,fun _ h=>h,yh _,h1,h2,Fr.refl⟩
 |a::own,n+1,m,h,h1,h2,H=>by
  rw[zgk];have e:zvN (aa (.ob p)::ρ) m = .ok (decide (a=0)) m:=by
   unfold zvN;erw [zeh h1 (zgx _ _ _)];erw [znQ h2];rw[decide_eq_false (by simp)];erw [zeh h1 (zgx _ _ _)];erw [zrE h2];ac_nf
  rw[e,bind_ok];by_cases b:a=0
  ·rw[if_pos (decide_eq_true b)];have E:ownB (aa (.ob p)::ρ) m = .ok (.nx (aa (.ob p)::ρ)) (m.set q (.lst (own.map D.int))):=by
    unfold ownB;erw [zeh h1 (zgx _ _ _)];erw [if_pos (show zbM (.ob q) m=ac by simp only[zbM,h2])];erw [zqp h2];ac_nf
   rw[E,bind_ok];refine Run.mono (znM own n (m.set q (.lst (own.map D.int))) (by simp at h;omega) (by rw[zaO (Ne.symm H)];exact h1) (zaR h2) H) ?_;rintro f m' ⟨rfl,o,g1,i,g3,d,G,g⟩;exact⟨rfl,o,g1,fun x c=>yag _ (i x c),by simp;omega,d,G,Fr.set'.trans g⟩
  ·rw[if_neg (by simp[b])];exact Run.ok ⟨rfl,a::own,.inr ⟨a,own,rfl,b⟩,fun _ h=>h,yh _,h1,h2,Fr.refl⟩
theorem zln:zlo=(zar (zhj zke zvN ownB)
 (zar (sIf (tV (eOp neD (eOp ixD (zad 0) (eC (.str "own"))) (eFn zcZ zaj)))
 (zar (zaJ (eOp zfv (eOp ixD (eOp ixD (zad 0) (eC (.str "own"))) (eC (.int 0))) (zad 1)) (gN 2))
 (zar (zaJ (eOp zlv (eOp ixD (eOp ixD (zad 0) (eC (.str "own"))) (eC (.int 0))) (zad 1)) (gI (eOp ixD (zad 0) (eC (.str "own"))) (eC (.int 0))))
 (zaE (zad 2))))
 za3)
 (zar (zoJ (zad 0) (eC (.str "turn")) (eOp zbN (eOp ixD (zad 0) (eC (.str "turn"))) (eC (.int 1))))
 (zar (zaJ (eOp ixD (zad 0) (eC (.str "turn"))) (gN 3))
 (zar (zaJ (eOp zbN (eOp zbN (eOp ixD (zad 0) (eC (.str "seed"))) (eOp zez (eOp zez (zad 3) (zad 3)) (eC (.int 7919)))) (eOp zez (zad 3) (eC (.int 104729)))) (gN 4))
 (zar (zaJ (eOp zfv (eOp zez (zad 4) (eC (.int 48271))) (eC (.int 2305843009213693921))) (gN 4))
 (zar (zaJ (eOp zfv (eOp zez (zad 4) (eOp zbN (eOp zfv (zad 4) (eC (.int 1000003))) (eC (.int 69621)))) (eC (.int 2305843009213693907))) (gN 4))
 (zaE (eOp zfv (eOp zlv (zad 4) (eC (.int 65537))) (zad 1)))))))))):=rfl
theorem zvk{b:Int}(h:m[q]?=aa (.lst ((a::own).map D.int))):putL (.ob q) (.int 0) (.int b) m = .ok () (m.set q (.lst ((b::own).map D.int))):=by
 have e:ixN ((a::own).map D.int).length 0=aa 0:=by
  unfold ixN;rw[if_pos (by decide),if_pos (by simp)];rfl
 simp only[putL,h,e];rfl
theorem znh{n:Nat}{t:TV}{b:SV}:zhj n t b ρ m=zgk t b n ρ m:=rfl
theorem zaQ{k:Int}(y:P3 m0 p q c m)(E:c<2^40)(K:0<k)(w:k<2^64) : Run (zaC [.ob p,.int k] m) fun a m'=>∃d:Int,a = .int d/\0<=d/\d<k/\P3 m p q (c+1) m':=by
 obtain⟨own,s,t,C,B,e,n,l,j,i,A,F⟩:=y.ex;unfold zaC;rw[zln,run_at];show Run (Res.bind (zar (zhj zke zvN ownB) _ (aa (.ob p)::[aa (.int k),ab,ab,ab]) m) zi8) _;rw[seq_at,znh,bind_then];refine Run.bind (znM (ρ := [aa (.int k),ab,ab,ab]) own zke m (ycO n (by decide)) C B e) ?_;rintro _ m1 ⟨rfl,o,g1,v,g3,g,G,u⟩;erw [zeh g (zgx _ _ _)];erw [znQ G];rcases g1 with rfl|⟨a,r,rfl,a0⟩
 ·rw[decide_eq_true rfl];erw [zeh g (zpy _ _ _)];erw [zvl g (zt4 _ _ _),zvM];have H:(m1.set p (.dct (zm3 q s (t+1))))[p]?=aa (.dct (zm3 q s (t+1))):=zaR g;have b:(m1.set p (.dct (zm3 q s (t+1))))[q]?=aa (.lst (([]:List Int).map D.int)):=by rw[zaO e];exact G
  have f2:Fr p q m (m1.set p (.dct (zm3 q s (t+1)))):=u.trans Fr.set;generalize z:m1.set p (.dct (zm3 q s (t+1)))=m2 at H b f2;erw [zeh H (zpy _ _ _)];erw [zeh H (zuJ _ _ _)];erw [ziA ⟨by omega,by omega⟩];erw [zmE ⟨by decide,by decide⟩];erw [ziA ⟨by omega,by omega⟩];erw [zmE ⟨by decide,by decide⟩];erw [zcV (by decide)];ac_nf;rw[zcV (by decide)];erw [zmE (zrd _)];erw [zcV (by decide)];erw [zws ⟨by decide,by decide⟩];erw [zcV K];ac_nf;exact Run.ok ⟨_,rfl,yau _ (by omega),yax _ K,⟨⟨[],s,t+1,H,b,e,by decide,fun _ h=>(nomatch h),j,i,by omega,by omega⟩,f2⟩⟩
 ·rw[decide_eq_false (by simp)];erw [zeh g (zgx _ _ _)];erw [zrE G];erw [zcV K];erw [zeh g (zgx _ _ _)];erw [zrE G];erw [zws ⟨K,w⟩];ac_nf;simp only[gI_at,zrw,zrv,bind_ok,bind_then,eC_at,op_at,kop_at,var_0];rw[zeh g (zgx _ _ _)];simp only[bind_ok,then_at,zrw,zrv,eC_at,bind_then];rw[zvk G];simp only[bind_ok,then_at,zwd];ac_nf;have ha:0<=a:=l a (v a (by simp));exact Run.ok ⟨_,rfl,yau _ (by omega),yax _ K,⟨⟨a/k::r,s,t,by rw[zaO (Ne.symm e)];exact g,zaR G,e,yO g3 n,fun x f=>by
   rcases yB.mp f with rfl|f
   ·exact Int.ediv_nonneg ha (by omega)
   ·exact l x (v x (yag _ f)),j,i,A,by omega⟩,u.trans Fr.set'⟩⟩
theorem zcv(b:P3 m0 p q c m)(f:c<2^40)(j:0<xs.length)(i:xs.length<1000) : Run (zaK [.ob p,.lst xs] m) fun a m'=>a∈xs/\P3 m p q (c+1) m':=by
 unfold zaK zrS;ac_nf;refine Run.bind (zaQ b f (by omega) (by omega)) ?_;rintro _ m1 ⟨d,rfl,g,D,h⟩;ac_nf;obtain⟨x,H,e⟩:=zus (m:=m1) (xs:=xs) g D;rw[e];exact Run.ok ⟨H,h⟩
theorem zfW(j:P3 m0 p q c m)(l:c+2<2^40)(k:b<=40) : Run (zbI [.ob p,.int b] m) fun a m'=>∃v:Int,a = .int v/\0<=v/\v<2^b/\P3 m p q (c+2) m':=by
 have g:=p2 b;have f:=p2lt k;unfold zbI zh1;erw [zeR (by omega)];erw [zeR (by omega)];ac_nf;refine Run.bind (zaQ j (by omega) g f) ?_;rintro _ m1 ⟨x,rfl,X,x1,h⟩;ac_nf;refine Run.bind (zaQ h (by omega) (by decide) (by decide)) ?_;rintro _ m2 ⟨y,rfl,i,Y,d⟩;ac_nf;obtain⟨v,hv,e⟩:=zus (m:=m2) (xs:=[.int 0,.int 1,.int (2^b-1),.int x]) i Y;rw[e];ac_nf;have H:∃n:Int,v = .int n:=by
  simp only[yB,y9,or_false]at hv;rcases hv with rfl|rfl|rfl|rfl <;> exact⟨_,rfl⟩
 obtain⟨n,rfl⟩:=H;rw[zeR (by omega)];erw [zcV g];ac_nf;exact Run.ok ⟨_,rfl,yau _ (by omega),yax _ g,h.via d⟩
theorem ztB(n:Int):zv0 (.int n) m = .ok (.int (-n)) m:=rfl
theorem zru{pl:Nat}(F:P3 m0 p q c m)(Q:c+8<2^40)(J:0<b)(s:b<=40)(E:pl<=100) : Run (zem [.ob p,.int pl,.int b] m) fun a m'=>∃kd:Kd,a=kd.e/\kd.Ok2 pl b/\P3 m p q (c+8) m':=by
 have r:=p2 b;have o:=p2lt s;have G:=p2le s;have I:(2:Int)<=2^b:=by
  have:=yc9 (n:=2) (by decide) J
  exact_mod_cast this
 unfold zem zi1;ac_nf;refine Run.bind (zaQ F (by omega) (by decide) (by decide)) ?_;rintro _ m1 ⟨w,rfl,w0,w1,H⟩;ac_nf;by_cases c1:w<2
 ·rw[if_pos c1];ac_nf;exact Run.ok ⟨.still,rfl,⟨trivial,fun _ h=>by cases h⟩,H.more (by omega)⟩
 rw[if_neg c1];ac_nf;by_cases A:w<4
 ·rw[if_pos A];ac_nf;refine Run.bind (zfW H (by omega) s) ?_;rintro _ m2 ⟨x,rfl,X,x1,f⟩;ac_nf;exact Run.ok ⟨.step x,rfl,⟨⟨X,x1⟩,fun _ h=>by cases h⟩,(H.via f).more (by omega)⟩
 rw[if_neg A];ac_nf;by_cases u:w=4
 ·rw[if_pos u];ac_nf;refine Run.bind (zaQ H (by omega) (by decide) (by decide)) ?_;rintro _ m2 ⟨x,rfl,X,x1,f⟩;erw [zeR (by omega)];erw [zeR (by omega)];ac_nf;refine Run.bind (zaQ f (by omega) r o) ?_;rintro _ D ⟨y,rfl,B,Y,g⟩;ac_nf;refine Run.bind (zaQ g (by omega) (by decide) (by decide)) ?_;rintro _ M ⟨z,rfl,L,Z,k⟩;erw [ziA ⟨by decide,by decide⟩];ac_nf;generalize hn:(if (2:Int)^b<2+x then (2:Int)^b else 2+x)=n;have n0:2<=n:=by rw[<- hn];split <;> omega
  have n1:n<=12:=by rw[<- hn];split <;> omega
  have O:n<=2^b:=by rw[<- hn];split <;> omega
  clear hn;obtain⟨N,rfl⟩:∃N:Nat,n=N:=⟨n.toNat,by omega⟩;rw[zcc (ds:=zdj 0 N) (fun d=>match d with | .int i=>.int ((y+(2*z+1)*i)%2^b) | _=>.non)]
  ·ac_nf;refine Run.ok ⟨.turn ((yJ N).map fun i:Nat=>(y+(2*z+1)*(i:Int))%2^b),?_,⟨⟨?_,by simp;omega,?_⟩,fun row h=>?_⟩,(H.via (f.via (g.via k))).more (by omega)⟩
   ·simp only[Kd.e,zdj,yaf,ybT];rfl
   ·intro h;have:=congrArg ya8 h;simp at this;omega
   ·intro v hv;simp only[yah]at hv;obtain⟨i,_,rfl⟩:=hv;exact⟨yau _ (by omega),yax _ r⟩
   ·cases h;exact⟨by simp;omega,zq6 _ _ fun i j hi P e=>zu5 (by omega) (by omega) e⟩
  ·erw [zhw (by omega) (by omega)];rfl
  ·rw[zbm];omega
  ·intro d hd;simp only[zdj,yah]at hd;obtain⟨i,hi,rfl⟩:=hd;refine⟨_,rfl,?_⟩;show eOp zfv (eOp zbN (zad 5) (eOp zez (zad 6) (zad 8))) (eOp zjq (eC (.int 1)) (zad 2)) [aa (.ob p),aa (.int pl),aa (.int b),aa (.int w),aa (.int N),aa (.int y),aa (.int (2*z+1)),ab,aa (.int (0+(i:Nat)))] M=_;erw [ziA ⟨by omega,by omega⟩];erw [zeR (by omega)];erw [zcV r]
 rw[if_neg u];ac_nf;by_cases K:w<7/\0<pl
 ·rw[if_pos K.1];rw[decide_eq_true (show (0:Int)<(pl:Nat) by omega)];erw [ztB];erw [ztB];ac_nf;refine Run.bind (zaQ H (by omega) (by decide) (by decide)) ?_;rintro _ m2 ⟨x,rfl,X,x1,f⟩;erw [ztI];ac_nf;refine Run.bind (zaQ f (by omega) (by omega) (by omega)) ?_;rintro _ D ⟨y,rfl,B,Y,g⟩;ac_nf;refine Run.bind (zcv g (by omega) (by simp) (by simp)) ?_;rintro v M ⟨hv,k⟩;ac_nf;obtain⟨i,rfl⟩:∃i:Nat,y=i:=⟨y.toNat,by omega⟩;have l:∃t:Int,v = .int t /\ -99<=t/\t<=99:=by
   simp only[yB,y9,or_false]at hv;rcases hv with rfl|rfl|rfl|rfl|rfl|rfl|rfl <;> exact⟨_,rfl,by omega,by omega⟩
  obtain⟨t,rfl,t0,t1⟩:=l;exact Run.ok ⟨.wth i t,rfl,⟨⟨by omega,t0,t1⟩,fun _ h=>by cases h⟩,(H.via (f.via (g.via k))).more (by omega)⟩
 ·have hd:Run (Res.bind (zar za3 (zaE (eFn zbr (zac (eC (.str "drawn")) zaj))) [aa (.ob p),aa (.int pl),aa (.int b),aa (.int w),ab,ab,ab,ab] m1) zi8) fun a m'=>∃kd:Kd,a=kd.e/\kd.Ok2 pl b/\P3 m p q (c+8) m':=by
   ac_nf;exact Run.ok ⟨.drawn,rfl,⟨trivial,fun _ h=>by cases h⟩,H.more (by omega)⟩
  by_cases C:w<7
  ·rw[if_pos C];rw[decide_eq_false (show ¬ (0:Int)<(pl:Nat) by omega)];ac_nf;exact Run.ok ⟨.drawn,rfl,⟨trivial,fun _ h=>by cases h⟩,H.more (by omega)⟩
  ·rw[if_neg C];ac_nf;exact Run.ok ⟨.drawn,rfl,⟨trivial,fun _ h=>by cases h⟩,H.more (by omega)⟩
theorem znz(c:Nat):∀(k:Nat)(a:Array Nat),((yn k #[c]).foldl (· ++ ·) a).toList=a.toList++yn k c
 |0,a=>by simp|k+1,a=>by
  rw[ybr,ybs,znz c k];simp[ybr]
theorem mul_one{n:Nat}(h:1<=n):(Txt.mul ⟨#[c]⟩ (n:Nat)).cps.toList=yn n c:=by
 unfold Txt.mul;rw[if_neg (by omega)];split
 ·rename_i H;have:n=1:=by
   rw[ybL]at H;rcases H with H|H
   ·have:=eq_of_beq H;omega
   ·exact absurd (eq_of_beq H) (by show ¬ 1=0;decide)
  subst this;rfl
 ·show ((yn (n:Int).toNat #[c]).foldl (· ++ ·) #[]).toList=_;rw[znz];simp
theorem nm_mul{n:Nat}(b:j<26)(h:1<=n)(a:n<=8):nmB (Txt.mul ⟨#[97+j]⟩ (n:Nat))=ac/\(Txt.mul ⟨#[97+j]⟩ (n:Nat)).length<=8/\(Txt.mul ⟨#[97+j]⟩ (n:Nat)).cps.toList.head?=aa (97+j):=by
 have e:=mul_one (c:=97+j) h;have hl:(Txt.mul ⟨#[97+j]⟩ (n:Nat)).length=n:=by
  show (Txt.mul ⟨#[97+j]⟩ (n:Nat)).cps.size=n;rw[<- ybC,e,ybo]
 refine⟨?_,by omega,?_⟩
 ·unfold nmB;rw[hl,e,decide_eq_true ⟨h,a⟩,Bool.true_and,ybK];intro x H;have:=(ycq.mp H).2;subst this;simp only[chB,decide_eq_true_eq];omega
 ·rw[e];cases n with
  |zero=>omega|succ n=>rfl
theorem lst_8(a b c e f g i j:D):zcZ [a,b,c,e,f,g,i,j] m = .ok (.lst [a,b,c,e,f,g,i,j]) m:=if_pos (zbW (by simp))
variable{most:Nat}
theorem zoC(P:P3 m0 p q c m)(Z:c+200<2^40)(R:0<most)(Q:most<=12) : Run (zdu [.ob p,.int most] m) fun a m'=>∃(fs:List Fd)(n:Int),a=shD fs n/\0<n/\n<=1000000/\0<fs.length/\fs.length<=12/\ShG fs/\P3 m p q (c+200) m':=by
 unfold zdu zh2;ac_nf;refine Run.bind (zaQ P (by omega) (by decide) (by decide)) ?_;rintro _ m1 ⟨f,rfl,f0,f1,s⟩;obtain⟨f,rfl⟩:∃U:Nat,f=U:=⟨f.toNat,by omega⟩;erw [zj5];ac_nf;have y:P3 m p q (c+1) (m1++[.lst []]):=s.app;have hr:(m1++[MO.lst []])[m1.length]?=aa (.lst []):=by simp
 have l:m1.length≠p:=yaJ s.lt.1;have H:m1.length≠q:=yaJ s.lt.2;have hr0:m.length<=m1.length:=s.fr.len;generalize m1.length=r at hr l H hr0 ⊢;generalize m1++[MO.lst []]=mA at y hr ⊢;refine Run.bind (zaQ y (by omega) (by omega) (by omega)) ?_;rintro _ m2 ⟨k,rfl,Y,W,C⟩;obtain⟨k,rfl⟩:∃L:Nat,k=L:=⟨k.toNat,by omega⟩;have hr2:=C.kept hr l H;have F:=y.via C;erw [zhw (by omega) (by omega)];ac_nf;refine Run.bind (zbD (fun i ρ m'=>∃(fs:List Fd)(x5 x6 X:Option D),ρ = [aa (.ob p),aa (.int most),aa (.str "abcdefghijklmnopqrstuvwxyz"),aa (.int f),aa (.ob r),x5,x6,X]/\m'[r]?=aa (.lst (fs.map Fd.e))/\fs.length=i/\(∀(j:Nat)(g:Fd),fs[j]?=aa g->(0<g.b/\g.b<=40/\g.kd.Ok2 j g.b)/\nmB g.nm=ac/\g.nm.length<=8/\g.nm.cps.toList.head?=aa (97+(f+3*j)%26))/\P3 m p q (c+2+9*i) m') (zdj 0 (1+(k:Int)).toNat) 0 ⟨[],ab,ab,ab,rfl,hr2,rfl,fun j g h=>by simp at h,F⟩ ?_) ?_
 ·rintro i d ρ K hd ⟨fs,x5,x6,X,rfl,g1,A,g3,z⟩;have hi:=(yi.mp hd).1;rw[zbm]at hi;have:=zsx hd;subst this;rw[yL]at A z ⊢;erw [lst_8];ac_nf;refine Run.bind (zcv z (by omega) (by simp) (by simp)) ?_;rintro v M ⟨hv,o⟩;have w:∃b:Nat,v = .int b/\0<b/\b<=40:=by
   simp only[yB,y9,or_false]at hv;rcases hv with rfl|rfl|rfl|rfl|rfl|rfl|rfl|rfl
   ·exact⟨1,rfl,by decide,by decide⟩
   ·exact⟨2,rfl,by decide,by decide⟩
   ·exact⟨3,rfl,by decide,by decide⟩
   ·exact⟨4,rfl,by decide,by decide⟩
   ·exact⟨5,rfl,by decide,by decide⟩
   ·exact⟨8,rfl,by decide,by decide⟩
   ·exact⟨16,rfl,by decide,by decide⟩
   ·exact⟨40,rfl,by decide,by decide⟩
  obtain⟨b,rfl,b0,b1⟩:=w;erw [ziA ⟨by decide,by decide⟩];erw [zcV (by decide)];erw [show ((f:Int)+3*(i:Nat))%26=(((f+3*i)%26:Nat):Int) by push_cast;rfl,alpha (Nat.mod_lt _ (by decide))];erw [zcV (by decide)];erw [show (1:Int)+((f:Int)+(i:Nat))%8=((1+(f+i)%8:Nat):Int) by push_cast;rfl,mul_s (by rfl) (by omega) (by omega)];ac_nf;have E:=o.kept g1 l H;rw[if_pos (zhQ E)];ac_nf;refine Run.bind (zru o (by omega) b0 b1 (by omega)) ?_;rintro _ V ⟨kd,rfl,S,B⟩;have G:=B.kept E l H;erw [zfR G (by rw[yj];exact zbC (by omega))];ac_nf;obtain⟨n1,J,N⟩:=nm_mul (j:=(f+3*i)%26) (n:=1+(f+i)%8) (Nat.mod_lt _ (by decide)) (by omega) (by omega);refine Run.ok ⟨_,rfl,fs++[⟨Txt.mul ⟨#[97+(f+3*i)%26]⟩ ((1+(f+i)%8:Nat):Int),b,kd⟩],_,_,_,rfl,?_,?_,?_,?_⟩
  ·rw[zaR G,yak];rfl
  ·rw[yI,A];rfl
  ·intro j g u;rcases yde j fs.length with t|t|t
   ·rw[yab t]at u;exact g3 j g u
   ·subst t;simp at u;subst u;exact⟨⟨b0,b1,by rw[A];exact S⟩,n1,J,by rw[A];exact N⟩
   ·rw[ybW (by simp;omega)]at u;cases u
  ·refine P3.set ((z.via (o.via B)).more (by omega)) hr0 l H
 ·rintro _ K ⟨ρ,rfl,fs,x5,x6,X,rfl,g1,A,g3,z⟩;rw[yL,zbm]at A z;ac_nf;simp only[zkm,g1];erw [pow106];erw [lst_8];ac_nf;refine Run.bind (zcv z (by omega) (by simp) (by simp)) ?_;rintro v M ⟨hv,o⟩;have w:∃n:Int,v = .int n/\0<n/\n<=1000000:=by
   simp only[yB,y9,or_false]at hv;rcases hv with rfl|rfl|rfl|rfl|rfl|rfl|rfl|rfl <;> exact⟨_,rfl,by omega,by omega⟩
  obtain⟨n,rfl,n0,n1⟩:=w;ac_nf;have I:fs.length<=12:=by omega
  refine Run.ok ⟨fs,n,rfl,n0,n1,by omega,I,⟨fun j g h=>(g3 j g h).1,fun x O=>?_,?_⟩,(z.via o).more (by omega)⟩
  ·obtain⟨g,u,rfl⟩:=yah.mp O;obtain⟨j,t⟩:=yby.mp u;exact⟨(g3 j g t).2.1,(g3 j g t).2.2.1⟩
  ·rw[List.Nodup,yec,List.pairwise_iff_getElem];intro i j hi t T e;have a1:=(g3 i fs[i] (yu hi)).2.2.2;have a2:=(g3 j fs[j] (yu t)).2.2.2;rw[e,a2]at a1;have:=yad a1;omega
structure Fm where
 a:Nat
 b:Nat
 wys:List Wy
def Fm.e(f:Fm):D:=fmD f.a f.b f.wys
structure FmOk(fs:List Fd)(f:Fm):Prop where
 a0:0<f.a
 a1:f.a<=40
 b0:0<f.b
 b1:f.b<=40
 wy:WyOk fs f.wys
structure Rd4 where
 skips:Nat
 gap:Nat
 late:Nat
 anew:Nat
def Rd4.e(r:Rd4):D := .tup [.int r.skips,.int r.gap,.int r.late,.int r.anew]
structure RdOk(r:Rd4):Prop where
 s1:r.skips<=39
 g0:r.skips<=r.gap
 g1:r.gap<=400
 l1:r.late<=20
 n1:r.anew<=400
structure Pt where
 fs:List Fd
 n:Int
 wide:Nat
 fms:List Fm
 rd:Rd4
def Pt.e(p:Pt):D := .tup [shD p.fs p.n,.int p.wide,.tup (p.fms.map Fm.e),p.rd.e]
structure PtOk(p:Pt):Prop where
 n0:0<p.n
 n1:p.n<=1000000
 f0:0<p.fs.length
 f1:p.fs.length<=12
 sh:ShG p.fs
 w0:0<p.wide
 w1:p.wide<=40
 fm:∀f∈p.fms,FmOk p.fs f
 fml:p.fms.length<=12
 rd:RdOk p.rd
theorem zsF(g:P3 m0 p q c m)(j:c+5<2^40)(l:0<b)(k:b<=40) : Run (zfF [.ob p,.int b] m) fun a m'=>∃wy:Wy,a=wy.e/\wy.Ok b/\P3 m p q (c+4) m':=by
 unfold zfF zli;ac_nf;refine Run.bind (zaQ g (by omega) (by decide) (by decide)) ?_;rintro _ m1 ⟨x,rfl,X,x1,h⟩;ac_nf;by_cases c1:x<3
 ·rw[if_pos c1];ac_nf;exact Run.ok ⟨.keep,rfl,trivial,h.more (by omega)⟩
 rw[if_neg c1];ac_nf;by_cases C:x=3
 ·rw[if_pos C];ac_nf;exact Run.ok ⟨.whole,rfl,trivial,h.more (by omega)⟩
 rw[if_neg C];ac_nf;refine Run.bind (zaQ h (by omega) (by omega) (by omega)) ?_;rintro _ m2 ⟨y,rfl,i,Y,H⟩;obtain⟨w,f⟩:∃w:Nat,1+y=w:=⟨(1+y).toNat,by omega⟩;erw [f];refine Run.bind (zfW H (by omega) (b:=w) (by omega)) ?_;rintro _ M ⟨v,rfl,e,V,d⟩;ac_nf;exact Run.ok ⟨.low w v,rfl,⟨by omega,by omega,e,V⟩,(h.via (H.via d)).more (by omega)⟩
theorem lst_9(a b c e f g i j k:D):zcZ [a,b,c,e,f,g,i,j,k] m = .ok (.lst [a,b,c,e,f,g,i,j,k]) m:=if_pos (slen (by simp))
theorem zrY{fs:List Fd}(A:P3 m0 p q c m)(D:c+62<2^40)(hs:zoq fs)(hn:fs.length<=12) : Run (zdv [.ob p,shD fs n] m) fun x m'=>∃f:Fm,x=f.e/\FmOk fs f/\P3 m p q (c+62) m':=by
 unfold zdv zi2 shD;ac_nf;refine Run.bind (zfS (ds:=fs.map Fd.e) (fun k m'=>P3 m p q (c+5*k) m') (fun i d x=>∃w:Wy,x=w.e/\∀f,fs[i]?=aa f->w.Ok f.b) (by ac_nf) (by rw[yj];omega) A.re ?_) ?_
 ·intro i d m' hd e;have hi:i<fs.length:=by have:=(yi.mp hd).1;simpa using this
  have E:=yu hi;have s:d=fs[i].e:=by
   rw[yW,E]at hd;simpa using hd.symm
  subst s;obtain⟨b0,b1,C⟩:=hs i _ E;simp only[Fd.e];ac_nf;refine Run.mono (zsF e (by omega) b0 b1) ?_;rintro a M ⟨w,rfl,z,H⟩;exact⟨⟨w,rfl,fun f j=>by rw[E]at j;cases j;exact z⟩,(e.via H).more (by omega)⟩
 ·rintro xs m' ⟨h,B,e⟩;ac_nf;rw[yj]at h e;obtain⟨l,rfl,hl⟩:=lift Wy.e (fun i w=>∀f,fs[i]?=aa f->Wy.Ok f.b w) xs 0 fun i x t=>by
   have hi:i<fs.length:=by have:=(yi.mp t).1;omega
   rw[yL];exact B i fs[i].e x (by rw[yW,yu hi];rfl) t
  rw[ztI];ac_nf;refine Run.bind (zcv e (by omega) (by simp) (by simp)) ?_;rintro v m2 ⟨hv,g⟩;erw [lst_9];ac_nf;refine Run.bind (zcv g (by omega) (by simp) (by simp)) ?_;rintro u M ⟨y,H⟩;ac_nf;have o:∃a:Nat,v = .int a/\0<a/\a<=40:=by
   simp only[yB,y9,or_false]at hv;rcases hv with rfl|rfl|rfl|rfl|rfl|rfl|rfl
   ·exact⟨1,rfl,by decide,by decide⟩
   ·exact⟨2,rfl,by decide,by decide⟩
   ·exact⟨3,rfl,by decide,by decide⟩
   ·exact⟨4,rfl,by decide,by decide⟩
   ·exact⟨6,rfl,by decide,by decide⟩
   ·exact⟨9,rfl,by decide,by decide⟩
   ·exact⟨40,rfl,by decide,by decide⟩
  have r:∃a:Nat,u = .int a/\0<a/\a<=40:=by
   simp only[yB,y9,or_false]at y;rcases y with rfl|rfl|rfl|rfl|rfl|rfl|rfl|rfl|rfl
   ·exact⟨1,rfl,by decide,by decide⟩
   ·exact⟨2,rfl,by decide,by decide⟩
   ·exact⟨3,rfl,by decide,by decide⟩
   ·exact⟨4,rfl,by decide,by decide⟩
   ·exact⟨5,rfl,by decide,by decide⟩
   ·exact⟨6,rfl,by decide,by decide⟩
   ·exact⟨8,rfl,by decide,by decide⟩
   ·exact⟨12,rfl,by decide,by decide⟩
   ·exact⟨40,rfl,by decide,by decide⟩
  obtain⟨a,rfl,a0,a1⟩:=o;obtain⟨b,rfl,b0,b1⟩:=r;refine Run.ok ⟨⟨a,b,l⟩,rfl,⟨a0,a1,b0,b1,⟨by simpa using h,fun i f v j hv=>?_⟩⟩,(e.via (g.via H)).more (by omega)⟩;have:=hl i v hv;rw[yL]at this;exact this f j
theorem zs6(f:P3 m0 p q c m)(j:c+4<2^40) : Run (zfI [.ob p] m) fun x m'=>∃r:Rd4,x=r.e/\RdOk r/\P3 m p q (c+4) m':=by
 unfold zfI zll;erw [ztI];ac_nf;refine Run.bind (zcv f (by omega) (by simp) (by simp)) ?_;rintro v m1 ⟨hv,d⟩;have h:∃s:Nat,v = .int s/\s<=39:=by
  simp only[yB,y9,or_false]at hv;rcases hv with rfl|rfl|rfl|rfl|rfl|rfl|rfl
  ·exact⟨0,rfl,by decide⟩
  ·exact⟨0,rfl,by decide⟩
  ·exact⟨1,rfl,by decide⟩
  ·exact⟨2,rfl,by decide⟩
  ·exact⟨3,rfl,by decide⟩
  ·exact⟨5,rfl,by decide⟩
  ·exact⟨39,rfl,by decide⟩
 obtain⟨s,rfl,s1⟩:=h;ac_nf;refine Run.bind (zcv d (by omega) (by simp) (by simp)) ?_;rintro v m2 ⟨hv,b⟩;have h:∃g:Nat,v = .int g/\g<=361:=by
  simp only[yB,y9,or_false]at hv;rcases hv with rfl|rfl|rfl|rfl|rfl
  ·exact⟨0,rfl,by decide⟩
  ·exact⟨1,rfl,by decide⟩
  ·exact⟨4,rfl,by decide⟩
  ·exact⟨30,rfl,by decide⟩
  ·exact⟨361,rfl,by decide⟩
 obtain⟨g,rfl,g1⟩:=h;erw [lst_6];ac_nf;refine Run.bind (zcv b (by omega) (by simp) (by simp)) ?_;rintro v i ⟨hv,H⟩;have h:∃l:Nat,v = .int l/\l<=20:=by
  simp only[yB,y9,or_false]at hv;rcases hv with rfl|rfl|rfl|rfl|rfl|rfl
  ·exact⟨0,rfl,by decide⟩
  ·exact⟨0,rfl,by decide⟩
  ·exact⟨1,rfl,by decide⟩
  ·exact⟨2,rfl,by decide⟩
  ·exact⟨5,rfl,by decide⟩
  ·exact⟨20,rfl,by decide⟩
 obtain⟨l,rfl,l1⟩:=h;erw [ztI];ac_nf;refine Run.bind (zcv H (by omega) (by simp) (by simp)) ?_;rintro v M ⟨hv,e⟩;have h:∃a:Nat,v = .int a/\a<=400:=by
  simp only[yB,y9,or_false]at hv;rcases hv with rfl|rfl|rfl|rfl|rfl|rfl|rfl
  ·exact⟨0,rfl,by decide⟩
  ·exact⟨0,rfl,by decide⟩
  ·exact⟨0,rfl,by decide⟩
  ·exact⟨7,rfl,by decide⟩
  ·exact⟨30,rfl,by decide⟩
  ·exact⟨1,rfl,by decide⟩
  ·exact⟨400,rfl,by decide⟩
 obtain⟨a,rfl,a1⟩:=h;erw [zpG (by simp)];ac_nf;exact Run.ok ⟨⟨s,s+g,l,a⟩,by simp[Rd4.e],⟨s1,by show s<=s+g;omega,by show s+g<=400;omega,l1,a1⟩,(d.via (b.via (H.via e))).more (by omega)⟩
theorem zqB(C:P3 m0 p q c m)(G:c+1000<2^40)(u:0<most)(t:most<=12) : Run (zev [.ob p,.int most] m) fun x m'=>∃pt:Pt,x=pt.e/\PtOk pt/\9<=pt.wide/\P3 m p q (c+1000) m':=by
 unfold zev zlm;ac_nf;refine Run.bind (zoC C (by omega) u t) ?_;rintro _ m1 ⟨fs,n,rfl,n0,n1,f0,f1,hs,o⟩;ac_nf;have D:Run (zc6 1 (znb zpp (zac (eFn zaK (zac (zad 0) (zac (eFn zcZ (zac (eC (.int 0)) (zac (eC (.int 1)) (zac (eC (.int 2)) (zac (eC (.int 3)) (zac (eC (.int 5)) (zac (eC (.int 12)) zaj))))))) zaj))) zaj)) (gN 4) zcf (eFn zdv (zac (zad 0) (zac (zad 2) zaj))) [aa (.ob p),aa (.int most),aa (shD fs n),ab] m1) fun xs m'=>∃fms:List Fm,xs=fms.map Fm.e/\(∀f∈fms,FmOk fs f)/\fms.length<=12/\P3 m p q (c+950) m':=by
  unfold zc6;erw [lst_6];ac_nf;refine Run.bind (zcv o (by omega) (by simp) (by simp)) ?_;rintro v m2 ⟨hv,H⟩;have e:∃k:Nat,v = .int k/\k<=12:=by
   simp only[yB,y9,or_false]at hv;rcases hv with rfl|rfl|rfl|rfl|rfl|rfl
   ·exact⟨0,rfl,by decide⟩
   ·exact⟨1,rfl,by decide⟩
   ·exact⟨2,rfl,by decide⟩
   ·exact⟨3,rfl,by decide⟩
   ·exact⟨5,rfl,by decide⟩
   ·exact⟨12,rfl,by decide⟩
  obtain⟨k,rfl,K⟩:=e;erw [zhw (by omega) (by omega)];erw [if_pos (by rw[zbm];omega)];refine Run.mono (zki (g:=gN 4) (ρ := [aa (.ob p),aa (.int most),aa (shD fs n),ab]++yn 1 ab) (fun k m'=>P3 m p q (c+201+62*k) m') (fun i d x=>∃f:Fm,x=f.e/\FmOk fs f) (zdj 0 (k:Int).toNat) 0 (o.via H) ?_) ?_
  ·intro i d m' hd j;have hi:=(yi.mp hd).1;rw[zbm]at hi;rw[yL]at j;show Run (Res.bind (gN 4 d [aa (.ob p),aa (.int most),aa (shD fs n),ab,ab] m') _) _;ac_nf;refine Run.mono (zrY j (by omega) hs.ok f1) ?_;rintro a M ⟨f,rfl,A,h⟩;exact⟨⟨f,rfl,A⟩,(j.via h).more (by omega)⟩
  ·rintro xs m' ⟨b,E,j⟩;rw[zbm]at b j;obtain⟨l,rfl,hl⟩:=lift Fm.e (fun i f=>FmOk fs f) xs 0 fun i x B=>by
    have hi:i<k:=by have:=(yi.mp B).1;omega
    exact E i (.int (i:Nat)) x (by simp[zdj,hi]) B
   refine⟨l,rfl,fun f A=>?_,by rw[yj]at b;omega,j.more (by omega)⟩;obtain⟨i,hi⟩:=yby.mp A;exact hl i f hi
 refine Run.bind D ?_;rintro _ m2 ⟨fms,rfl,y,z,H⟩;ac_nf;refine Run.bind (zcv H (by omega) (by simp) (by simp)) ?_;rintro v M ⟨hv,h⟩;have e:∃w:Nat,v = .int w/\9<=w/\w<=40:=by
  simp only[yB,y9,or_false]at hv;rcases hv with rfl|rfl|rfl|rfl
  ·exact⟨9,rfl,by decide,by decide⟩
  ·exact⟨12,rfl,by decide,by decide⟩
  ·exact⟨16,rfl,by decide,by decide⟩
  ·exact⟨40,rfl,by decide,by decide⟩
 obtain⟨w,rfl,w0,w1⟩:=e;ac_nf;refine Run.bind (zs6 h (by omega)) ?_;rintro _ F ⟨r,rfl,hr,s⟩;erw [zpG (by simp)];ac_nf;exact Run.ok ⟨⟨fs,n,w,fms,r⟩,rfl,⟨n0,n1,f0,f1,hs,by show 0<w;omega,w1,y,z,hr⟩,w0,(H.via (h.via s)).more (by omega)⟩
theorem zhz:znI (.int 10) (.int 60) m = .ok (.int (10^60)) m:=by
 rw[zhy];have e:zvt (.int 10) (.int 60) m=if (0:Int)<=60/\(60:Int)<=1000000/\(10:Int).natAbs<2^64 then .ok (.int ((10:Int)^(60:Int).toNat)) m else .bad:=rfl
 rw[e,if_pos (by decide)];rfl
theorem zvu:znI (.int 10) (.int 30) m = .ok (.int 1000000000000000000000000000000) m:=by
 rw[zhy];have e:zvt (.int 10) (.int 30) m=if (0:Int)<=30/\(30:Int)<=1000000/\(10:Int).natAbs<2^64 then .ok (.int ((10:Int)^(30:Int).toNat)) m else .bad:=rfl
 rw[e,if_pos (by decide)];rfl
theorem znS{b:Int}(h:a.natAbs.log2<1100/\b.natAbs.log2<1100):zv3 (.int a) (.int b) m = .ok (.int (a*b)) m:=by rw[zra];exact if_pos h
theorem zwr:(0:Int)<10^60*10^60*10^60*10^60*10^60:=by decide +kernel
theorem abs_i(c:Int):absF [.int c] m = .ok (.int c.natAbs) m:=by
 have e:(if c<0 then -c else c)=(c.natAbs:Int):=by split <;> omega
 rw[<- e];rfl
theorem sl_scr:slD (.scr (ns.map D.int)) ab (aa 63) m = .ok (.lst ((ns.take 63).map D.int)) m:=by
 show Res.ok (D.lst (zmX (ns.map D.int) ab (aa ((63:Nat):Int)))) m=_;rw[zuD,ycr]
theorem zwx(hn:ns.length<=63):Run (zh5 [.scr (ns.map D.int)] m) fun a m'=>∃p q,a = .ob p/\P3 m' p q 0 m':=by
 unfold zh5 zn7;erw [zj5];erw [zhz];erw [zhz];erw [znS (by decide +kernel)];erw [zhz];erw [znS (by decide +kernel)];erw [zhz];erw [znS (by decide +kernel)];erw [zhz];erw [znS (by decide +kernel)];ac_nf;have e:=zwr;generalize (10:Int)^60*10^60*10^60*10^60*10^60=N at e;rw[sl_scr];ac_nf;have hr:(m++[MO.lst []])[m.length]?=aa (.lst []):=by simp
 generalize m.length=r at hr ⊢;generalize m++[MO.lst []]=mA at hr ⊢;refine Run.bind (zbD (fun k ρ m'=>∃(seed:Int)(own:List Int)(x4:Option D),ρ = [aa (.scr (ns.map D.int)),aa (.int seed),aa (.ob r),aa (.int N),x4]/\m'[r]?=aa (.lst (own.map D.int))/\own.length<=k/\(∀a∈own,0<=a)/\0<=seed/\seed<2305843009213693951) ((ns.take 63).map D.int) 0 ⟨41,[],ab,rfl,hr,yh _,fun _ h=>(nomatch h),by decide,by decide⟩ ?_) ?_
 ·rintro i d ρ m1 hd ⟨seed,own,x4,rfl,g1,G,g3,g,j⟩;have hi:=(yi.mp hd).1;rw[yj,ya9]at hi;obtain⟨v,hv,rfl⟩:=yah.mp (yai hd);erw [zmE ⟨by decide,by decide⟩];erw [zvu];erw [zcV (by decide)];erw [zcV (by decide)];erw [abs_i];erw [zvv];ac_nf;generalize c:(seed*1000003+v%1000000000000000000000000000000+7)%2305843009213693951=S;have f:0<=S:=by rw[<- c];exact yau _ (by decide)
  have s:S<2305843009213693951:=by rw[<- c];exact yax _ (by decide)
  by_cases b:(1000000000000000000:Int)<=(v.natAbs:Int)
  ·rw[if_pos b];erw [if_pos (zhQ g1)];erw [abs_i];erw [zcV e];erw [zfR g1 (by rw[yj];exact zbC (by omega))];ac_nf;refine Run.ok ⟨_,rfl,S,own++[(v.natAbs:Int)%N],_,rfl,by rw[zaR g1,yak];rfl,by rw[yI];show own.length+1<=_;omega,fun a ha=>?_,f,s⟩;rcases yae.mp ha with ha|ha
   ·exact g3 a ha
   ·rw[y8.mp ha];exact yau _ (by omega)
  ·rw[if_neg b];ac_nf;exact Run.ok ⟨_,rfl,S,own,_,rfl,g1,by omega,g3,f,s⟩
 ·rintro _ m1 ⟨ρ,rfl,seed,own,x4,rfl,g1,G,g3,g,j⟩;rw[yL,yj,ya9]at G;erw [show ziE [("own", zad 2),("seed", zad 1),("turn", eC (.int 0))] [aa (.scr (ns.map D.int)),aa (.int seed),aa (.ob r),aa (.int N),x4] m1 = .ok (.ob m1.length) (m1++[.dct (zm3 r seed 0)]) from rfl];ac_nf;have H:=(yi.mp g1).1;exact Run.ok ⟨m1.length,r,rfl,⟨⟨own,seed,0,by simp,by rw[yab H];exact g1,by omega,by omega,g3,g,by omega,by decide,by decide⟩,Fr.refl⟩⟩
open PySem L2
theorem zlB{k:Nat}{o:MO}{g:GV}{el:EV}{ρ : En}{m:Sto}(f:D->D)(H:m[k]?=aa o):∀(ds:List D),(∀d∈ds,∃a,g d ρ m = .ok a m/\el a m = .ok (f d) m)->zc3 k o g zcf el ρ ds m = .ok (ds.map f) m
 |[],_=>by rw[zc3,znY H];rfl|d::r,h=>by
  obtain⟨a,e1,e2⟩:=h d (by simp);rw[zc3,znY H,e1,bind_ok];show (Res.ok ac m).bind _=_;rw[bind_ok,if_pos rfl,e2,bind_ok,zlB f H r fun d hd=>h d (yag _ hd),bind_ok];rfl
variable{fa:EV}
theorem zpn{n k:Nat}(f:D->D)(h:fa ρ m = .ok (.ob k) m)(H:m[k]?=aa (.lst ds))(hl:ds.length<=1000000)(a:∀d∈ds,∃ρ1,g d (ρ ++ yn n ab) m = .ok ρ1 m/\el ρ1 m = .ok (f d) m):zer n (zsA fa) g zcf el ρ m = .ok (ds.map f) m:=by
 unfold zer zsA;rw[h,bind_ok];have e:zm7 (.ob k) m = .ok (k,.lst ds,ds) m:=by simp only[zm7,H]
 rw[e,bind_ok,if_pos hl];exact zlB f H ds a
theorem zsz(l:List τ):allF [.lst (l.map fun _=>D.bl ac)] m = .ok (.bl ac) m:=by
 rw[show (l.map fun _=>D.bl ac)=(l.map fun _=>ac).map D.bl by simp,zwA];simp
section
variable{c f mth:ae}{fv:EV}{fr:AV}{g:List D->Sto->Res D}
def kFs3(ρ : En):Unit->Sto->Res Fl:=fun _ m=>.ok (.nx ρ) m
def kFs2(c f:ae)(ρ : En)(y:D):D->Sto->Res Fl:=fun x m2=>(zsO c f x y m2).bind (kFs3 ρ)
def kFs1(c f:ae)(fo:EV)(ρ : En):D->Sto->Res Fl:=fun y m1=>(fo ρ m1).bind (kFs2 c f ρ y)
theorem fld_at:zaT c f fa ρ m=(fa ρ m).bind (zih c f):=rfl
theorem sfld_at:zbL c f fa fv ρ m=(fv ρ m).bind (kFs1 c f fa ρ):=rfl
theorem kfs1_at:kFs1 c f fa ρ d m=(fa ρ m).bind (kFs2 c f ρ d):=rfl
theorem kfs2_at(x:D):kFs2 c f ρ d x m=(zsO c f x d m).bind (kFs3 ρ):=rfl
theorem kfs3_at:kFs3 ρ () m = .ok (.nx ρ) m:=rfl
def kMt2(g:List D->Sto->Res D)(x:D):List D->Sto->Res D:=fun ds m2=>g (x::ds) m2
def kMt1(c m:ae)(g:List D->Sto->Res D)(fr:AV)(ρ : En):D->Sto->Res D:=fun x m1=>if zeC c m x m1=ac then (fr ρ m1).bind (kMt2 g x) else .bad
theorem mth_at:zbl c mth g fa fr ρ m=(fa ρ m).bind (kMt1 c mth g fr ρ):=rfl
theorem kmt1_at:kMt1 c mth g fr ρ d m=if zeC c mth d m=ac then (fr ρ m).bind (kMt2 g d) else .bad:=rfl
theorem kmt2_at(ds:List D):kMt2 g d ds m=g (d::ds) m:=rfl
def kPar3(i j k:Nat)(ρ : En):List D->Sto->Res Fl:=fun ds m1=>match ds with
 |[x,y,z]=>.ok (.nx (((ρ.set i (aa x)).set j (aa y)).set k (aa z))) m1|_=>.bad
theorem par3_at(i j k:Nat):zu4 i j k fr ρ m=(fr ρ m).bind (kPar3 i j k ρ):=rfl
theorem kpar3_at(i j k:Nat)(x y z:D):kPar3 i j k ρ [x,y,z] m = .ok (.nx (((ρ.set i (aa x)).set j (aa y)).set k (aa z))) m:=rfl
def kForO(h:GV)(b:SV)(ρ : En):Nat×MO×List D->Sto->Res Fl:=fun t m1=>zrn t.1 t.2.1 h b t.2.2 ρ m1
theorem forO_at{it:OI}{h:GV}{b:SV}:sForO it h b ρ m=(it ρ m).bind (kForO h b ρ):=rfl
theorem kforO_at{h:GV}{b:SV}(k:Nat)(o:MO)(ds:List D):kForO h b ρ (k,o,ds) m=zrn k o h b ds ρ m:=rfl
theorem objI_at:zsA fa ρ m=(fa ρ m).bind zm7:=rfl
theorem isnt_in(i:Int):zgm (.int i) .non m = .ok (.bl ac) m:=rfl
theorem is_in(i:Int):isD (.int i) .non m = .ok (.bl ag) m:=rfl
theorem zcA{k:Nat}{fs:List (ae×D)}{v:D}(h:m[k]?=aa (.ins c fs))(e:fs.lookup f=aa v):zih c f (.ob k) m = .ok v m:=by
 simp only[zih,h,if_true,e,opt]
theorem zbO{k:Nat}{fs:List (ae×D)}(h:m[k]?=aa (.ins c fs))(e:fs.length<1000):zsO c f (.ob k) y m = .ok () (m.set k (.ins c (zbh f y fs))):=by
 simp only[zsO,h];exact if_pos ⟨trivial,e⟩
theorem zrb{k:Nat}{fs:List (ae×D)}(h:m[k]?=aa (.ins c fs))(e:fs.lookup mth=ab):zeC c mth (.ob k) m=ac:=by
 simp only[zeC,h,e,decide_true,Option.isNone_none,Bool.and_self]
end
local macro_rules | `(tactic| walk_at "w") => do
  let ids := ("run_at fin_nx fin_rt seq_at seq_nx seq_rt nil_at ret_at rt_at retN_at drop_at kdrop_at if_at kif_at asg_at kasg_at nx_at gs_nil gs_cons gT_at par_at kpar_at List.set_cons_zero List.set_cons_succ for_at kfor_at eC_at op_at kop_at un_at fn_at ife_at kife_at aNil_at aCons_at kcons_at kcons2_at asB_at tV_at andT_at kandT_at orT_at korT_at notT_at knotT_at and_at kand_at or_at kor_at not_at knot_at aIt_at sq_t sq_l sq_s sq_c rngA_at enumA_at kenum_t kenum_l zipA_at kzip_at zip3A_at kzip3_at kzip4_at oNone_at oSome_at ksome_at slD_at ksl1_at ksl2_at slA_at kslA1_at kslA2_at meth_at kmeth_at isStr_at isTup_at chain_at kch1_at kch2_at kch3_at put_at kputA_at kputB_at kputC_at kputE_at bind_ok bind_then then_at var_0 var_S gN_at Bool.false_eq_true reduceIte List.map_cons List.map_nil List.length_cons List.length_nil Nat.reduceAdd Nat.reduceSub List.cons_append List.nil_append add_i sub_i eq_i ne_i eq_s ne_s lt_i le_i gt_i ge_i lst_0 lst_2 lst_3 lst_4 lst_5 tup_0 tup_1 tup_2 tup_3 min_i len_t len_l tup_l l1 ix_t0 ix_t1 ix_t2 List.replicate List.append_nil decide_eq_true_eq Bool.not_true Bool.not_false eq_self not_true_eq_false not_false_eq_true decide_true decide_false ofs_eq String.reduceEq fld_at sfld_at kfs1_at kfs2_at kfs3_at mth_at kmt1_at kmt2_at par3_at kpar3_at forO_at kforO_at objI_at isnt_in is_in is_nn isnt_nn max_i".splitOn " ").toArray.map fun s => Lean.mkIdent s.toName
  `(tactic| try simp only [$[$ids:ident],*])
def onD:Option Nat->D
 |none=>.non|some n=>.int n
def prF(pt:D)(l:Nat)(had base:Option Nat)(fresh:Nat):List (ae×D):=[("pact", pt),("pressed", .ob l),("had", onD had),("base", onD base),("fresh", .int fresh)]
structure PrAt(m:Sto)(k l:Nat)(pt:Pt)(hs:List (List Int))(had base:Option Nat)(fresh:Nat):Prop where
 self:m[k]?=aa (.ins "Presser" (prF pt.e l had base fresh))
 lst:m[l]?=aa (.lst (hs.map zdk))
 kl:k≠l
variable{base:Option Nat}{hs:List (List Int)}{had:Option Nat}
theorem PrAt.app{r:Sto}{k l:Nat}{pt:Pt}{fresh:Nat}(h:PrAt m k l pt hs had base fresh):PrAt (m++r) k l pt hs had base fresh:=⟨zcG h.self,zcG h.lst,h.kl⟩
theorem PrAt.fr{k l:Nat}{pt:Pt}{fresh:Nat}(h:PrAt m k l pt hs had base fresh)(f:Fr p q m m')(a:k≠p)(b:k≠q)(c:l≠p)(d:l≠q):PrAt m' k l pt hs had base fresh :=
 ⟨by rw[f.at' k (yi.mp h.self).1 a b];exact h.self,by rw[f.at' l (yi.mp h.lst).1 c d];exact h.lst,h.kl⟩
theorem PrAt.lt{k l:Nat}{pt:Pt}{fresh:Nat}(h:PrAt m k l pt hs had base fresh):k<m.length/\l<m.length:=⟨(yi.mp h.self).1,(yi.mp h.lst).1⟩
variable{m1:Sto}{reach:Nat}
section
variable{k l:Nat}{pt:Pt}{fresh:Nat}
theorem PrAt.pact(h:PrAt m k l pt hs had base fresh):zih "Presser" "pact" (.ob k) m = .ok pt.e m:=zcA h.self rfl
theorem PrAt.pressed(h:PrAt m k l pt hs had base fresh):zih "Presser" "pressed" (.ob k) m = .ok (.ob l) m:=zcA h.self rfl
theorem PrAt.hadF(h:PrAt m k l pt hs had base fresh):zih "Presser" "had" (.ob k) m = .ok (onD had) m:=zcA h.self rfl
theorem PrAt.baseF(h:PrAt m k l pt hs had base fresh):zih "Presser" "base" (.ob k) m = .ok (onD base) m:=zcA h.self rfl
theorem PrAt.freshF(h:PrAt m k l pt hs had base fresh):zih "Presser" "fresh" (.ob k) m = .ok (.int fresh) m:=zcA h.self rfl
theorem zcH(pt:Pt):ixD pt.e (.int 0) m = .ok (shD pt.fs pt.n) m:=ix_t0 _ _
theorem zrD(pt:Pt):ixD pt.e (.int 1) m = .ok (.int pt.wide) m:=ix_t1 _ _ _
theorem zgE(pt:Pt):ixD pt.e (.int 2) m = .ok (.tup (pt.fms.map Fm.e)) m:=ix_t2 _ _ _ _
theorem zlb(pt:Pt):ixD pt.e (.int 3) m = .ok pt.rd.e m:=zps (n:=3) rfl
theorem ix_rd0(r:Rd4):ixD r.e (.int 0) m = .ok (.int r.skips) m:=ix_t0 _ _
theorem ix_rd3(r:Rd4):ixD r.e (.int 3) m = .ok (.int r.anew) m:=zps (n:=3) rfl
theorem zrq(h:m[r]?=aa (.lst xs)):zeB [.ob r] m = .ok (.int xs.length) m:=by simp only[zeB,h]
theorem zfn(h:PrAt m k l pt hs had base fresh):zay [.ob k] m = .ok (.int hs.length) m:=by
 apply zas;unfold zay zfC;erw [h.pressed];erw [zrq h.lst,yj];exact Run.ok ⟨rfl,rfl⟩
theorem PrAt.meth(h:PrAt m k l pt hs had base fresh){x:ae}(e:(prF pt.e l had base fresh).lookup x=ab):zeC "Presser" x (.ob k) m=ac:=zrb h.self e
def anB(pt:Pt)(n:Nat):Bool:=decide (pt.rd.anew≠0/\n%pt.rd.anew=0)
theorem anew_w(h:PrAt m k l pt hs had base fresh):za9 [.ob k] m = .ok (.bl (anB pt hs.length)) m:=by
 apply zas;unfold za9 zcY;erw [h.pact];erw [zlb];erw [ix_rd3];ac_nf;by_cases H:pt.rd.anew=0
 ·rw[decide_eq_true (show ((pt.rd.anew:Nat):Int)=0 by omega)];ac_nf;exact Run.ok ⟨by simp[anB,H],rfl⟩
 ·rw[decide_eq_false (show ¬ ((pt.rd.anew:Nat):Int)=0 by omega)];erw [if_pos (h.meth rfl)];erw [zfn h];erw [zcV (by omega)];ac_nf;refine Run.ok ⟨?_,rfl⟩;unfold anB;congr 1;apply decide_eq_decide.mpr;have:((hs.length:Int)%pt.rd.anew)=((hs.length%pt.rd.anew:Nat):Int):=by push_cast;rfl
  rw[this];constructor
  ·intro e;exact⟨H,by exact_mod_cast e⟩
  ·rintro⟨_,e⟩;exact_mod_cast e
def shB(pt:Pt)(n:Nat)(base:Option Nat)(fresh reach:Nat):Bool:=(match base with | some b=>decide ((n:Int)-reach<=b) | none=>ag)||(decide ((fresh:Int)<=n-1-pt.rd.skips)&&decide ((n:Int)-reach<=n-1-pt.rd.skips))
theorem zm9(bs:List Bool):zwz [.lst (bs.map D.bl)] m = .ok (.bl (bs.any id)) m:=by
 simp only[zwz,lOf,yaS];rw[zie (fun b=>b)];simp
theorem zsi{before:Int}{xs:List Int}(h:PrAt m1 k l pt hs had base fresh)(hr:m1[r]?=aa (.lst (xs.map D.int)))(H:xs.length<=10) : zer 1 (zsA (zad 2)) (gN 4) zcf (eOp geD (zad 4) (eOp zc8 (zbl "Presser" "sent" zay (zad 0) zaj) (zad 1))) [aa (.ob k),aa (.int reach),aa (.ob r),aa (.int before)] m1 = .ok ((xs.map fun x=>decide ((hs.length:Int)-reach<=x)).map D.bl) m1:=by
 rw[zpn (k:=r) (ds:=xs.map D.int) (fun d=>match d with | .int x=>.bl (decide ((hs.length:Int)-reach<=x)) | _=>.non) (by ac_nf) hr (by rw[yj];omega) (by
  intro d hd;obtain⟨x,H,rfl⟩:=yah.mp hd;refine⟨_,rfl,?_⟩;show (eOp geD (zad 4) (eOp zc8 (zbl "Presser" "sent" zay (zad 0) zaj) (zad 1))) [aa (.ob k),aa (.int reach),aa (.ob r),aa (.int before),aa (.int x)] m1=_;erw [if_pos (h.meth rfl)];erw [zfn h];ac_nf)]
 congr 1;simp
theorem zoB(h:PrAt m k l pt hs had base fresh):Run (zbp [.ob k,.int reach] m) fun a m'=>a = .bl (shB pt hs.length base fresh reach)/\∃r,m'=m++r:=by
 unfold zbp zdt;have key:∀(m1:Sto)(r:Nat)(xs:List Int)(R:Sto),m1=m++R->PrAt m1 k l pt hs had base fresh->m1[r]?=aa (.lst (xs.map D.int))->m.length<=r->xs.length<=5 →
   Run ((zar (zaJ (eOp zc8 (eOp zc8 (zbl "Presser" "sent" zay (zad 0) zaj) (eC (.int 1))) (eOp ixD (eOp ixD (zaT "Presser" "pact" (zad 0)) (eC (.int 3))) (eC (.int 0)))) (gN 3))
 (zar (sIf (tV (eOp geD (zad 3) (zaT "Presser" "fresh" (zad 0))))
 (zbs (zcr zbM zbB (zad 2) (zac (zad 3) zaj)))
 za3)
 (zaE (eFn zwz (zac (eFn gL1 (zer 1 (zsA (zad 2)) (gN 4) zcf (eOp geD (zad 4) (eOp zc8 (zbl "Presser" "sent" zay (zad 0) zaj) (zad 1))))) zaj)))) [aa (.ob k),aa (.int reach),aa (.ob r),ab] m1).bind zi8) fun a m'=>a = .bl ((xs.any fun x=>decide ((hs.length:Int)-reach<=x))||(decide ((fresh:Int)<=hs.length-1-pt.rd.skips)&&decide ((hs.length:Int)-reach<=hs.length-1-pt.rd.skips)))/\∃r,m'=m++r:=by
  intro m1 r xs R e H hr hr0 f;erw [if_pos (H.meth rfl)];erw [zfn H];erw [H.pact];erw [zlb];erw [ix_rd0];erw [H.freshF];ac_nf;by_cases c:(fresh:Int)<=hs.length-1-pt.rd.skips
  ·rw[if_pos c];erw [if_pos (zhQ hr)];erw [zfR hr (by rw[yj];exact zbC (by omega))];ac_nf;have hl:=h.lt;have d:PrAt (m1.set r (.lst (xs.map D.int++[.int (hs.length-1-pt.rd.skips)]))) k l pt hs had base fresh:=⟨by rw[zaO (by omega)];exact H.self,by rw[zaO (by omega)];exact H.lst,h.kl⟩;have hr2:(m1.set r (.lst (xs.map D.int++[.int (hs.length-1-pt.rd.skips)])))[r]?=aa (.lst ((xs++[(hs.length:Int)-1-pt.rd.skips]).map D.int)):=by rw[zaR hr];simp
   rw[zsi d hr2 (by simp;omega)];erw [zm9];ac_nf;refine Run.ok ⟨?_,R.set (r-m.length) (.lst (xs.map D.int++[.int (hs.length-1-pt.rd.skips)])),?_⟩
   ·simp[List.any_append,c,ycn,Function.comp_def]
   ·rw[e,ybj _ _ hr0]
  ·rw[if_neg c];erw [zsi H hr (by omega)];erw [zm9];ac_nf;exact Run.ok ⟨by simp[c,ycn,Function.comp_def],R,e⟩
 erw [h.baseF];cases base with
 |none=>
  simp only[onD];erw [zj5];simp only[kasg_at,gN_at,yaF,yaE,bind_ok,bind_then,then_at,nx_at,seq_nx];have:=key (m++[.lst []]) m.length [] [.lst []] rfl h.app (by simp) (yh _) (by simp);simpa [shB] using this
 |some b=>
  simp only[onD];erw [h.baseF];simp only[onD];erw [new_of (by simp)];simp only[kasg_at,gN_at,yaF,yaE,bind_ok,bind_then,then_at,nx_at,seq_nx];have:=key (m++[.lst [.int b]]) m.length [(b:Int)] [.lst [.int b]] rfl h.app (by simp) (yh _) (by simp);simpa [shB] using this
end
def mxI(a b:Int):Int:=if b>a then b else a
def leV(pt:Pt)(n:Nat)(had:Option Nat):Int:=match had with
 |none=>mxI 0 ((n:Int)-1-pt.rd.gap)|some h=>mxI (mxI 0 ((n:Int)-1-pt.rd.gap)) ((h:Int)-pt.rd.late)
def ctB(pt:Pt)(n:Nat)(had:Option Nat)(count:Nat):Bool:=decide ((n:Int)+pt.rd.late-leV pt n had<2^count)
theorem sl_13(a b c d:D):slD (.tup [a,b,c,d]) (aa 1) (aa 3) m = .ok (.tup [b,c]) m:=rfl
section
variable{k l:Nat}{pt:Pt}{fresh:Nat}
theorem zsg(h:PrAt m k l pt hs had base fresh){count:Nat}(H:count<=1000):zbj [.ob k,.int count] m = .ok (.bl (ctB pt hs.length had count)) m:=by
 apply zas;unfold zbj zdc;erw [h.pact];erw [zlb];ac_nf;simp only[Rd4.e];rw[sl_13];erw [if_pos (h.meth rfl)];erw [zfn h];erw [h.hadF];cases had with
 |none=>
  simp only[onD];erw [zeR (by omega)];erw [if_pos (h.meth rfl)];erw [zfn h];ac_nf;exact Run.ok ⟨rfl,rfl⟩
 |some a=>
  simp only[onD];erw [h.hadF];simp only[onD];erw [zeR (by omega)];erw [if_pos (h.meth rfl)];erw [zfn h];ac_nf;exact Run.ok ⟨rfl,rfl⟩
def fmL(hs:List (List Int))(reach:Nat):List (Int×List Int):=(yJ (min reach hs.length)).map fun i=>(((i:Nat):Int)+1,hs.getD (hs.length-1-i) [])
theorem zs7{i j:Int}(h:i<=j)(a : -1000000<=i)(H:j<=1000000):rng2 [.int i,.int j] m = .ok (zdj i (j-i).toNat) m:=by
 rw[zp9];exact if_pos ⟨by omega,by omega,by omega,by omega⟩
theorem zrX(h:PrAt m k l pt hs had base fresh)(hr:reach<=1000)(hl:hs.length<=100000):zby [.ob k,.int reach] m = .ok (.tup ((fmL hs reach).map fmE)) m:=by
 apply zas;unfold zby zdU;erw [h.pressed];ac_nf;unfold zde zfK;erw [zrq h.lst,yj];ac_nf;have hm:(if (hs.length:Int)<reach then (hs.length:Int) else reach)=((min reach hs.length:Nat):Int):=by split <;> omega
 rw[zcc (ds:=zdj 1 (min reach hs.length)) (fun d=>match d with | .int i=>.tup [.int i,zdk (hs.getD (hs.length-i.toNat) [])] | _=>.non)]
 ·ac_nf;refine Run.ok ⟨?_,rfl⟩;congr 1;simp only[zdj,fmL,yaf];apply ybS;intro i hi;have H:i<min reach hs.length:=yaI.mp hi;simp only[Function.comp,fmE];rw[show (1:Int)+(i:Nat)=(i:Int)+1 by omega,show ((i:Int)+1).toNat=i+1 by omega,show hs.length-(i+1)=hs.length-1-i by omega];rfl
 ·erw [hm,zs7 (by omega) (by omega) (by omega)];congr 2;omega
 ·rw[zbm];omega
 ·intro d hd;simp only[zdj,yah]at hd;obtain⟨i,hi,rfl⟩:=hd;have H:i<min reach hs.length:=yaI.mp hi;refine⟨_,rfl,?_⟩;show (eFn zbr (zac (zad 3) (zac (eOp ixD (zad 0) (eOp zc8 (zad 2) (zad 3))) zaj))) [aa (.ob l),aa (.int reach),aa (.int hs.length),aa (.int (1+(i:Nat)))] m=_;ac_nf;have e:ixD (.ob l) (.int ((hs.length:Int)-(1+(i:Nat)))) m = .ok (zdk (hs.getD (hs.length-(1+i)) [])) m:=by
   rw[show (hs.length:Int)-(1+(i:Nat))=((hs.length-(1+i):Nat):Int) by omega];simp only[ixD,h.lst];show opt (atI (hs.map zdk) _) m=_;rw[zgw,yW,yu (show hs.length-(1+i)<hs.length by omega)];simp[opt,yaQ,show hs.length-(1+i)<hs.length by omega]
  rw[e];erw [show ((1:Int)+(i:Nat)).toNat=1+i by omega]
theorem head_g{fs:List Fd}(hs:zoq fs)(hn:fs.length<=12)(h:HdOk fs hd):zh7 [shD fs n,zdk hd] m = .ok (.bl ac) m:=by
 apply zas;unfold zh7 zn9 zdk;erw [zas (zeq (by omega))];erw [zrI];erw [yj,yj,h.len,decide_eq_true (by omega)];ac_nf;rw[zcc (ds:=zg1 (hd.map D.int) (fs.map fun f=>D.int f.b)) (fun _=>.bl ac) (by
  ac_nf;simp only[zsD];rw[if_pos (by simp[h.len])]) (by rw[zdY (by simp[h.len]),yj,h.len];omega) (by
  intro d H;obtain⟨i,hi⟩:=yby.mp H;obtain⟨x,y,c,b,rfl⟩:=zpv hi;rw[yW]at c b;obtain⟨v,j,rfl⟩:=yat.mp c;obtain⟨f,a,rfl⟩:=yat.mp b;obtain⟨g,e,_⟩:=hs i f a;refine⟨_,rfl,?_⟩;show zew [.int v,.int f.b] m=_;rw[zrH (by omega),decide_eq_true (h.at' i f v a j)])]
 erw [zsz];exact Run.ok ⟨rfl,rfl⟩
theorem ask_w(h:PrAt m k l pt hs had base fresh)(H:PtOk pt)(a:HdOk pt.fs hd):zbz [.ob k,zdk hd] m = .ok .non m:=by
 apply zas;unfold zbz zdV;erw [h.pact];erw [zcH];erw [head_g H.sh.ok H.f1 a];ac_nf;exact Run.ok ⟨rfl,rfl⟩
def HiV(pt:Pt)(hs:List (List Int))(had base:Option Nat)(fresh:Nat)(hd:List Int)(f:Fm)(a:D):Prop :=
 if anB pt hs.length=ac then a = .str "anew" else if shB pt hs.length base fresh f.a=ag then a = .str "shared" else if ctB pt hs.length had f.b=ag then a = .str "count" else ∃o,a=zpg o/\DB pt.fs f.wys hd (fmL hs f.a) o
theorem fmL_ok{fs:List Fd}(h:∀x∈hs,HdOk fs x):∀p∈fmL hs reach,HdOk fs p.2:=by
 intro p H;simp only[fmL,yah,yaI]at H;obtain⟨i,hi,rfl⟩:=H;have a:hs.length-1-i<hs.length:=by omega
 simp only[yaQ,yu a,yaR];exact h _ (yaC a)
theorem ztP(h:PrAt m k l pt hs had base fresh)(d:PtOk pt)(n:HdOk pt.fs hd)(e:∀x∈hs,HdOk pt.fs x)(hl:hs.length<=100000){f:Fm}(g:pt.fms[i]?=aa f) : Run (zbk [.ob k,zdk hd,.int i] m) fun a m'=>HiV pt hs had base fresh hd f a/\∃r,m'=m++r:=by
 have H:=d.fm f (yai g);unfold zbk zdd;erw [h.pact];erw [zgE];ac_nf;have E:∀m,ixD (.tup (pt.fms.map Fm.e)) (.int i) m = .ok f.e m:=fun m=>zps (by rw[yW,g];rfl);rw[E];erw [show slD f.e ab (aa 2) m = .ok (.tup [.int f.a,.int f.b]) m from rfl];erw [if_pos (h.meth rfl)];erw [anew_w h];by_cases c1:anB pt hs.length=ac
 ·rw[c1];ac_nf;exact Run.ok ⟨by unfold HiV;rw[if_pos c1],[],by simp⟩
 rw[Bool.eq_false_iff.mpr c1];erw [if_pos (h.meth rfl)];ac_nf;refine Run.bind (zoB h) ?_;rintro _ m1 ⟨rfl,r,rfl⟩;have b:PrAt (m++r) k l pt hs had base fresh:=h.app;by_cases c:shB pt hs.length base fresh f.a=ag
 ·rw[c];ac_nf;exact Run.ok ⟨by unfold HiV;rw[if_neg c1,if_pos c],r,rfl⟩
 rw[show shB pt hs.length base fresh f.a=ac by simpa using c];erw [if_pos (b.meth rfl)];erw [zsg b (by have:=H.b1;omega)];by_cases C:ctB pt hs.length had f.b=ag
 ·rw[C];ac_nf;exact Run.ok ⟨by unfold HiV;rw[if_neg c1,if_neg c,if_pos C],r,rfl⟩
 rw[show ctB pt hs.length had f.b=ac by simpa using C];erw [b.pact];erw [zcH];erw [b.pact];erw [zgE];erw [E];erw [if_pos (b.meth rfl)];erw [zrX b (by have:=H.a1;omega) hl];ac_nf;refine Run.bind (zsa d.sh.ok d.f1 H.wy n (fmL_ok e)) ?_;rintro _ m2 ⟨o,rfl,j,rfl⟩;ac_nf;exact Run.ok ⟨by unfold HiV;rw[if_neg c1,if_neg c,if_neg C];exact⟨o,rfl,j⟩,r,rfl⟩
end
def wdN(n:Nat):Nat:=if n<=1 then 0 else (n-1).log2+1
theorem wdN_lt{n w:Nat}:2^w<n↔w<wdN n:=by
 unfold wdN;by_cases h:n<=1
 ·rw[if_pos h];have:=Nat.one_le_two_pow (n:=w);omega
 ·rw[if_neg h,Nat.lt_succ_iff,Nat.le_log2 (by omega)];omega
def wfT:TV:=by walk_at "#lu6'"
def wfB:SV:=by walk_at "#4j(dqcros:rV"
theorem zpx{n:Nat}{m:Sto}:∀(j w f:Nat),w+j=wdN n->j<f->zgk wfT wfB f [aa (.int n),aa (.int w),aa (.int (2^w))] m = .ok (.nx [aa (.int n),aa (.int (wdN n)),aa (.int (2^wdN n))]) m
 |0,w,0,_,h=>absurd h (ydf _)|0,w,f+1,e,_=>by
  have H:w=wdN n:=by omega
  subst H;have hn : ¬ ((2:Int)^wdN n<n):=by
   have:=mt wdN_lt.mp (yao (wdN n))
   exact_mod_cast this
  rw[zgk];have E:wfT [aa (.int n),aa (.int (wdN n)),aa (.int (2^wdN n))] m = .ok ag m:=by
   unfold wfT;erw [decide_eq_false hn]
  rw[E,bind_ok,if_neg (by decide)]
 |j+1,w,0,_,h=>absurd h (ydf _)|j+1,w,f+1,e,h=>by
  have hn:(2:Int)^w<n:=by
   have:=wdN_lt.mpr (show w<wdN n by omega)
   exact_mod_cast this
  rw[zgk];have E:wfT [aa (.int n),aa (.int w),aa (.int (2^w))] m = .ok ac m:=by
   unfold wfT;erw [decide_eq_true hn]
  have a:wfB [aa (.int n),aa (.int w),aa (.int (2^w))] m = .ok (.nx [aa (.int n),aa (.int ((w+1:Nat):Int)),aa (.int (2^(w+1)))]) m:=by
   unfold wfB;erw [zmE ⟨by decide,by decide⟩];erw [ybU];rfl
  rw[E,bind_ok,if_pos rfl,a,bind_ok];exact zpx j (w+1) f (by omega) (by omega)
theorem zes{n:Nat}(h:n<=2^50):zcW [.int n] m = .ok (.int (wdN n)) m:=by
 have H:wdN n<=50:=yb6 fun z=>by
  have:=wdN_lt.mpr z;omega
 apply zas;unfold zcW zaU;show Run (Res.bind (zar (zaJ (eC (.int 0)) (gN 1)) (zar (zaJ (eC (.int 1)) (gN 2)) (zar (zhj zke wfT wfB) (zaE (zad 1)))) [aa (.int n),ab,ab] m) zi8) _;erw [znh];have:=zpx (n:=n) (m:=m) (wdN n) 0 zke (by omega) (ycO H (by decide));rw[show ((0:Nat):Int)=0 from rfl,show ((2:Int)^0)=1 from rfl]at this;rw[this];ac_nf;exact Run.ok ⟨rfl,rfl⟩
def fmW(pt:Pt):Fm:=⟨1,pt.wide,yn pt.fs.length .whole⟩
def zaW(pt:Pt):Option Nat->Fm
 |none=>fmW pt|some i=>pt.fms.getD i ⟨1,1,[]⟩
def zlR(pt:Pt):Option Nat->Prop
 |none=>True|some i=>i<pt.fms.length
theorem fmW_ok{pt:Pt}(h:PtOk pt):FmOk pt.fs (fmW pt):=⟨by show 0<1;decide,by show 1<=40;decide,h.w0,h.w1,⟨by simp[fmW],fun i f w a H=>by
 simp only[fmW]at H;have:=yai H;rw[(ycq.mp this).2];exact trivial⟩⟩
variable{at':Option Nat}
theorem zrZ{pt:Pt}(h:PtOk pt)(ha:zlR pt at'):FmOk pt.fs (zaW pt at'):=by
 cases at' with
 |none=>exact fmW_ok h|some i=>
  have hi:i<pt.fms.length:=ha;show FmOk pt.fs (pt.fms.getD i ⟨1,1,[]⟩);simp only[yaQ,yu hi,yaR];exact h.fm _ (yaC hi)
theorem zoc{pt:Pt}(h:PtOk pt)(ha:zlR pt at'):zbd [pt.e,onD at'] m = .ok (zaW pt at').e m:=by
 apply zas;unfold zbd zkd;cases at' with
 |none=>
  simp only[onD];erw [zrD];erw [zcH];erw [zwi];erw [yj,mul_t ⟨by have:=h.f0;omega,by have:=h.f1;omega⟩];ac_nf;refine Run.ok ⟨?_,rfl⟩;simp only[zaW,fmW,Fm.e,fmD,yed,yaA,Wy.e];rfl
 |some i=>
  have hi:i<pt.fms.length:=ha;simp only[onD];erw [zgE];ac_nf;rw[zps (d:=(zaW pt (aa i)).e) (by
   rw[yW,yu hi];simp[zaW,yaQ,yu hi])]
  exact Run.ok ⟨rfl,rfl⟩
theorem zlV{pt:Pt}(h:PtOk pt):zaX [pt.e] m = .ok (.int (wdN (1+pt.fms.length))) m:=by
 apply zas;unfold zaX zfc;erw [zgE];erw [yj,show (1:Int)+(pt.fms.length:Nat)=((1+pt.fms.length:Nat):Int) by push_cast;rfl,zes (by have:=h.fml;omega)];exact Run.ok ⟨rfl,rfl⟩
theorem zol{pt:Pt}(h:PtOk pt):zaS [pt.e] m = .ok (.int (wdN pt.n.toNat)) m:=by
 have a:=h.n0;have H:=h.n1;apply zas;unfold zaS zeo;erw [zcH];erw [show ixD (shD pt.fs pt.n) (.int 1) m = .ok (.int pt.n) m from ix_t1 _ _ _];ac_nf;have e:=zes (n:=pt.n.toNat) (m:=m) (by omega);rw[yee (by omega)]at e;rw[e];exact Run.ok ⟨rfl,rfl⟩
def lsz(pt:Pt)(at':Option Nat):Nat:=wdN (1+pt.fms.length)+(zaW pt at').b+(zdA pt.fs (zaW pt at').wys).sum+wdN pt.n.toNat
theorem zgD{pt:Pt}(h:PtOk pt)(ha:zlR pt at'):zaZ [pt.e,onD at'] m = .ok (.int (lsz pt at')) m:=by
 apply zas;unfold zaZ zek;erw [zoc h ha];erw [zlV h];erw [show ixD (zaW pt at').e (.int 1) m = .ok (.int (zaW pt at').b) m from ix_t1 _ _ _];erw [zcH];erw [show zfd [shD pt.fs pt.n,(zaW pt at').e] m = .ok (.int ((zdA pt.fs (zaW pt at').wys).sum:Nat)) m from znv h.sh.ok h.f1 (zrZ h ha).wy];erw [zol h];ac_nf;refine Run.ok ⟨?_,rfl⟩;unfold lsz;congr 1
def ckS(hd:List Int):Int:=((yJ hd.length).map fun i:Nat=>((i:Int)+2)*hd.getD i 0).sum
def ckV(pt:Pt)(number:Nat)(hd:List Int):Int:=((number:Int)+ckS hd)%pt.n
theorem zkg(hd:List Int):∀(xs:List Int)(k:Nat),(zcJ k (xs.map D.int)).map (fun d=>match d with | .tup [.int i,.int v]=>D.int ((i+2)*v) | _=>.non)=((yJ xs.length).map fun i:Nat=>(((k+i:Nat):Int)+2)*xs.getD i 0).map D.int
 |[],k=>rfl|x::xs,k=>by
  rw[yE,zcJ,yE,zkg hd xs (k+1),yD,ycc,yE,yE,yaf];simp only[Nat.add_zero,List.getD_cons_zero,yaf];congr 1;apply ybS;intro i _;simp only[Function.comp,Nat.succ_eq_add_one,List.getD_cons_succ];rw[show k+1+i=k+(i+1) by omega]
theorem sum_i{xs:List Int}(h:(∀a,a∈xs->0<=a/\a<=2^50)/\xs.length<=1000):zuS [.lst (xs.map D.int)] m = .ok (.int xs.sum) m:=by
 simp only[zuS,lOf,yaS,zcM];exact if_pos h
variable{number:Nat}
theorem zsm{pt:Pt}(h:PtOk pt)(f:HdOk pt.fs hd):zb8 [shD pt.fs pt.n,.int number,zdk hd] m = .ok (.int (ckV pt number hd)) m:=by
 have hl:=f.len;have n:=h.f1;apply zas;unfold zb8 zh9 zdk;ac_nf;rw[zcc (ds:=zcJ 0 (hd.map D.int)) (fun d=>match d with | .tup [.int i,.int v]=>D.int ((i+2)*v) | _=>.non) (by ac_nf) (by rw[zdN];omega) (by
  intro d c;obtain⟨i,hi⟩:=yby.mp c;obtain⟨v,hv,rfl⟩:=zfh hi;have k:=(yi.mp hv).1;refine⟨_,rfl,?_⟩;show (eOp zez (eOp zbN (zad 3) (eC (.int 2))) (zad 4)) [aa (shD pt.fs pt.n),aa (.int number),aa (.tup (hd.map D.int)),aa (.int ((0+i:Nat):Int)),aa (.int v)] m=_;ac_nf;rw[ziA ⟨by omega,by omega⟩])]
 ac_nf;rw[zkg hd,sum_i ⟨fun a b=>by
  simp only[yah,yaI]at b;obtain⟨i,hi,rfl⟩:=b;have g:=yu (show i<pt.fs.length by omega);have E:=yu hi;obtain⟨V,j⟩:=f.at' i _ _ g E;have l:=p2le (h.sh.at' i _ g).2.1;simp only[yaQ,E,yaR];have e:((0+i:Nat):Int)+2<=14:=by omega
  have H:0<=((0+i:Nat):Int)+2:=by omega
  generalize ((0+i:Nat):Int)+2=q at e H;generalize hd[i]=v at V j;refine⟨ydc H V,?_⟩;have:q*v<=14*v:=ycW e V;omega,by simp;omega⟩]
 erw [show ixD (shD pt.fs pt.n) (.int 1) m = .ok (.int pt.n) m from ix_t1 _ _ _];erw [zcV h.n0];refine Run.ok ⟨?_,rfl⟩;unfold ckV ckS;simp only[yL]
def znt:Option Nat->Int
 |none=>0|some i=>1+(i:Int)
def ltL(pt:Pt)(at':Option Nat)(number:Nat)(hd:List Int):List Nat:=dgs (znt at') (wdN (1+pt.fms.length))++dgs ((number:Int)%2^(zaW pt at').b) (zaW pt at').b++pcK pt.fs (zaW pt at').wys hd pt.fs.length++dgs (ckV pt number hd) (wdN pt.n.toNat)
theorem zni{n:Nat}(h:n<=2^50):wdN n<=50:=yb6 fun z=>by
 have:=wdN_lt.mpr z;omega
theorem zuV(a b:List Nat):((⟨a.toArray⟩:ae)++⟨b.toArray⟩)=⟨(a++b).toArray⟩:=by
 apply zfZ;show (a.toArray++b.toArray).toList=_;simp
theorem add_str{a b:List Nat}(h:a.length+b.length<=100000):zbN (.str ⟨a.toArray⟩) (.str ⟨b.toArray⟩) m = .ok (.str ⟨(a++b).toArray⟩) m:=by
 rw[add_ss (show a.toArray.size+b.toArray.size<=sizeLine from by simp;exact yO h (by decide)),zuV]
theorem zo8{pt:Pt}(h:PtOk pt)(ha:zlR pt at')(c:HdOk pt.fs hd):zel [pt.e,onD at',.int number,zdk hd] m = .ok (.str ⟨(ltL pt at' number hd).toArray⟩) m:=by
 have b:=zrZ h ha;have w1:=zni (n:=1+pt.fms.length) (by have:=h.fml;omega);have w:=zni (n:=pt.n.toNat) (by have:=h.n1;omega);have g:=b.b1;have H:=zhA b.wy c pt.fs.length (yh _);have d:=zjm h.sh.ok b.wy pt.fs.length (yh _);have f:=h.f1;apply zas;unfold zel zi0;erw [zoc h ha];ac_nf;have e:∀m,ixD (zaW pt at').e (.int 1) m = .ok (.int (zaW pt at').b) m:=fun m=>ix_t1 _ _ _;have tail:Run ((zar (zaJ (eFn zc2 (zac (eFn zbR (zac (zad 2) (zac (eOp ixD (zad 4) (eC (.int 1))) zaj))) (zac (eOp ixD (zad 4) (eC (.int 1))) zaj))) (gN 6))
 (zar (zaJ (eFn zc2 (zac (eFn zb8 (zac (eOp ixD (zad 0) (eC (.int 0))) (zac (zad 2) (zac (zad 3) zaj)))) (zac (eFn zaS (zac (zad 0) zaj)) zaj))) (gN 7))
 (zaE (eOp zbN (eOp zbN (eOp zbN (zad 5) (zad 6)) (eFn zdL (zac (eOp ixD (zad 0) (eC (.int 0))) (zac (zad 4) (zac (zad 3) zaj))))) (zad 7))))) [aa pt.e,aa (onD at'),aa (.int number),aa (zdk hd),aa (zaW pt at').e,aa (.str ⟨(dgs (znt at') (wdN (1+pt.fms.length))).toArray⟩),ab,ab] m |>.bind zi8) fun a m'=>a = .str ⟨(ltL pt at' number hd).toArray⟩/\m'=m:=by
  erw [e];erw [zas (zci (by omega))];erw [e];erw [zas (zdy (by omega))];erw [zcH];erw [zsm h c];erw [zol h];erw [zas (zdy (by omega))];erw [add_str (by rw[za0,za0];omega)];erw [zcH];erw [show zdL [shD pt.fs pt.n,(zaW pt at').e,zdk hd] m = .ok (.str ⟨(pcK pt.fs (zaW pt at').wys hd pt.fs.length).toArray⟩) m from zas (zeH h.sh.ok h.f1 b.wy c)];erw [add_str (by rw[yI,za0,za0,H];omega)];erw [add_str (by rw[yI,yI,za0,za0,za0,H];omega)];exact Run.ok ⟨rfl,rfl⟩
 cases at' with
 |none=>
  simp only[onD];erw [zlV h];erw [zas (zdy (by omega))];simp only[kasg_at,gN_at,yaF,yaE,bind_ok,bind_then,then_at,nx_at,seq_nx];exact tail
 |some i=>
  simp only[onD];erw [zlV h];erw [zas (zdy (by omega))];simp only[kasg_at,gN_at,yaF,yaE,bind_ok,bind_then,then_at,nx_at,seq_nx];exact tail
structure PtW(p:Pt):Prop where
 n0:0<p.n
 n1:p.n<=1000000
 f0:0<p.fs.length
 f1:p.fs.length<=12
 sh:zoq p.fs
 w0:0<p.wide
 w1:p.wide<=40
 fm:∀f∈p.fms,FmOk p.fs f
 fml:p.fms.length<=12
section
variable{k l:Nat}{pt:Pt}{fresh:Nat}
theorem HiV.kind{f:Fm}{a:D}(h:HiV pt hs had base fresh hd f a):(∃s,a = .str s)∨∃o,a=zpg o:=by
 unfold HiV at h;split at h
 ·exact .inl ⟨_,h⟩
 ·split at h
  ·exact .inl ⟨_,h⟩
  ·split at h
   ·exact .inl ⟨_,h⟩
   ·obtain⟨o,h,_⟩:=h;exact .inr ⟨o,h⟩
theorem Fr.app2{r:Sto}:Fr p q m (m++r):=⟨by rw[yI];exact ybv _ _,fun j h _ _=>yab h⟩
def hrO(o:Option Nat)(n:Nat):Option Nat:=match o with
 |none=>aa n|some a=>aa (max a n)
theorem zqM(a n:Nat):D.int (if (n:Int)>a then (n:Int) else a)=onD (aa (max a n)):=by
 simp only[onD];congr 1;split <;> omega
theorem zuk{pt:D}{a:Option Nat}:zbh "had" (onD a) (prF pt l had base fresh)=prF pt l a base fresh:=rfl
theorem zqA{pt:D}{a:Option Nat}:zbh "base" (onD a) (prF pt l had base fresh)=prF pt l had a fresh:=rfl
theorem zmT(h:PrAt m k l pt hs had base fresh){n:Nat}:Run (zbx [.ob k,.int n] m) fun a m'=>a = .non/\PrAt m' k l pt hs (hrO had n) (if fresh<=n then hrO base n else base) fresh/\Fr k l m m':=by
 have H:∀{m:Sto}{e b1 f b2:Option Nat}{f1 f2:Nat},PrAt m k l pt hs e b1 f1->PrAt (m.set k (.ins "Presser" (prF pt.e l f b2 f2))) k l pt hs f b2 f2:=fun h=>⟨zaR h.self,by rw[zaO h.kl];exact h.lst,h.kl⟩;have key:∀(m1:Sto)(d:Option Nat),PrAt m1 k l pt hs d base fresh->Fr k l m m1->Run (Res.bind (sIf (tV (eOp geD (zad 1) (zaT "Presser" "fresh" (zad 0))))
 (zbL "Presser" "base" (zad 0) (eIf (tV (eOp isD (zaT "Presser" "base" (zad 0)) (eC .non))) (zad 1) (eFn zeA (zac (zaT "Presser" "base" (zad 0)) (zac (zad 1) zaj)))))
 za3 [aa (.ob k),aa (.int n)] m1) zi8) fun a m'=>a = .non/\PrAt m' k l pt hs d (if fresh<=n then hrO base n else base) fresh/\Fr k l m m':=by
  intro m1 d e f1;erw [e.freshF];ac_nf;by_cases c:fresh<=n
  ·rw[if_pos (show (fresh:Int)<=n by omega),if_pos c];erw [e.baseF];cases base with
   |none=>
    simp only[onD];erw [zbO e.self (by show 5<1000;decide),show D.int (n:Nat)=onD (aa n) from rfl,zqA];ac_nf;exact Run.ok ⟨rfl,H e,f1.trans Fr.set⟩
   |some b=>
    simp only[onD];erw [e.baseF];simp only[onD];erw [zqM,zbO e.self (by show 5<1000;decide),zqA];ac_nf;exact Run.ok ⟨rfl,H e,f1.trans Fr.set⟩
  ·rw[if_neg (show ¬ (fresh:Int)<=n by omega),if_neg c];ac_nf;exact Run.ok ⟨rfl,e,f1⟩
 unfold zbx zdT;erw [h.hadF];cases had with
 |none=>
  simp only[onD];erw [zbO h.self (by show 5<1000;decide),show D.int (n:Nat)=onD (aa n) from rfl,zuk];simp only[bind_ok,bind_then,then_at,kfs3_at,seq_nx];exact key _ (aa n) (H h) Fr.set
 |some a=>
  simp only[onD];erw [h.hadF];simp only[onD];erw [zqM,zbO h.self (by show 5<1000;decide),zuk];simp only[bind_ok,bind_then,then_at,kfs3_at,seq_nx];exact key _ (aa (max a n)) (H h) Fr.set
theorem zpc(h:PrAt m k l pt hs had base fresh){n:Nat}(hn:n<hs.length):Run (zbH [.ob k,.tup [.str "have", .int n]] m) fun a m'=>a = .non/\PrAt m' k l pt hs (hrO had n) (if fresh<=n then hrO base n else base) fresh/\Fr k l m m':=by
 unfold zbH zeL;erw [zc7,decide_eq_false (by simp[ofs_eq])];erw [zc7,decide_eq_true (by simp)];erw [if_pos (h.meth rfl)];erw [zfn h];erw [zlQ,decide_eq_true (by omega)];erw [if_pos (h.meth rfl)];ac_nf;refine Run.bind (zmT h) ?_;rintro _ m1 ⟨rfl,H,f1⟩;ac_nf;exact Run.ok ⟨rfl,H,f1⟩
theorem make_w(pt:Pt)(m:Sto):Run (mkM "Presser" zcx [pt.e] m) fun a m'=>a = .ob m.length/\PrAt m' m.length (m.length+1) pt [] ab ab 0/\∃r,m'=m++r:=by
 unfold mkM zcx zfD;ac_nf;have E:∀fs:List (ae×D),(m++[MO.ins "Presser" fs])[m.length]?=aa (.ins "Presser" fs):=fun fs=>by simp
 rw[zbO (E _) (by show 0<1000;decide)];rw[show (m++[MO.ins "Presser" []]).set m.length (.ins "Presser" (zbh "pact" pt.e []))=m++[.ins "Presser" [("pact", pt.e)]] by rw[ybj _ _ (yh _),yaD];rfl];erw [zj5];ac_nf;have e:∀fs:List (ae×D),(m++[MO.ins "Presser" fs]++[MO.lst []])[m.length]?=aa (.ins "Presser" fs):=fun fs=>by simp
 have es:∀fs g:List (ae×D),(m++[MO.ins "Presser" fs]++[MO.lst []]).set m.length (.ins "Presser" g)=m++[.ins "Presser" g]++[.lst []]:=fun fs g=>by
  rw[yaq,ybj _ _ (yh _),yaD,yaq];rfl
 have el:∀fs:List (ae×D),(m++[MO.ins "Presser" fs]).length=m.length+1:=fun fs=>by simp
 rw[el,zbO (e _) (by show 1<1000;decide),es];erw [zbO (e _) (by show 2<1000;decide),es];erw [zbO (e _) (by show 3<1000;decide),es];erw [zbO (e _) (by show 4<1000;decide),es];ac_nf;refine Run.ok ⟨rfl,⟨by rw[e];rfl,?_,by omega⟩,_,by rw[yaq]⟩;rw[yan (by simp)];simp
end
theorem lst_n(h:xs.length<=100):zcZ xs m = .ok (.lst xs) m:=if_pos (slen h)
theorem P3.fr2{k l:Nat}(h:P3 m0 p q c m)(f:Fr k l m m')(a:k≠p)(b:k≠q)(C:l≠p)(d:l≠q):P3 m' p q c m':=by
 obtain⟨own,s,t,e,H,g⟩:=h.ex;refine⟨⟨own,s,t,?_,?_,g⟩,Fr.refl⟩
 ·rw[f.at' p (yi.mp e).1 (Ne.symm a) (Ne.symm C)];exact e
 ·rw[f.at' q (yi.mp H).1 (Ne.symm b) (Ne.symm d)];exact H
def zv1(xs:List Nat):List D:=xs.map fun n=>D.int (n:Nat)
theorem zq2(ns:List Nat)(H:P3 m0 p q c m)(b:c<2^40)(e:0<ns.length)(d:ns.length<1000) : Run (zaK [.ob p,.lst (zv1 ns)] m) fun a m'=>∃n∈ns,a = .int (n:Nat)/\P3 m p q (c+1) m':=by
 refine Run.mono (zcv H b (by simpa [zv1] using e) (by simpa [zv1] using d)) ?_;rintro a m' ⟨ha,h⟩;obtain⟨n,hn,rfl⟩:=yah.mp ha;exact⟨n,hn,rfl,h⟩
theorem zgr{k:Nat}{o:MO}{g:GV}{c:TV}{el:EV}{ρ : En}{m:Sto}(b:D->Bool)(H:m[k]?=aa o):∀(ds:List D),(∀d∈ds,∃a,g d ρ m = .ok a m/\c a m = .ok (b d) m/\el a m = .ok d m)->zc3 k o g c el ρ ds m = .ok (ds.filter b) m
 |[],_=>by rw[zc3,znY H];rfl|d::r,h=>by
  obtain⟨a,e1,e2,E⟩:=h d (by simp);have i:=zgr (g:=g) (c:=c) (el:=el) (ρ := ρ) b H r fun d hd=>h d (yag _ hd);rw[zc3,znY H,e1,bind_ok,e2,bind_ok];cases e:b d with
  |true=>rw[if_pos rfl,E,bind_ok,i,bind_ok,List.filter_cons_of_pos e]|false=>rw[if_neg (by simp),i,List.filter_cons_of_neg (by simp[e])]
theorem znc{n k:Nat}{c:TV}(b:D->Bool)(h:fa ρ m = .ok (.ob k) m)(H:m[k]?=aa (.lst ds))(hl:ds.length<=1000000)(a:∀d∈ds,∃ρ1,g d (ρ ++ yn n ab) m = .ok ρ1 m/\c ρ1 m = .ok (b d) m/\el ρ1 m = .ok d m):zer n (zsA fa) g c el ρ m = .ok (ds.filter b) m:=by
 unfold zer zsA;rw[h,bind_ok];have e:zm7 (.ob k) m = .ok (k,.lst ds,ds) m:=by simp only[zm7,H]
 rw[e,bind_ok,if_pos hl];exact zgr b H ds a
section
variable{k l:Nat}{pt:Pt}{fresh:Nat}{s d2:D}{x8 x9 x10:Option D}
theorem Fr.keep(f:Fr k l m m')(h:m[r]?=aa o)(a:r≠k)(b:r≠l):m'[r]?=aa o:=by rw[f.at' r (yi.mp h).1 a b];exact h
end
theorem ztW{fs:List Fd}{more:Int}(hs:zoq fs)(l:fs[i]?=aa f)(hv:fo[i]?=aa v)(ha:i<=ah.length)(u : -100000<=more)(t:more<=100000) : Run (zb7 [shD fs n,.int i,.tup (fo.map D.int),.tup (ah.map D.int),.int more] m) fun a m'=>(∃x:Int,a = .int x/\0<=x/\x<2^f.b)/\m'=m:=by
 obtain⟨H,q,p⟩:=hs i f l;unfold zb7 zeM shD;erw [zmP l];erw [zdH hv];ac_nf;have c:=p2 f.b;have h:=p2lt q;have e:=zeR (m:=m) (n:=f.b) (by(clear h c H ha;omega));have d:=md2;have F:∀(y:Int)(ρ : En),ρ = [aa (.tup [.tup (fs.map Fd.e),.int n]),aa (.int i),aa (.tup (fo.map D.int)),aa (.tup (ah.map D.int)),aa (.int more),aa f.kd.e,aa (.int y)]->Run (Res.bind ((zaE (eOp zfv (zad 6) (eOp zjq (eC (.int 1)) (eOp ixD (eOp ixD (eOp ixD (zad 0) (eC (.int 0))) (zad 1)) (eC (.int 1)))))) ρ m) zi8) fun a m'=>(∃x:Int,a = .int x/\0<=x/\x<2^f.b)/\m'=m:=by
  rintro y _ rfl;erw [zmP l];erw [e];erw [zcV c];ac_nf;exact Run.ok ⟨⟨_,rfl,d y f.b⟩,rfl⟩
 cases g:f.kd with
 |step w=>
  rw[g]at p F;simp only[Kd.e]at F ⊢;erw [zmE ⟨by(clear h c H ha;omega),by(clear h c H ha;omega)⟩];simp only[bind_ok,bind_then,then_at,kop_at,var_0,var_S,add_i,kasg_at,gN_at,yaF,yaE,nx_at,seq_nx];exact F _ _ rfl
 |turn row=>
  rw[g]at F;simp only[Kd.e]at F ⊢;erw [zmQ];ac_nf;by_cases hr:v∈row
  ·rw[if_pos hr];erw [znp hr];ac_nf;simp only[yj];have hl:0<row.length:=yd5 hr;rw[zcV (by(clear h c H ha;omega))];ac_nf;have a0:=yau (row.idxOf v+more) (b:=row.length) (by(clear h c H ha;omega));have a1:=yax (row.idxOf v+more) (b:=row.length) (by(clear a0 h c H ha;omega));generalize r:((row.idxOf v:Int)+more)%row.length=x at a0 a1;obtain⟨j,rfl⟩:∃j:Nat,x=j:=⟨x.toNat,by(clear a1 r hl h c H ha;omega)⟩;have s:j<row.length:=by(clear a0 r hl h c H ha;omega)
   rw[zdH (yu s)];simp only[bind_ok,bind_then,then_at,kasg_at,gN_at,yaF,yaE,nx_at,seq_nx];exact F _ _ rfl
  ·rw[if_neg hr];simp only[bind_ok,bind_then,then_at,kif_at,yc5,reduceIte];erw [zmP l];erw [e];erw [zcV c];ac_nf;exact Run.ok ⟨⟨_,rfl,d v f.b⟩,rfl⟩
 |wth j w=>
  rw[g]at p F;simp only[Kd.Ok]at p;simp only[Kd.e]at F ⊢;ac_nf;have k:j<ah.length:=by(clear h c H;omega)
  have o:j<fo.length:=by have:=(yi.mp hv).1;(clear k h c H ha;omega)
  rw[zdH (yu k)];erw [zdH (yu o)];erw [ziA (by(clear o k h c H ha;omega))];simp only[bind_ok,bind_then,then_at,kop_at,var_0,var_S,add_i,kasg_at,gN_at,yaF,yaE,nx_at,seq_nx];exact F _ _ rfl
 |still=>
  simp only[Kd.e];erw [zmP l];erw [e];erw [zcV c];ac_nf;exact Run.ok ⟨⟨_,rfl,d v f.b⟩,rfl⟩
 |drawn=>
  simp only[Kd.e];erw [zmP l];erw [e];erw [zcV c];ac_nf;exact Run.ok ⟨⟨_,rfl,d v f.b⟩,rfl⟩
section
variable{fs:List Fd}
theorem zna(r:P3 m0 p q c m)(u:c+30<2^40)(hs:zoq fs)(hl:fs.length<=12) : Run (zc0 [.ob p,shD fs n] m) fun a m'=>∃hd,a=zdk hd/\HdOk fs hd/\P3 m p q (c+30) m':=by
 unfold zc0 zgM shD;ac_nf;refine Run.bind (zfS (ds:=fs.map Fd.e) (fun k m'=>P3 m p q (c+2*k) m') (fun i d x=>∃v:Int,x = .int v/\∀f,fs[i]?=aa f->0<=v/\v<2^f.b) (by ac_nf) (by rw[yj];omega) r.re ?_) ?_
 ·intro i d m' hd H;have hi:i<fs.length:=by have:=(yi.mp hd).1;simpa using this
  have E:=yu hi;have g:d=fs[i].e:=by
   rw[yW,E]at hd;simpa using hd.symm
  subst g;obtain⟨b0,b1,t⟩:=hs i _ E;simp only[Fd.e];ac_nf;refine Run.mono (zfW H (by omega) b1) ?_;rintro a M ⟨v,rfl,o,V,e⟩;exact⟨⟨v,rfl,fun f b=>by rw[E]at b;cases b;exact⟨o,V⟩⟩,(H.via e).more (by omega)⟩
 ·rintro xs m' ⟨h,s,H⟩;ac_nf;rw[yj]at h H;obtain⟨l,rfl,hl2⟩:=lift D.int (fun i v=>∀f,fs[i]?=aa f->0<=v/\v<2^f.b) xs 0 fun i x j=>by
   have hi:i<fs.length:=by have:=(yi.mp j).1;omega
   rw[yL];exact s i fs[i].e x (by rw[yW,yu hi];rfl) j
  refine Run.ok ⟨l,rfl,⟨by simpa using h,fun i f v b hv=>?_⟩,H.more (by omega)⟩;have:=hl2 i v hv;rw[yL]at this;exact this f b
theorem zkY(G:P3 m0 p q c m)(Q:c+40<2^40)(hs:zoq fs)(hl:fs.length<=12)(I:HdOk fs fo){calm:Nat}(c0:0<calm)(c1:calm<=100) : Run (zcz [.ob p,shD fs n,zdk fo,.int calm] m) fun a m'=>∃hd,a=zdk hd/\HdOk fs hd/\P3 m p q (c+40) m':=by
 unfold zcz zfJ shD;ac_nf;refine Run.bind (zbD (fun k ρ m'=>∃(hd:List Int)(x5 x6 X:Option D),ρ = [aa (.ob p),aa (.tup [.tup (fs.map Fd.e),.int n]),aa (zdk fo),aa (.int calm),aa (.tup (hd.map D.int)),x5,x6,X]/\hd.length=k/\(∀(j:Nat)(f:Fd)(v:Int),fs[j]?=aa f->hd[j]?=aa v->0<=v/\v<2^f.b)/\P3 m p q (c+3*k) m') (zcJ 0 (fs.map Fd.e)) 0 ⟨[],_,_,_,rfl,rfl,fun j f v _ h=>by simp at h,G.re⟩ ?_) ?_
 ·rintro i d ρ m1 hd ⟨h,x5,x6,X,rfl,H,hok,e⟩;obtain⟨f,E,rfl⟩:=zfh hd;have hi:=(yi.mp E).1;rw[yL]at H e ⊢;obtain⟨b0,b1,P⟩:=hs i _ E;have A:i<fo.length:=by rw[I.len];exact hi
  have K:=yu A;ac_nf;refine Run.bind (ztW hs E K (by omega) (by decide) (by decide)) ?_;rintro _ _ ⟨⟨x,rfl,F,x1⟩,rfl⟩;have done:∀(m2:Sto)(y:Int),0<=y->y<2^f.b->P3 m p q (c+3*i+3) m2->Run ((zaJ (eOp zbN (zad 4) (eFn zbr (zac (zad 7) zaj))) (gN 4)) [aa (.ob p),aa (.tup [.tup (fs.map Fd.e),.int n]),aa (zdk fo),aa (.int calm),aa (.tup (h.map D.int)),aa (.int (i:Nat)),aa f.e,aa (.int y)] m2) fun J m'=>∃ρ2,J = .nx ρ2/\∃(hd:List Int)(x5 x6 X:Option D),ρ2=[aa (.ob p),aa (.tup [.tup (fs.map Fd.e),.int n]),aa (zdk fo),aa (.int calm),aa (.tup (hd.map D.int)),x5,x6,X]/\hd.length=i+1/\(∀(j:Nat)(f:Fd)(v:Int),fs[j]?=aa f->hd[j]?=aa v->0<=v/\v<2^f.b)/\P3 m p q (c+3*(i+1)) m':=by
   intro m2 y B Y b;erw [add_tt (slen (by simp;omega))];ac_nf;refine Run.ok ⟨_,rfl,h++[y],_,_,_,by rw[yak];rfl,by simp[H],fun j g v w hv=>?_,b.more (by omega)⟩;rcases ybe j h.length with t|t
   ·rw[yab t]at hv;exact hok j g v w hv
   ·have o:=(yi.mp hv).1;rw[yI]at o;have:j=i:=by have:j<h.length+1:=o;omega
    subst this;rw[E]at w;cases w;rw[yan t,H,yaD]at hv;cases hv;exact⟨B,Y⟩
  ac_nf;refine Run.bind (zaQ e (by omega) (by omega) (by omega)) ?_;rintro _ m2 ⟨u,rfl,N,U,b⟩;ac_nf;by_cases C:u=0
  ·rw[if_pos C];erw [ztB];erw [ztB];ac_nf;simp only[Fd.e];erw [zeR (by omega)];ac_nf;refine Run.bind (zaQ b (by omega) (p2 f.b) (p2lt b1)) ?_;rintro _ O ⟨z,rfl,L,Z,l⟩;ac_nf;refine Run.bind (zcv l (by omega) (by simp) (by simp)) ?_;rintro v M ⟨hv,s⟩;have r:∃y:Int,v = .int y:=by
    simp only[yB,y9,or_false]at hv;rcases hv with rfl|rfl|rfl|rfl|rfl <;> exact⟨_,rfl⟩
   obtain⟨y,rfl⟩:=r;erw [zeR (by omega)];erw [zcV (p2 f.b)];have:=md2 (x+y) f.b;simp only[bind_ok,bind_then,then_at,kasg_at,gN_at,nil_at,yaF,yaE,nx_at,seq_nx];exact done M _ this.1 this.2 ((e.via (b.via (l.via s))).more (by omega))
  ·rw[if_neg C];simp only[bind_ok,bind_then,then_at,kasg_at,gN_at,nil_at,yaF,yaE,nx_at,seq_nx];exact done m2 x F x1 ((e.via b).more (by omega))
 ·rintro _ m1 ⟨ρ,rfl,h,x5,x6,X,rfl,H,hok,e⟩;rw[zdN,yL]at H e;ac_nf;exact Run.ok ⟨h,rfl,⟨H,hok⟩,e.more (by omega)⟩
end
open PySem L2
theorem fmW_6{pt:Pt}(h:PtW pt):FmOk pt.fs (fmW pt):=⟨by show 0<1;decide,by show 1<=40;decide,h.w0,h.w1,⟨by simp[fmW],fun i f w a H=>by
 simp only[fmW]at H;have:=yai H;rw[(ycq.mp this).2];exact trivial⟩⟩
theorem zlt{pt:Pt}(h:PtW pt)(ha:zlR pt at'):FmOk pt.fs (zaW pt at'):=by
 cases at' with
 |none=>exact fmW_6 h|some i=>
  have hi:i<pt.fms.length:=ha;show FmOk pt.fs (pt.fms.getD i ⟨1,1,[]⟩);simp only[yaQ,yu hi,yaR];exact h.fm _ (yaC hi)
theorem zfM{pt:Pt}(h:PtW pt)(ha:zlR pt at'):zbd [pt.e,onD at'] m = .ok (zaW pt at').e m:=by
 apply zas;unfold zbd zkd;cases at' with
 |none=>
  simp only[onD];erw [zrD];erw [zcH];erw [zwi];erw [yj,mul_t ⟨by have:=h.f0;omega,by have:=h.f1;omega⟩];ac_nf;refine Run.ok ⟨?_,rfl⟩;simp only[zaW,fmW,Fm.e,fmD,yed,yaA,Wy.e];rfl
 |some i=>
  have hi:i<pt.fms.length:=ha;simp only[onD];erw [zgE];ac_nf;rw[zps (d:=(zaW pt (aa i)).e) (by
   rw[yW,yu hi];simp[zaW,yaQ,yu hi])]
  exact Run.ok ⟨rfl,rfl⟩
theorem zlW{pt:Pt}(h:PtW pt):zaX [pt.e] m = .ok (.int (wdN (1+pt.fms.length))) m:=by
 apply zas;unfold zaX zfc;erw [zgE];erw [yj,show (1:Int)+(pt.fms.length:Nat)=((1+pt.fms.length:Nat):Int) by push_cast;rfl,zes (by have:=h.fml;omega)];exact Run.ok ⟨rfl,rfl⟩
theorem zom{pt:Pt}(h:PtW pt):zaS [pt.e] m = .ok (.int (wdN pt.n.toNat)) m:=by
 have a:=h.n0;have H:=h.n1;apply zas;unfold zaS zeo;erw [zcH];erw [show ixD (shD pt.fs pt.n) (.int 1) m = .ok (.int pt.n) m from ix_t1 _ _ _];ac_nf;have e:=zes (n:=pt.n.toNat) (m:=m) (by omega);rw[yee (by omega)]at e;rw[e];exact Run.ok ⟨rfl,rfl⟩
theorem zk3{pt:Pt}(h:PtW pt)(ha:zlR pt at'):zaZ [pt.e,onD at'] m = .ok (.int (lsz pt at')) m:=by
 apply zas;unfold zaZ zek;erw [zfM h ha];erw [zlW h];erw [show ixD (zaW pt at').e (.int 1) m = .ok (.int (zaW pt at').b) m from ix_t1 _ _ _];erw [zcH];erw [show zfd [shD pt.fs pt.n,(zaW pt at').e] m = .ok (.int ((zdA pt.fs (zaW pt at').wys).sum:Nat)) m from znv h.sh h.f1 (zlt h ha).wy];ac_nf;rw[zom h];ac_nf;refine Run.ok ⟨?_,rfl⟩;unfold lsz;congr 1
theorem zfX(l:List Nat):(⟨l.toArray⟩:ae).cps.size=l.length:=yM ..
theorem sl_txL{l:List Nat}(h:l.length<=1000000)(H:b<=l.length):slD (.str ⟨l.toArray⟩) ab (aa (b:Int)) m = .ok (.str ⟨(l.take b).toArray⟩) m:=by
 rw[znu (show (⟨l.toArray⟩:ae).cps.size<=sizeLine by rw[zfX];exact yO h (by decide))];congr 2;exact zfZ (by rw[Mth.slice_lo _ _ (by rw[zfX];exact H)])
theorem zub{l:List Nat}{a:Nat}(h:l.length<=1000000)(ha:a<=b)(H:b<=l.length):slD (.str ⟨l.toArray⟩) (aa (a:Int)) (aa (b:Int)) m = .ok (.str ⟨((l.drop a).take (b-a)).toArray⟩) m:=by
 rw[znu (show (⟨l.toArray⟩:ae).cps.size<=sizeLine by rw[zfX];exact yO h (by decide))];congr 2;exact zfZ (by rw[Mth.slice_mid _ _ _ ha (by rw[zfX];exact H)])
theorem sl_txH{l:List Nat}{a:Nat}(h:l.length<=1000000)(ha:a<=l.length):slD (.str ⟨l.toArray⟩) (aa (a:Int)) ab m = .ok (.str ⟨(l.drop a).toArray⟩) m:=by
 rw[znu (show (⟨l.toArray⟩:ae).cps.size<=sizeLine by rw[zfX];exact yO h (by decide))];congr 2;exact zfZ (by rw[Mth.slice_hi _ _ (by rw[zfX];exact ha)])
theorem zj4{l:List Nat}(h:Bin l):zbA [.str ⟨l.toArray⟩] m = .ok (.int (ze7 l)) m:=zas (ziR (z:=⟨l.toArray⟩) h)
theorem zsy{l:List Nat}(h:Bin l):zfL [.str ⟨l.toArray⟩] m = .ok (.bl ac) m:=by
 apply zas;unfold zfL zls;erw [show zpt "str" (.str ⟨l.toArray⟩) m = .ok (.bl ac) m from rfl];ac_nf;refine Run.bind (zbD (fun k ρ m'=>∃x,ρ = [aa (.str ⟨l.toArray⟩),x]/\m'=m) (zgR ⟨l.toArray⟩) 0 ⟨_,rfl,rfl⟩ ?_) ?_
 ·rintro i d ρ m' hd ⟨x,rfl,rfl⟩;obtain⟨c,H,rfl⟩:=znw hd;ac_nf;rcases h c (yai H) with rfl|rfl
  ·rw[if_neg (by decide)];ac_nf;exact Run.ok ⟨_,rfl,_,rfl,rfl⟩
  ·rw[if_pos (by decide),show (!decide ((⟨#[49]⟩:ae)=yaa "1"))=ag by decide];ac_nf;exact Run.ok ⟨_,rfl,_,rfl,rfl⟩
 ·rintro _ m' ⟨ρ,rfl,x,rfl,rfl⟩;ac_nf;exact Run.ok ⟨rfl,rfl⟩
theorem le_wdN(n:Nat):n<=2^wdN n:=yb6 (mt wdN_lt.mp (yao _))
theorem wdN_li{n:Nat}:((n:Nat):Int)<=2^wdN n:=by exact_mod_cast le_wdN n
theorem zuX{pt:Pt}(ha:zlR pt at'):0<=znt at'/\znt at'<=pt.fms.length:=by
 cases at' with
 |none=>exact⟨ybd _,by simp[znt]⟩|some i=>
  have:i<pt.fms.length:=ha;simp only[znt];omega
theorem zq3{x:Int}{n:Nat}(H:0<=x)(h:x<n):ze7 (dgs x (wdN n))=x:=by
 rw[zg5];exact ybV H (Int.lt_of_lt_of_le h wdN_li)
theorem ziI{pt:Pt}{r:List Nat}(h:PtW pt)(ha:zlR pt at')(hl:(dgs (znt at') (wdN (1+pt.fms.length))++r).length<=1000000):zb5 [pt.e,.str ⟨(dgs (znt at') (wdN (1+pt.fms.length))++r).toArray⟩] m = .ok (onD at') m:=by
 have H:=zuX ha;apply zas;unfold zb5 ziW;erw [zlW h];erw [sl_txL hl (by rw[yI,za0];omega),ydg (za0 _ _)];erw [zj4 (zfi _ _),zq3 H.1 (by omega)];erw [zgE];erw [yj,if_neg (by omega)];ac_nf;cases at' with
 |none=>
  rw[if_pos (show znt ab=0 from rfl)];ac_nf;exact Run.ok ⟨rfl,rfl⟩
 |some i=>
  rw[if_neg (by simp only[znt];omega)];ac_nf;refine Run.ok ⟨?_,rfl⟩;simp only[znt,onD];congr 1;omega
structure LtB(pt:Pt)(at':Option Nat)(mid:List Nat)(ck:Int):Prop where
 a:zlR pt at'
 b:Bin mid
 l:mid.length=(zaW pt at').b+(zdA pt.fs (zaW pt at').wys).sum
 c0:0<=ck
 c1:ck<pt.n
def ltB(pt:Pt)(at':Option Nat)(mid:List Nat)(ck:Int):List Nat:=dgs (znt at') (wdN (1+pt.fms.length))++(mid++dgs ck (wdN pt.n.toNat))
variable{mid:List Nat}{ck:Int}
theorem zmJ{pt:Pt}(h:LtB pt at' mid ck):(ltB pt at' mid ck).length=lsz pt at':=by
 unfold ltB lsz;rw[yI,yI,za0,za0,h.l];omega
theorem Bin.app{a b:List Nat}(h:Bin a)(h':Bin b):Bin (a++b):=fun c H=>(yae.mp H).elim (h c) (h' c)
theorem zv8{pt:Pt}(h:LtB pt at' mid ck):Bin (ltB pt at' mid ck):=(zfi _ _).app (h.b.app (zfi _ _))
theorem znV{pt:Pt}(h:PtW pt)(ha:zlR pt at'):0<lsz pt at'/\lsz pt at'<=700:=by
 have H:=zlt h ha;have b:=H.b0;have a:=H.b1;have hs:=zjm h.sh H.wy pt.fs.length (yh _);have w1:=zni (n:=1+pt.fms.length) (by have:=h.fml;omega);have w:=zni (n:=pt.n.toNat) (by have:=h.n1;omega);have c:(zdA pt.fs (zaW pt at').wys).sum<=40*pt.fs.length:=by
  have e:zig (zdA pt.fs (zaW pt at').wys) pt.fs.length=(zdA pt.fs (zaW pt at').wys).sum:=by
   unfold zig;rw[ybu (by have:=zct H.wy;omega)]
  omega
 have:=h.f1;unfold lsz;omega
theorem zrp{l:List Nat}(h:l.length<=1000000):zeB [.str ⟨l.toArray⟩] m = .ok (.int l.length) m:=by
 have e:zeB [.str ⟨l.toArray⟩] m=if l.toArray.size<=sizeLine then .ok (.int (l.toArray.size:Nat)) m else .bad:=rfl
 rw[e,yM,if_pos (yO h (by decide))]
variable{fd:EV}
theorem zv6{m2:Sto}{x:D}(H:fa ρ m = .ok x m1)(h:fd ρ m1 = .ok d m2):zph fa fd ρ m=zrj x d m2:=by
 unfold zph;rw[H,bind_ok,h,bind_ok]
theorem zpj{n k:Nat}{c:TV}(b:D->Bool)(h:fi ρ m = .ok (.ob k) m)(H:m[k]?=aa (.dct kvs))(hl:kvs.length<=1000000)(e:∀d∈zrx kvs,∃ρ1,g d (ρ ++ yn n ab) (m.set k .hid) = .ok ρ1 (m.set k .hid)/\c ρ1 (m.set k .hid) = .ok (b d) (m.set k .hid)/\el ρ1 (m.set k .hid) = .ok d (m.set k .hid)):zi9 n fi g c el ρ m = .ok (.lst ((zrx kvs).filter b)) m:=by
 unfold zi9 zwe;rw[h,bind_ok];simp only[H,if_pos hl];rw[show (kvs.map fun p=>kD p.1)=zrx kvs from rfl,zgr b (zaR H) _ e];simp only[];rw[List.set_set];congr 1;exact ydh fun j=>by
  by_cases a:k=j
  ·subst a;rw[zaR H,H]
  ·rw[zaO a]
def zfk:Option Int->D
 |none=>.non|some i=>.int i
def hlD(hl:List (Int×List Int)):List (L2.Key×D):=hl.map fun p=>(yay p.1,zdk p.2)
def ksH(hl:List (Int×List Int)):List Int:=hl.map (·.1)
theorem znX(hl:List (Int×List Int)):zrx (hlD hl)=(ksH hl).map D.int:=by
 unfold zrx hlD ksH;rw[yaf,yaf];rfl
theorem ziU:∀(hl:List (Int×List Int)),zfb (hlD hl)=aa (ksH hl)
 |[]=>rfl|p::r=>by
  show (zfb (hlD r)).map (p.1 :: ·)=_;rw[ziU r];rfl
def vlH(hl:List (Int×List Int))(n:Int):Option (List Int):=match hl with
 |[]=>ab|p::r=>if p.1=n then aa p.2 else vlH r n
theorem zjj(n:Int):∀(hl:List (Int×List Int)),zgQ (hlD hl) (.inl n)=(vlH hl n).map zdk
 |[]=>rfl|p::r=>by
  show (if (yay p.1:L2.Key) = .inl n then aa (zdk p.2) else zgQ (hlD r) (.inl n))=_;unfold vlH;by_cases h:p.1=n
  ·rw[if_pos (by rw[h]),if_pos h];rfl
  ·rw[if_neg (fun z=>h (ycu z)),if_neg h];exact zjj n r
theorem vlH_none{hl:List (Int×List Int)}:vlH hl n=ab↔n∉ksH hl:=by
 induction hl with
 |nil=>simp[vlH,ksH]|cons p r i=>
  unfold vlH;by_cases h:p.1=n
  ·simp[h,ksH]
  ·rw[if_neg h,i];simp[ksH,Ne.symm h]
theorem zfl{hl:List (Int×List Int)}(h:n∈ksH hl):∃x,vlH hl n=aa x/\(n,x)∈hl:=by
 induction hl with
 |nil=>simp[ksH]at h|cons p r i=>
  unfold vlH;by_cases e:p.1=n
  ·exact⟨p.2,if_pos e,by rw[<- e];exact yar⟩
  ·rw[if_neg e];obtain⟨x,a,H⟩:=i (by
    rcases yB.mp (show n∈p.1::ksH r from h) with z|z
    ·exact absurd z.symm e
    ·exact z)
   exact⟨x,a,yag _ H⟩
def mxB(n:Int)(ks:List Int):Option Int:=if ks.filter (fun k=>decide (k<n))=[] then ab else aa (zpr (ks.filter fun k=>decide (k<n)))
theorem zr0(b:Int->Bool)(B:D->Bool)(h:∀i,B (.int i)=b i)(ks:List Int):(ks.map D.int).filter B=(ks.filter b).map D.int:=by
 induction ks with
 |nil=>rfl|cons k r I=>
  rw[yE,ydi,h,I,ydi];split <;> rfl
theorem zo4:zrj (.lst (ns.map D.int)) d m = .ok (if ns=[] then d else .int (zpr ns)) m:=by
 unfold zrj;simp only[lOf,yaS,zcM];split <;> rfl
def ltI(n:Int):D->Bool
 |.int i=>decide (i<n)|_=>ag
def orD(o:Option Int)(d:D):D:=match o with
 |none=>d|some i=>.int i
theorem orD_i(o:Option Int)(b:Int):orD o (.int b) = .int (o.getD b):=by cases o <;> rfl
theorem orD_n(o:Option Int):orD o .non=zfk o:=by cases o <;> rfl
theorem maxK{k i1:Nat}{hl:List (Int×List Int)}{fn:EV}(hi:i1=ρ.length)(h:fi ρ m = .ok (.ob k) m)(b:m[k]?=aa (.dct (hlD hl)))(H:hl.length<=1000000)(hn:∀x m',fn (ρ ++ [aa x]) m' = .ok (.int n) m')(hd:fd ρ m = .ok d m) : zph (zi9 1 fi (gN i1) (tV (eOp ltD (zad i1) fn)) (zad i1)) fd ρ m = .ok (orD (mxB n (ksH hl)) d) m:=by
 subst hi;rw[zv6 (zpj (ltI n) h b (by rw[hlD,yj];exact H) (by
  intro x a;rw[znX]at a;obtain⟨i,hi,rfl⟩:=yah.mp a;have c:∀m',gN ρ.length (.int i) (ρ ++ yn 1 ab) m' = .ok (ρ ++ [aa (.int i)]) m':=fun m'=>by
   show Res.ok ((ρ ++ [ab]).set ρ.length (aa (.int i))) m'=_;rw[ybj _ _ (yh _),yaD];rfl
  have hv:∀m',zad ρ.length (ρ ++ [aa (.int i)]) m' = .ok (.int i) m':=fun m'=>by
   unfold zad;rw[yan (yh _),yaD];rfl
  refine⟨_,c _,?_,hv _⟩;unfold tV eOp;rw[hv,bind_ok,hn,bind_ok];rfl)) hd,znX,zr0 (fun k=>decide (k<n)) (ltI n) (fun _=>rfl),zo4]
 unfold mxB;split <;> rfl
theorem zjL{k:L2.Key}{d:D}:∀{a:List (L2.Key×D)},zgQ a k=ab->zjM a k d=a++[(k,d)]
 |[],_=>rfl|p::r,h=>by
  unfold zgQ at h;by_cases e:p.1=k
  ·rw[if_pos e]at h;cases h
  ·rw[if_neg e]at h;unfold zjM;rw[if_neg e,zjL h];rfl
theorem znl{k:L2.Key}{q:L2.Key×D}(h:q.1≠k):∀{a:List (L2.Key×D)},zgQ (a++[q]) k=zgQ a k
 |[]=>by show (if q.1=k then aa q.2 else ab)=ab;rw[if_neg h]|p::r=>by
  show (if p.1=k then aa p.2 else zgQ (r++[q]) k)=(if p.1=k then aa p.2 else zgQ r k);rw[znl h]
theorem zgt{g:GV}{c:TV}{E e:EV}{ρ : En}{m:Sto}(b:Int->Bool)(f:Int->D):∀(ks:List Int)(a:List (L2.Key×D)),(∀k∈ks,∃d,g (.int k) ρ m = .ok d m/\c d m = .ok (b k) m/\(b k=ac->E d m = .ok (.int k) m/\e d m = .ok (f k) m))->ks.Nodup →
  (∀k∈ks,zgQ a (.inl k)=ab)->zg0 g c E e ρ (ks.map D.int) a m = .ok (a++(ks.filter b).map fun k=>(yay k,f k)) m
 |[],a,_,_,_=>by rw[yba,zg0];simp|k::r,a,h,hn,hd=>by
  obtain⟨d,h1,h2,q⟩:=h k yar;obtain⟨n1,n⟩:=ya7.mp hn;rw[yE,zg0,h1,bind_ok,h2,bind_ok,ydi];cases l:b k with
  |false=>
   rw[if_neg yR,if_neg yR];exact zgt b f r a (fun k H=>h k (yag _ H)) n fun k H=>hd k (yag _ H)
  |true=>
   obtain⟨p,o⟩:=q l;rw[if_pos rfl,if_pos rfl,p,bind_ok,o,bind_ok];show zg0 g c E e ρ (r.map D.int) (zjM a (.inl k) (f k)) m=_;rw[zjL (hd k yar),zgt b f r _ (fun k H=>h k (yag _ H)) n fun j i=>by
    rw[znl fun z=>n1 (by rw[ycu z];exact i)];exact hd j (yag _ i)]
   simp
def lstV(hl:List (Int×List Int))(bound:Int):Int:=(mxB bound (ksH hl)).getD bound
def zdi(hl:List (Int×List Int))(bound:Int):List (Int×List Int):=((zeQ (ksH hl)).filter fun k=>decide (lstV hl bound<=k)).map fun k=>(k,(vlH hl k).getD [])
variable{x:List Int}{h:Nat}
theorem ix_h{hl:List (Int×List Int)}(H:m[h]?=aa (.dct (hlD hl)))(e:vlH hl n=aa x):ixD (.ob h) (.int n) m = .ok (zdk x) m:=by
 show (match m[h]? with
  |some (.lst ds)=>opt (L2.atI ds n) m|some (.dct kvs)=>opt (zgQ kvs (.inl n)) m|_=>.bad)=_
 rw[H];show opt (zgQ (hlD hl) (.inl n)) m=_;rw[zjj,e];rfl
theorem in_h{hl:List (Int×List Int)}(H:m[h]?=aa (.dct (hlD hl))):MD.inD (.int n) (.ob h) m = .ok (.bl (vlH hl n).isSome) m:=by
 unfold MD.inD inO;simp only[H];rw[zjj,yci]
theorem zuZ{hl:List (Int×List Int)}(a:m[h]?=aa (.dct (hlD hl)))(H:hl.length<64):zhd [.ob h] m = .ok (.lst (zpb (zeQ (ksH hl)))) m:=by
 unfold zhd dOf;simp only[a,yaS,ziU];rw[if_pos (by rw[ksH,yj];exact H)]
theorem zuM{hl:List (Int×List Int)}{bound:Int}(f:m[h]?=aa (.dct (hlD hl)))(b:hl.length<64)(hn:(ksH hl).Nodup) : zbT [.ob h,.int bound] m = .ok (.ob m.length) (m++[.dct (hlD (zdi hl bound))]):=by
 have H:(zeQ (ksH hl)).Nodup:=(zbS _).nodup_iff.mpr hn;have key:Run (zbT [.ob h,.int bound] m) fun a m'=>a = .ob m.length/\m'=m++[.dct (hlD (zdi hl bound))]:=by
  unfold zbT zhV;erw [maxK (k:=h) (i1:=3) (fi:=zad 0) (fd:=zad 1) (fn:=zad 1) (ρ := [aa (.ob h),aa (.int bound),ab]) (hl:=hl) (n:=bound) (d := .int bound) rfl rfl f (by omega) (fun _ _=>rfl) rfl];rw[orD_i,show (mxB bound (ksH hl)).getD bound=lstV hl bound from rfl];ac_nf;unfold zr6;have g:∀x,aIt (eFn zhd (zac (zad 0) zaj)) [aa (.ob h),aa (.int bound),x] m = .ok ((zeQ (ksH hl)).map D.int) m:=fun x=>by
   unfold aIt eFn zac zaj;show ((zhd [.ob h] m).bind zm6)=_;rw[zuZ f b,bind_ok];rfl
  rw[g,bind_ok,if_pos (by rw[yj,zhe,ksH,yj];omega)];rw[zgt (fun k=>decide (lstV hl bound<=k)) (fun k=>zdk ((vlH hl k).getD [])) _ [] (by
   intro k c;obtain⟨x,i,_⟩:=zfl ((zbS _).mem_iff.mp c);refine⟨[aa (.ob h),aa (.int bound),aa (.int (lstV hl bound)),aa (.int k)],rfl,rfl,fun _=>⟨rfl,?_⟩⟩;show ixD (.ob h) (.int k) m=_;rw[ix_h f i,i];rfl) H (fun _ _=>rfl),bind_ok]
  ac_nf;refine Run.ok ⟨rfl,?_⟩;rw[zdi,hlD,yaf];rfl
 obtain⟨a,m',e,rfl,rfl⟩:=key;exact e
def rdF(pt:D)(top:Option Int)(h:Nat):List (ae×D):=[("pact", pt),("highest", zfk top),("held", .ob h)]
structure RdAt(m:Sto)(k h:Nat)(pt:Pt)(top:Option Int)(hl:List (Int×List Int)):Prop where
 self:m[k]?=aa (.ins "Reader" (rdF pt.e top h))
 dct:m[h]?=aa (.dct (hlD hl))
 kh:k≠h
theorem RdAt.app{r:Sto}{k:Nat}{pt:Pt}{top:Option Int}{hl:List (Int×List Int)}(x:RdAt m k h pt top hl):RdAt (m++r) k h pt top hl:=⟨zcG x.self,zcG x.dct,x.kh⟩
theorem RdAt.lt{k:Nat}{pt:Pt}{top:Option Int}{hl:List (Int×List Int)}(x:RdAt m k h pt top hl):k<m.length/\h<m.length:=⟨(yi.mp x.self).1,(yi.mp x.dct).1⟩
theorem RdAt.fr{k:Nat}{pt:Pt}{top:Option Int}{hl:List (Int×List Int)}(x:RdAt m k h pt top hl)(f:Fr p q m m')(a:k≠p)(b:k≠q)(c:h≠p)(d:h≠q):RdAt m' k h pt top hl :=
 ⟨by rw[f.at' k x.lt.1 a b];exact x.self,by rw[f.at' h x.lt.2 c d];exact x.dct,x.kh⟩
variable{t:Int}{ks:List Int}
section
variable{k:Nat}{pt:Pt}{top:Option Int}{hl:List (Int×List Int)}
theorem RdAt.pact(x:RdAt m k h pt top hl):zih "Reader" "pact" (.ob k) m = .ok pt.e m:=zcA x.self rfl
theorem RdAt.high(x:RdAt m k h pt top hl):zih "Reader" "highest" (.ob k) m = .ok (zfk top) m:=zcA x.self rfl
theorem RdAt.held(x:RdAt m k h pt top hl):zih "Reader" "held" (.ob k) m = .ok (.ob h) m:=zcA x.self rfl
theorem RdAt.meth(x:RdAt m k h pt top hl){f:ae}(e:(rdF pt.e top h).lookup f=ab):zeC "Reader" f (.ob k) m=ac:=zrb x.self e
theorem zur(r:Rd4):ixD r.e (.int 2) m = .ok (.int r.late) m:=ix_t2 _ _ _ _
theorem zjI(x:RdAt m k h pt (aa t) hl):zaM [.ob k] m = .ok (.int (t-pt.rd.late)) m:=by
 apply zas;unfold zaM zfA;erw [x.high];simp only[zfk];erw [x.pact];erw [zlb];erw [zur];ac_nf;exact Run.ok ⟨rfl,rfl⟩
def ziB(pt:Pt)(top:Option Int)(n:Int):Bool:=decide (n<0)||(match top with
 |some t=>decide (n<t-pt.rd.late)|none=>ag)
theorem late_w(x:RdAt m k h pt top hl):zbG [.ob k,.int n] m = .ok (.bl (ziB pt top n)) m:=by
 apply zas;unfold zbG zeJ;ac_nf;by_cases hn:n<0
 ·rw[if_pos hn];ac_nf;exact Run.ok ⟨by simp[ziB,hn],rfl⟩
 ·rw[if_neg hn];erw [x.high];cases top with
  |none=>
   simp only[zfk];ac_nf;exact Run.ok ⟨by simp[ziB,hn],rfl⟩
  |some t=>
   simp only[zfk];erw [if_pos (x.meth rfl)];erw [zjI x];ac_nf;exact Run.ok ⟨by simp[ziB,hn],rfl⟩
theorem zum(x:RdAt m k h pt top hl)(H:hl.length<64):zbc [.ob k,.int n] m = .ok (zfk (mxB n (ksH hl))) m:=by
 apply zas;unfold zbc zej;erw [maxK (k:=h) (i1:=2) (fi:=zaT "Reader" "held" (zad 0)) (fd:=eC .non) (fn:=zad 1) (ρ := [aa (.ob k),aa (.int n)]) (hl:=hl) (n:=n) (d := .non) rfl x.held x.dct (by omega) (fun _ _=>rfl) rfl,orD_n];ac_nf;exact Run.ok ⟨rfl,rfl⟩
def zsE(hl:List (Int×List Int))(n:Int)(reach:Nat):Bool:=match mxB n (ksH hl) with
 |none=>ac|some f=>decide ((reach:Int)<n-f)
theorem far_w(x:RdAt m k h pt top hl)(H:hl.length<64):zbV [.ob k,.int n,.int reach] m = .ok (.bl (zsE hl n reach)) m:=by
 apply zas;unfold zbV zfB;erw [if_pos (x.meth rfl)];erw [zum x H];unfold zsE;cases mxB n (ksH hl) with
 |none=>
  simp only[zfk];ac_nf;exact Run.ok ⟨rfl,rfl⟩
 |some f=>
  simp only[zfk];ac_nf;exact Run.ok ⟨rfl,rfl⟩
def zdI(pt:Pt)(hl:List (Int×List Int))(at':Option Nat)(n:Int)(b:List Nat):List Int:=match at' with
 |none=>(yJ (pt.fs.map fun f=>f.b).length).map (zmD b (pt.fs.map fun f=>f.b))|some i=>match mxB n (ksH hl) with
  |none=>[]|some f=>hdV pt.fs (zaW pt (aa i)).wys ((vlH hl f).getD []) (n-f) b pt.fs.length
theorem zj6{f:Int}(e:mxB n ks=aa f):f∈ks/\f<n/\∀g∈ks,g<n->g<=f:=by
 unfold mxB at e;split at e
 ·cases e
 ·rename_i H;have e:=yad e;have h:=ztE H;have c:=fun g (b:g∈ks.filter fun k=>decide (k<n))=>zrs b;rw[e]at h c;rw[ya1]at h;exact⟨h.1,by simpa using h.2,fun g b a=>c g (ya1.mpr ⟨b,by simpa using a⟩)⟩
theorem znR(e:mxB n ks=ab):∀g∈ks,n<=g:=fun g H=>by
 unfold mxB at e;split at e
 ·rename_i h;have:=List.filter_eq_nil_iff.mp h g H;simp at this;exact this
 ·cases e
end
section
variable{k:Nat}{pt:Pt}{top:Option Int}{hl:List (Int×List Int)}
def zba(top:Option Int)(n:Int):Int:=match top with
 |none=>n|some t=>if t<n then n else t
theorem Fr.app{r:Sto}:Fr p q m (m++r):=⟨by rw[yI];omega,fun j h _ _=>yab h⟩
theorem zny(x:RdAt m k h pt top hl)(H:hl.length<64)(hn:(ksH hl).Nodup):Run (zbw [.ob k,.int n] m) fun a m'=>a = .non/\RdAt m' k m.length pt (aa (zba top n)) (zdi hl (zba top n-pt.rd.late))/\Fr k h m m':=by
 have e:(eIf (tV (eOp isD (zaT "Reader" "highest" (zad 0)) (eC .non))) (zad 1) (eFn zeA (zac (zaT "Reader" "highest" (zad 0)) (zac (zad 1) zaj)))) [aa (.ob k),aa (.int n)] m = .ok (zfk (aa (zba top n))) m:=by
  erw [x.high];cases top with
  |none=>simp only[zfk];ac_nf;rfl|some t=>
   simp only[zfk];erw [x.high];simp only[zfk];ac_nf;rfl
 unfold zbw zgI;have key:∀(fo:EV)(s:SV),Run ((zar (zbL "Reader" "highest" (zad 0) fo) s [aa (.ob k),aa (.int n)] m).bind zi8)=Run ((((fo [aa (.ob k),aa (.int n)] m).bind fun y m1=>(zsO "Reader" "highest" (.ob k) y m1).bind fun _ M=>s [aa (.ob k),aa (.int n)] M)).bind zi8):=by
  intro fo s;congr 2;unfold zar zbL;cases fo [aa (.ob k),aa (.int n)] m with
  |ok y m1=>
   simp only[bind_ok];show Res.bind (Res.bind (Res.bind (zad 0 [aa (.ob k),aa (.int n)] m1) _) _) _=_;show Res.bind (Res.bind (zsO "Reader" "highest" (.ob k) y m1) _) _=_;cases zsO "Reader" "highest" (.ob k) y m1 <;> rfl
  |exc=>rfl|bad=>rfl
 rw[show zaU 2 (zar (zbL "Reader" "highest" (zad 0) (eIf (tV (eOp isD (zaT "Reader" "highest" (zad 0)) (eC .non))) (zad 1) (eFn zeA (zac (zaT "Reader" "highest" (zad 0)) (zac (zad 1) zaj))))) (zbL "Reader" "held" (zad 0) (eFn zbT (zac (zaT "Reader" "held" (zad 0)) (zac (zbl "Reader" "least" zaM (zad 0) zaj) zaj))))) [.ob k,.int n] m=Res.bind (zar (zbL "Reader" "highest" (zad 0) (eIf (tV (eOp isD (zaT "Reader" "highest" (zad 0)) (eC .non))) (zad 1) (eFn zeA (zac (zaT "Reader" "highest" (zad 0)) (zac (zad 1) zaj))))) (zbL "Reader" "held" (zad 0) (eFn zbT (zac (zaT "Reader" "held" (zad 0)) (zac (zbl "Reader" "least" zaM (zad 0) zaj) zaj)))) [aa (.ob k),aa (.int n)] m) zi8 from rfl,key,e,bind_ok,zbO x.self (by show 3<1000;decide),bind_ok];have x1:RdAt (m.set k (.ins "Reader" (rdF pt.e (aa (zba top n)) h))) k h pt (aa (zba top n)) hl:=⟨zaR x.self,by rw[zaO x.kh];exact x.dct,x.kh⟩;have f1:Fr k h m (m.set k (.ins "Reader" (rdF pt.e (aa (zba top n)) h))):=Fr.set;have l1:(m.set k (.ins "Reader" (rdF pt.e (aa (zba top n)) h))).length=m.length:=yaw ..;rw[show zbh "highest" (zfk (aa (zba top n))) (rdF pt.e top h)=rdF pt.e (aa (zba top n)) h from rfl];generalize m.set k (.ins "Reader" (rdF pt.e (aa (zba top n)) h))=m1 at x1 f1 l1 ⊢;erw [x1.held];erw [if_pos (x1.meth rfl)];erw [zjI x1];erw [zuM x1.dct H hn];ac_nf;have X:=x1.app (r:=[.dct (hlD (zdi hl (zba top n-pt.rd.late)))]);rw[zbO X.self (by show 3<1000;decide)];ac_nf;have b:=x1.lt;refine Run.ok ⟨rfl,⟨?_,?_,by omega⟩,(f1.trans Fr.app).trans Fr.set⟩
 ·rw[zaR X.self];rfl
 ·rw[zaO (by omega),<- l1];simp
end
variable{num bits:List Nat}
theorem ztu{pt:Pt}(h:PtW pt)(hl:LtB pt at' (num++bits) ck)(b:num.length=(zaW pt at').b):zgp [pt.e,.str ⟨(ltB pt at' (num++bits) ck).toArray⟩] m = .ok (.tup [onD at',.int (ze7 num),.str ⟨bits.toArray⟩,.int ck]) m:=by
 have j:=znV h hl.a;have hn:=zmJ hl;have a:=hl.c0;have d:=hl.c1;have k:=h.n0;have H:=hl.l;rw[yI]at H;have i:∀m,ixD (zaW pt at').e (.int 1) m = .ok (.int (zaW pt at').b) m:=fun m=>ix_t1 _ _ _;have l:lsz pt at'=wdN (1+pt.fms.length)+(zaW pt at').b+(zdA pt.fs (zaW pt at').wys).sum+wdN pt.n.toNat:=rfl;have f:(ltB pt at' (num++bits) ck).drop (lsz pt at'-wdN pt.n.toNat)=dgs ck (wdN pt.n.toNat):=by
  unfold ltB;rw[<- yaq];exact ycs (by rw[yI,za0,hl.l];omega)
 have E:((ltB pt at' (num++bits) ck).drop (wdN (1+pt.fms.length))).take (zaW pt at').b=num:=by
  unfold ltB;rw[ycs (za0 _ _),yaq];exact ydg b
 have g:((ltB pt at' (num++bits) ck).drop (wdN (1+pt.fms.length)+(zaW pt at').b)).take (lsz pt at'-wdN pt.n.toNat-(wdN (1+pt.fms.length)+(zaW pt at').b))=bits:=by
  unfold ltB;rw[<- List.drop_drop,ycs (za0 _ _),yaq,ycs b];exact ydg (by omega)
 apply zas;unfold zgp zn5;erw [zsy (zv8 hl)];erw [show zb5 [pt.e,.str ⟨(ltB pt at' (num++bits) ck).toArray⟩] m = .ok (onD at') m from ziI h hl.a (by rw[show (dgs (znt at') (wdN (1+pt.fms.length))++((num++bits)++dgs ck (wdN pt.n.toNat))).length=lsz pt at' from hn];omega)];erw [zrp (by omega)];erw [zk3 h hl.a,hn];erw [zlW h];erw [zfM h hl.a];erw [i];erw [zrp (by omega),hn];erw [zom h];erw [show ((lsz pt at':Nat):Int)-(wdN pt.n.toNat:Nat)=((lsz pt at'-wdN pt.n.toNat:Nat):Int) by omega,sl_txH (by omega) (by omega),f];erw [zj4 (zfi _ _),zq3 a (by omega)];ac_nf;rw[zcH];erw [show ixD (shD pt.fs pt.n) (.int 1) m = .ok (.int pt.n) m from ix_t1 _ _ _];erw [if_neg (by omega)];erw [show ((wdN (1+pt.fms.length):Nat):Int)+((zaW pt at').b:Nat)=((wdN (1+pt.fms.length)+(zaW pt at').b:Nat):Int) by omega,zub (by omega) (by omega) (by omega),yd7,E];erw [zj4 (fun c e=>hl.b c (yaj _ e))];erw [zub (by omega) (by omega) (by omega),g];erw [show zbr [onD at',.int (ze7 num),.str ⟨bits.toArray⟩,.int ck] m = .ok (.tup [onD at',.int (ze7 num),.str ⟨bits.toArray⟩,.int ck]) m from if_pos (zbW (by simp))];ac_nf;exact Run.ok ⟨rfl,rfl⟩
def ckI(pt:Pt)(number:Int)(hd:List Int):Int:=(number+ckS hd)%pt.n
def ckFn(d:D):D:=match d with
 |.tup [.int i,.int v]=>D.int ((i+2)*v)|_=>.non
theorem zr4(hd:List Int):(zcJ 0 (hd.map D.int)).map ckFn=((yJ hd.length).map fun i:Nat=>(((0+i:Nat):Int)+2)*hd.getD i 0).map D.int:=zkg hd hd 0
theorem zsn{pt:Pt}{number:Int}(h:PtW pt)(f:HdOk pt.fs hd):zb8 [shD pt.fs pt.n,.int number,zdk hd] m = .ok (.int (ckI pt number hd)) m:=by
 have hl:=f.len;have n:=h.f1;apply zas;unfold zb8 zh9 zdk;ac_nf;rw[zcc (ds:=zcJ 0 (hd.map D.int)) ckFn (by ac_nf) (by rw[zdN];omega) (by
  intro d c;obtain⟨i,hi⟩:=yby.mp c;obtain⟨v,hv,rfl⟩:=zfh hi;have k:=(yi.mp hv).1;refine⟨_,rfl,?_⟩;show (eOp zez (eOp zbN (zad 3) (eC (.int 2))) (zad 4)) [aa (shD pt.fs pt.n),aa (.int number),aa (.tup (hd.map D.int)),aa (.int ((0+i:Nat):Int)),aa (.int v)] m=_;erw [ziA ⟨by omega,by omega⟩];rfl)]
 ac_nf;rw[zr4 hd,sum_i ⟨fun a b=>by
  simp only[yah,yaI]at b;obtain⟨i,hi,rfl⟩:=b;have g:=yu (show i<pt.fs.length by omega);have E:=yu hi;obtain⟨V,j⟩:=f.at' i _ _ g E;have l:=p2le (h.sh i _ g).2.1;simp only[yaQ,E,yaR];have e:((0+i:Nat):Int)+2<=14:=by omega
  have H:0<=((0+i:Nat):Int)+2:=by omega
  generalize ((0+i:Nat):Int)+2=q at e H;generalize hd[i]=v at V j;refine⟨ydc H V,?_⟩;have:q*v<=14*v:=ycW e V;omega,by simp;omega⟩]
 erw [show ixD (shD pt.fs pt.n) (.int 1) m = .ok (.int pt.n) m from ix_t1 _ _ _];erw [zcV h.n0];refine Run.ok ⟨?_,rfl⟩;unfold ckI ckS;simp only[yL]
theorem wsW(pt:Pt):zdA pt.fs (fmW pt).wys=pt.fs.map fun f=>f.b:=by
 unfold zdA fmW;induction pt.fs with
 |nil=>rfl|cons f r i=>
  show Wy.w f.b .whole::ybh (fun f w=>Wy.w f.b w) r (yn r.length .whole)=_;rw[i];rfl
section
variable{k:Nat}{pt:Pt}{top:Option Int}{hl:List (Int×List Int)}
theorem zlf(x:RdAt m k h pt top hl)(a:PtW pt)(ha:zlR pt at')(d:hl.length<64)(j:Bin bits)(c:bits.length=(zdA pt.fs (zaW pt at').wys).sum)(b:at'≠ab->∃f,mxB n (ksH hl)=aa f)(e:∀p∈hl,HdOk pt.fs p.2) : zbi [.ob k,onD at',.int n,.str ⟨bits.toArray⟩] m = .ok (zdk (zdI pt hl at' n bits)) m:=by
 have l:=a.f1;have g:=zlt a ha;have hsz:bits.length<=700:=by
  have:=(znV a ha).2;unfold lsz at this;omega
 have H:(⟨bits.toArray⟩:ae).length<=sizeLine:=by
  show bits.toArray.size<=sizeLine;rw[yM];exact yO hsz (by decide)
 apply zas;unfold zbi zdS;cases at' with
 |none=>
  simp only[onD];erw [x.pact];erw [zcH];erw [zas (zeq (by omega))];ac_nf;rw[show (pt.fs.map fun f=>D.int f.b)=(pt.fs.map fun f=>f.b).map (fun k:Nat=>D.int k) by rw[yaf];rfl,zas (zhI (z:=⟨bits.toArray⟩) j H (by
   show _<=bits.toArray.size;rw[yM,c,show zaW pt ab=fmW pt from rfl,wsW];exact yh _) (by rw[yj];omega))]
  ac_nf;exact Run.ok ⟨rfl,rfl⟩
 |some i=>
  obtain⟨f,b⟩:=b (by simp);obtain⟨hm,_,_⟩:=zj6 b;obtain⟨fo,E,o⟩:=zfl hm;simp only[onD];erw [if_pos (x.meth rfl)];erw [zum x d,b];simp only[zfk];erw [x.pact];erw [zcH];erw [x.pact];erw [show zbd [pt.e,.int i] m = .ok (zaW pt (aa i)).e m from zfM (at':=aa i) a ha];erw [x.held];erw [ix_h x.dct E];ac_nf;unfold Fm.e zdk;rw[zas (ziP a.sh l g.wy (e _ o) (z:=⟨bits.toArray⟩) j H (by show bits.toArray.size=_;rw[yM];exact c))];ac_nf;refine Run.ok ⟨?_,rfl⟩;unfold zdI;simp only[b,E,yaR]
end
def notD(x:ae):D := .tup [.str "not", .str x]
def twD(n:Int):D := .tup [.str "twice", .int n]
def rdD(n:Int)(hd:List Int):D := .tup [.str "read", .int n,zdk hd]
def ztA(pt:Pt)(top:Option Int)(at':Option Nat)(r:Int):Int:=match at',top with
 |some i,aa t=>(t-pt.rd.late)+(r-(t-pt.rd.late))%2^(zaW pt (aa i)).b|_,_=>r
def rdN(pt:Pt)(top:Option Int)(hl:List (Int×List Int))(at':Option Nat)(n:Int)(b:List Nat)(ck:Int):D×Option Int×List (Int×List Int) :=
 if ziB pt top n=ac then (notD "late", top,hl)
 else if n∈ksH hl then (twD n,top,hl)
 else if at'≠ab/\zsE hl n (zaW pt at').a=ac then (notD "far", aa (zba top n),zdi hl (zba top n-pt.rd.late))
 else if ckI pt n (zdI pt hl at' n b)≠ck then (notD "check", top,hl)
 else (rdD n (zdI pt hl at' n b),aa (zba top n),zdi (hl++[(n,zdI pt hl at' n b)]) (zba top n-pt.rd.late))
def rdV(pt:Pt)(top:Option Int)(hl:List (Int×List Int))(at':Option Nat)(r:Int)(b:List Nat)(ck:Int):D×Option Int×List (Int×List Int) :=
 if at'≠ab/\top=ab then (notD "blank", top,hl) else rdN pt top hl at' (ztA pt top at' r) b ck
def zqh:SV:=by walk_at "#u>xCxDr|t%t0s;#w&Bt!7t5[sJxEJq9v|sI/q+uAv$v%sHq%tet5"
def zqg:SV:=by walk_at "#q#q;r2x<x=sHsJx>Ja{t/sIq%v#`Jq#rWs2(q$q;r2x?xA'`B#s3u?qE7%uAv$v%sHsJxBJ{u"
theorem zrR:zgJ=(zar (zaJ (eFn zgp (zac (zaT "Reader" "pact" (zad 0)) (zac (zad 1) zaj))) (gT 4 (zaA (gN 2) (zaA (gN 3) (zaA (gN 4) (zaA (gN 5) zcw))))))
 (zar (sIf (tV (eOp zgm (zad 2) (eC .non)))
 (zar (sIf (tV (eOp isD (zaT "Reader" "highest" (zad 0)) (eC .non)))
 (zaE (eFn zbr (zac (eC (.str "not")) (zac (eC (.str "blank")) zaj))))
 za3)
 (zaJ (eFn zbP (zac (zbl "Reader" "least" zaM (zad 0) zaj) (zac (zad 3) (zac (eOp ixD (eFn zbd (zac (zaT "Reader" "pact" (zad 0)) (zac (zad 2) zaj))) (eC (.int 1))) zaj)))) (gN 3)))
 za3) zqg)):=rfl
theorem zor{l r:Int}{w:Nat}(h:w<=1000000):zbP [.int l,.int r,.int w] m = .ok (.int (l+(r-l)%2^w)) m:=by
 apply zas;unfold zbP zgo;erw [zas (zci h)];ac_nf;exact Run.ok ⟨rfl,rfl⟩
theorem put_h{hl:List (Int×List Int)}(a:m[h]?=aa (.dct (hlD hl)))(hn:n∉ksH hl)(H:hl.length<1000):zin (.ob h) (.int n) (zdk x) m = .ok () (m.set h (.dct (hlD (hl++[(n,x)])))):=by
 unfold zin;simp only[a,zk9];rw[if_pos (by rw[hlD,yj];exact zbC (by omega)),zjL (by rw[zjj,vlH_none.mpr hn];rfl)];congr 3;unfold hlD;rw[yak];rfl
variable{x1 x6:Option D}
section
variable{k:Nat}{pt:Pt}{top:Option Int}{hl:List (Int×List Int)}
def RdB(m:Sto)(k h:Nat)(pt:Pt)(v:D×Option Int×List (Int×List Int))(a:D)(m':Sto):Prop:=∃h',a=v.1/\RdAt m' k h' pt v.2.1 v.2.2/\Fr k h m m'/\(h'=h∨m.length<=h')
theorem znq(x:RdAt m k h pt top hl)(j:PtW pt)(ha:zlR pt at')(v:hl.length<63)(hn:(ksH hl).Nodup)(t:Bin bits)(s:bits.length=(zdA pt.fs (zaW pt at').wys).sum)(r:∀p∈hl,HdOk pt.fs p.2)(hok:ziB pt top n=ag->n∉ksH hl->(at'=ab∨zsE hl n (zaW pt at').a=ag)->HdOk pt.fs (zdI pt hl at' n bits)) : Run ((zqg [aa (.ob k),x1,aa (onD at'),aa (.int n),aa (.str ⟨bits.toArray⟩),aa (.int ck),x6] m).bind zi8) (RdB m k h pt (rdN pt top hl at' n bits ck)):=by
 unfold zqg;erw [if_pos (x.meth rfl)];erw [late_w x];unfold rdN;cases q:ziB pt top n with
 |true=>
  rw[if_pos rfl];ac_nf;exact Run.ok ⟨h,rfl,x,Fr.refl,.inl rfl⟩
 |false=>
 rw[if_neg yR];erw [x.held];erw [in_h x.dct];by_cases c:n∈ksH hl
 ·obtain⟨y,u,_⟩:=zfl c;rw[if_pos c,u];simp only[ydR];ac_nf;exact Run.ok ⟨h,rfl,x,Fr.refl,.inl rfl⟩
 rw[if_neg c,vlH_none.mpr c];simp only[Option.isSome_none];ac_nf;have l:(at'=ab∨zsE hl n (zaW pt at').a=ag)->Run ((zqh [aa (.ob k),x1,aa (onD at'),aa (.int n),aa (.str ⟨bits.toArray⟩),aa (.int ck),x6] m).bind zi8)
  (RdB m k h pt (if ckI pt n (zdI pt hl at' n bits)≠ck then (notD "check", top,hl) else (rdD n (zdI pt hl at' n bits),aa (zba top n),zdi (hl++[(n,zdI pt hl at' n bits)]) (zba top n-pt.rd.late)))):=by
  intro d;have w:=hok q c d;unfold zqh;erw [if_pos (x.meth rfl)];ac_nf;rw[zlf x j ha (by omega) t s (fun o=>by
   rcases d with z|z
   ·exact absurd z o
   ·unfold zsE at z;cases e:mxB n (ksH hl) with
    |none=>rw[e]at z;cases z|some f=>exact⟨f,rfl⟩) r]
  erw [x.pact];erw [zcH];erw [zsn j w];ac_nf;by_cases H:ckI pt n (zdI pt hl at' n bits)=ck
  ·rw[if_neg (by simpa using H)];rw[if_neg (not_not_intro H)];erw [x.held];erw [put_h x.dct c (by omega)];ac_nf;have g:RdAt (m.set h (.dct (hlD (hl++[(n,zdI pt hl at' n bits)])))) k h pt top (hl++[(n,zdI pt hl at' n bits)]):=⟨by rw[zaO (Ne.symm x.kh)];exact x.self,zaR x.dct,x.kh⟩;have f2:Fr k h m (m.set h (.dct (hlD (hl++[(n,zdI pt hl at' n bits)])))):=Fr.set';have l2:(m.set h (.dct (hlD (hl++[(n,zdI pt hl at' n bits)])))).length=m.length:=yaw ..;generalize m.set h (.dct (hlD (hl++[(n,zdI pt hl at' n bits)])))=m2 at g f2 l2 ⊢;rw[if_pos (g.meth rfl)];ac_nf;refine Run.bind (zny g (by rw[yI];show hl.length+1<64;omega) (by
    unfold ksH at hn c ⊢;rw[yak,ycm];refine⟨hn,by simp,fun a ha b t e=>c ?_⟩;have:b=n:=by simpa using t
    rw[<- this,<- e];exact ha)) ?_
   rintro _ M ⟨rfl,X,f3⟩;ac_nf;exact Run.ok ⟨_,rfl,X,f2.trans f3,.inr (by omega)⟩
  ·rw[if_pos (by simpa using H)];rw[if_pos H];ac_nf;exact Run.ok ⟨h,rfl,x,Fr.refl,.inl rfl⟩
 cases at' with
 |none=>
  rw[if_neg (by simp)];have:=l (.inl rfl);simp only[onD]at this ⊢;ac_nf;exact this
 |some i=>
  simp only[onD]at l ⊢;erw [if_pos (x.meth rfl)];erw [x.pact];erw [show zbd [pt.e,.int i] m = .ok (zaW pt (aa i)).e m from zfM (at':=aa i) j ha];erw [show ixD (zaW pt (aa i)).e (.int 0) m = .ok (.int (zaW pt (aa i)).a) m from ix_t0 _ _];erw [far_w x (by omega)];cases A:zsE hl n (zaW pt (aa i)).a with
  |true=>
   rw[if_pos ⟨by simp,rfl⟩];erw [if_pos (x.meth rfl)];ac_nf;refine Run.bind (zny x (by omega) hn) ?_;rintro _ M ⟨rfl,X,f3⟩;ac_nf;exact Run.ok ⟨_,rfl,X,f3,.inr (yh _)⟩
  |false=>
   rw[if_neg (by simp)];have:=l (.inr A);ac_nf;exact this
theorem ztb(x:RdAt m k h pt top hl)(a:PtW pt)(H:LtB pt at' (num++bits) ck)(g:num.length=(zaW pt at').b)(b:hl.length<63)(hn:(ksH hl).Nodup)(d:∀p∈hl,HdOk pt.fs p.2)(hok:ziB pt top (ztA pt top at' (ze7 num))=ag->ztA pt top at' (ze7 num)∉ksH hl->(at'=ab∨zsE hl (ztA pt top at' (ze7 num)) (zaW pt at').a=ag)->HdOk pt.fs (zdI pt hl at' (ztA pt top at' (ze7 num)) bits)) : Run (zcn [.ob k,.str ⟨(ltB pt at' (num++bits) ck).toArray⟩] m) (RdB m k h pt (rdV pt top hl at' (ze7 num) bits ck)):=by
 have f:Bin bits:=fun c j=>H.b c (yZ _ j);have e:bits.length=(zdA pt.fs (zaW pt at').wys).sum:=by
  have:=H.l;rw[yI]at this;omega
 have l:=(zlt a H.a).b1;unfold zcn;rw[zrR];erw [x.pact];erw [ztu a H g];ac_nf;unfold rdV;cases at' with
 |none=>
  rw[if_neg (by simp)];have:=znq (x1:=aa (.str ⟨(ltB pt ab (num++bits) ck).toArray⟩)) (x6:=ab) x a H.a b hn f e d (n:=ztA pt top ab (ze7 num)) (ck:=ck) hok;simp only[onD]at this ⊢;ac_nf;exact this
 |some i=>
  simp only[onD];erw [x.high];cases top with
  |none=>
   simp only[zfk];rw[if_pos ⟨by simp,by simp⟩];ac_nf;exact Run.ok ⟨h,rfl,x,Fr.refl,.inl rfl⟩
  |some t=>
   simp only[zfk];rw[if_neg (by simp)];erw [if_pos (x.meth rfl)];erw [zjI x];erw [x.pact];erw [show zbd [pt.e,.int i] m = .ok (zaW pt (aa i)).e m from zfM (at':=aa i) a H.a];erw [show ixD (zaW pt (aa i)).e (.int 1) m = .ok (.int (zaW pt (aa i)).b) m from ix_t1 _ _ _];erw [zor (by omega)];have:=znq (x1:=aa (.str ⟨(ltB pt (aa i) (num++bits) ck).toArray⟩)) (x6:=ab) x a H.a b hn f e d (n:=ztA pt (aa t) (aa i) (ze7 num)) (ck:=ck) hok;simp only[onD]at this;ac_nf;exact this
end
def kpF(e:Int)(ns:List Int):List Int:=zeQ (ns.filter fun x=>decide (e<=x)||decide (mxB e ns=aa x))
theorem mem_kpF{e x:Int}:x∈kpF e ns↔x∈ns/\(e<=x∨mxB e ns=aa x):=by
 unfold kpF;rw[(zbS _).mem_iff,ya1];simp
theorem zk5{e:Int}(h:ns.Nodup):(kpF e ns).Nodup:=(zbS _).nodup_iff.mpr (h.sublist ydj)
theorem zwb(e:Int)(ns:List Int):(kpF e ns).length<=ns.length:=by
 unfold kpF;rw[zhe];exact List.length_filter_le _ _
theorem zo9(e:Int)(ns:List Int):(kpF e ns).Pairwise (· <= ·):=zd0 _
theorem zoz{a b:List Int}(ha:a.Nodup)(H:b.Nodup)(sa:a.Pairwise (· <= ·))(s:b.Pairwise (· <= ·))(h:∀x,x∈a↔x∈b):a=b :=
 yd2 ((List.perm_ext_iff_of_nodup ha H).mpr h) sa s
theorem zk6{e:Int}(hn:ks.Nodup):((zeQ ks).filter fun k=>decide ((mxB e ks).getD e<=k))=kpF e ks:=by
 refine zoz ((((zbS _).nodup_iff.mpr hn)).sublist ydj) (zk5 hn) ((zd0 ks).sublist ydj) (zo9 _ _) fun x=>?_;rw[ya1,(zbS _).mem_iff,mem_kpF];constructor
 ·rintro⟨d,H⟩;refine⟨d,?_⟩;have H:(mxB e ks).getD e<=x:=by simpa using H
  cases h:mxB e ks with
  |none=>rw[h]at H;exact .inl H|some f=>
   rw[h]at H;obtain⟨a,b,c⟩:=zj6 h;rcases Int.lt_or_le x e with q|q
   ·right;have:=c x d q;have H:f<=x:=H;congr 1;omega
   ·exact .inl q
 ·rintro⟨d,H⟩;refine⟨d,?_⟩;simp only[decide_eq_true_eq];cases h:mxB e ks with
  |none=>exact znR h x d|some f=>
   rw[h]at H;obtain⟨a,b,c⟩:=zj6 h;show f<=x;rcases H with H|H
   ·omega
   ·have:=yad H;omega
theorem zg6{hl:List (Int×List Int)}{e:Int}(hn:(ksH hl).Nodup):ksH (zdi hl e)=kpF e (ksH hl):=by
 rw[<- zk6 hn];unfold ksH zdi lstV;rw[yaf];exact List.map_id _
section
variable{k:Nat}{pt:Pt}{top:Option Int}{hl:List (Int×List Int)}
theorem rtop_w(x:RdAt m k h pt top hl):zdr [.ob k] m = .ok (zfk top) m:=by
 apply zas;unfold zdr zh0;erw [x.high];ac_nf;exact Run.ok ⟨rfl,rfl⟩
theorem zu8(pt:Pt)(m:Sto):Run (mkM "Reader" zcX [pt.e] m) fun a m'=>a = .ob m.length/\RdAt m' m.length (m.length+1) pt ab []/\∃r,m'=m++r:=by
 unfold mkM zcX zgK;ac_nf;have b:∀fs:List (ae×D),(m++[MO.ins "Reader" fs])[m.length]?=aa (.ins "Reader" fs):=fun fs=>by simp
 have e:∀fs g:List (ae×D),(m++[MO.ins "Reader" fs]).set m.length (.ins "Reader" g)=m++[.ins "Reader" g]:=fun fs g=>by
  rw[ybj _ _ (yh _),yaD];rfl
 rw[zbO (b _) (by show 0<1000;decide),e];erw [zbO (b _) (by show 1<1000;decide),e];erw [show ∀(ρ : En)(m:Sto),ziE [] ρ m = .ok (.ob m.length) (m++[.dct []]) from fun _ _=>rfl];ac_nf;have E:∀fs:List (ae×D),(m++[MO.ins "Reader" fs]++[MO.dct []])[m.length]?=aa (.ins "Reader" fs):=fun fs=>by simp
 have es:∀fs g:List (ae×D),(m++[MO.ins "Reader" fs]++[MO.dct []]).set m.length (.ins "Reader" g)=m++[.ins "Reader" g]++[.dct []]:=fun fs g=>by
  rw[yaq,ybj _ _ (yh _),yaD,yaq];rfl
 have el:∀fs:List (ae×D),(m++[MO.ins "Reader" fs]).length=m.length+1:=fun fs=>by simp
 rw[el,zbO (E _) (by show 2<1000;decide),es];ac_nf;refine Run.ok ⟨rfl,⟨by rw[E];rfl,?_,by omega⟩,_,by rw[yaq]⟩;rw[yan (by simp)];simp[hlD]
end
theorem zkb{n:Nat}(h:n=m.length):(m++[o])[n]?=aa o:=by
 subst h;simp
theorem zos{a:List (Int×List Int)}(h:(ksH a).Nodup){p:Int×List Int}(H:p∈a):vlH a p.1=aa p.2:=by
 induction a with
 |nil=>cases H|cons q r i=>
  obtain⟨c,b⟩:=ya7.mp (show (q.1::ksH r).Nodup from h);unfold vlH;rcases yB.mp H with rfl|H
  ·rw[if_pos rfl]
  ·rw[if_neg fun z=>c (by rw[z];exact ydk H)];exact i b H
theorem zrf{hl:List (Int×List Int)}{e:Int}(hn:(ksH hl).Nodup){p:Int×List Int}:p∈zdi hl e↔p∈hl/\(e<=p.1∨mxB e (ksH hl)=aa p.1):=by
 have c:=zg6 (e:=e) hn;constructor
 ·intro h;have a:p.1∈kpF e (ksH hl):=by rw[<- c];exact ydk h
  obtain⟨b,H⟩:=mem_kpF.mp a;refine⟨?_,H⟩;unfold zdi at h;obtain⟨k,_,rfl⟩:=yah.mp h;obtain⟨x,d,E⟩:=zfl b;simp only[d,yaR];exact E
 ·rintro⟨a,b⟩;have H:p.1∈kpF e (ksH hl):=mem_kpF.mpr ⟨ydk a,b⟩;rw[<- zk6 hn]at H;unfold zdi lstV;refine yah.mpr ⟨p.1,H,?_⟩;rw[zos hn a];rfl
theorem zmN{hl:List (Int×List Int)}{e:Int}(hn:(ksH hl).Nodup):(ksH (zdi hl e)).Nodup:=by rw[zg6 hn];exact zk5 hn
theorem ztL{a:List (Int×List Int)}{e:Int}(hn:(ksH a).Nodup):(zdi a e).length<=a.length:=by
 have h:(ksH (zdi a e)).length<=(ksH a).length:=by rw[zg6 hn];exact zwb _ _
 unfold ksH at h
 rwa [yj,yj]at h
theorem ziJ{a:List (Int×List Int)}(hn:(ksH a).Nodup)(h:n∉ksH a):(ksH (a++[(n,x)])).Nodup:=by
 unfold ksH at *;rw[yak,ycm];refine⟨hn,by simp,fun y H c b e=>h ?_⟩;have:c=n:=by simpa using b
 rw[<- this,<- e];exact H
theorem PtOk.w{pt:Pt}(h:PtOk pt):PtW pt:=⟨h.n0,h.n1,h.f0,h.f1,h.sh.ok,h.w0,h.w1,h.fm,h.fml⟩
def pc0(pt:Pt)(hd:List Int):List Nat:=pcK pt.fs (fmW pt).wys hd pt.fs.length
theorem hd33{pt:Pt}{hl:List (Int×List Int)}(h:PtW pt)(H:HdOk pt.fs hd):zdI pt hl ab n (pc0 pt hd)=hd:=by
 show (yJ (pt.fs.map fun f=>f.b).length).map (zmD (pc0 pt hd) (pt.fs.map fun f=>f.b))=hd;apply ydh;intro i;rw[yj];by_cases hi:i<pt.fs.length
 ·have b:=yu hi;have c:(fmW pt).wys[i]?=aa .whole:=by simp[fmW,hi]
  have e:=yu (show i<hd.length by rw[H.len];exact hi);have a:=zvX (fmW_6 h).wy H b c e;rw[wsW]at a;have E:=H.at' i _ _ b e;rw[e,yW,ybR hi];show aa _=_;congr 1;exact a.trans (ybV E.1 E.2)
 ·rw[ybW (by simpa using hi),ybW (by rw[H.len];omega)]
variable{late:Int}
section
variable{d:Nat}{top:Option Int}{bk:List (Int×List Int)}
theorem ix_e3(pt:Pt):ixD pt.e (.int 3) m = .ok pt.rd.e m:=zps (n:=3) rfl
end
section
variable{k l:Nat}{pt:Pt}{fresh:Nat}
theorem HiV.uniq{f:Fm}{a A:D}(h:HiV pt hs had base fresh hd f a)(h':HiV pt hs had base fresh hd f A):a=A:=by
 unfold HiV at h h';split at h
 ·rename_i c;rw[if_pos c]at h';rw[h,h']
 ·rename_i c1;rw[if_neg c1]at h';split at h
  ·rename_i c;rw[if_pos c]at h';rw[h,h']
  ·rename_i d;rw[if_neg d]at h';split at h
   ·rename_i c;rw[if_pos c]at h';rw[h,h']
   ·rename_i C;rw[if_neg C]at h';obtain⟨o,rfl,b⟩:=h;obtain⟨o',rfl,H⟩:=h';rw[DB.uniq b H]
theorem is_hi2{f:Fm}{a:D}(h:HiV pt hs had base fresh hd f a):∃b:Bool,isD a .non m = .ok (.bl b) m/\(b=ac↔a = .non):=by
 rcases h.kind with⟨s,rfl⟩|⟨o,rfl⟩
 ·exact⟨ag,rfl,by simp⟩
 ·match o with
  |none=>exact⟨ac,rfl,by simp[zpg]⟩|some (x,y,z)=>exact⟨ag,rfl,by simp[zpg]⟩
def ziG(pt:Pt)(hs:List (List Int))(had base:Option Nat)(fresh:Nat)(hd:List Int)(i:Nat):Prop:=∃f,pt.fms[i]?=aa f/\HiV pt hs had base fresh hd f .non
open Classical in
def zlK(pt:Pt)(M:Nat->Prop):Nat->Option Nat
 |0=>ab|i+1=>if lsz pt (aa i)<lsz pt (zlK pt M i)/\M i then aa i else zlK pt M i
theorem zlJ{M:Nat->Prop}:∀i,i<=pt.fms.length->zlR pt (zlK pt M i)
 |0,_=>trivial|i+1,h=>by
  rw[zlK];split
  ·exact h
  ·exact zlJ i (Nat.le_of_succ_le h)
theorem zjp(h:PrAt m k l pt hs had base fresh)(g:PtOk pt)(s:HdOk pt.fs hd)(n:∀x∈hs,HdOk pt.fs x)(hl:hs.length<=100000) : Run (zbo [.ob k,zdk hd] m) fun a m'=>a=onD (zlK pt (ziG pt hs had base fresh hd) pt.fms.length)/\∃r,m'=m++r:=by
 unfold zbo zds;erw [h.pact];erw [zgE];erw [yj,zhw (by omega) (by have:=g.fml;omega)];ac_nf;refine Run.bind (zbD (fun i ρ m'=>∃(X:Option D)(r:Sto),ρ = [aa (.ob k),aa (zdk hd),aa (onD (zlK pt (ziG pt hs had base fresh hd) i)),X]/\m'=m++r) (zdj 0 (pt.fms.length:Int).toNat) 0 ⟨ab,[],rfl,by simp⟩ ?_) ?_
 ·rintro i d ρ m1 f ⟨X,r,rfl,rfl⟩;have hi:=(yi.mp f).1;rw[zbm]at hi;have H:i<pt.fms.length:=by simpa using hi
  have:=zsx f;subst this;have j:PrAt (m++r) k l pt hs had base fresh:=h.app;have o:=yu H;rw[yL,show zlK pt (ziG pt hs had base fresh hd) (i+1)=_ from rfl];erw [j.pact];erw [show zaZ [pt.e,.int (i:Nat)] (m++r) = .ok (.int (lsz pt (aa i))) (m++r) from zgD (at':=aa i) g H];erw [j.pact];erw [zgD g (zlJ i (by omega))];erw [zlK];generalize zlK pt (ziG pt hs had base fresh hd) i=B;by_cases c1:((lsz pt (aa i):Nat):Int)<lsz pt B
  ·rw[if_pos c1];rw[if_pos (j.meth rfl)];ac_nf;refine Run.bind (ztP j g s n hl o) ?_;rintro a m2 ⟨ha,r2,rfl⟩;obtain⟨b,e,q⟩:=is_hi2 (m:=m++r++r2) ha;erw [e];cases b with
   |true=>
    rw[q.mp rfl]at ha;rw[if_pos ⟨by omega,_,o,ha⟩];ac_nf;exact Run.ok ⟨_,rfl,_,r++r2,rfl,by simp⟩
   |false=>
    rw[if_neg (by
     rintro⟨_,F,c,p⟩;rw[o]at c;cases c;have:=q.mpr (ha.uniq p);cases this)]
    ac_nf;exact Run.ok ⟨_,rfl,_,r++r2,rfl,by simp⟩
  ·rw[if_neg c1,if_neg (fun z=>c1 (by omega))];ac_nf;exact Run.ok ⟨_,rfl,_,r,rfl,rfl⟩
 ·rintro _ m1 ⟨ρ,rfl,X,r,rfl,rfl⟩;rw[yL,zbm,yaA];ac_nf;exact Run.ok ⟨rfl,r,rfl⟩
theorem zoL(h:PrAt m k l pt hs had base fresh)(b:PtOk pt)(d:HdOk pt.fs hd)(c:∀x∈hs,HdOk pt.fs x)(hl:hs.length<=900)(e:(hs.length:Int)<2^pt.wide) : Run (zb6 [.ob k,zdk hd] m) fun a m'=>a = .str ⟨(ltL pt (zlK pt (ziG pt hs had base fresh hd) pt.fms.length) hs.length hd).toArray⟩/\PrAt m' k l pt (hs++[hd]) had base fresh/\Fr k l m m':=by
 unfold zb6 zeK;erw [if_pos (h.meth rfl)];erw [ask_w h b d];erw [if_pos (h.meth rfl)];erw [zfn h];erw [h.pact];erw [zrD];erw [zeR (by have:=b.w1;omega)];erw [if_neg (show ¬ ((hs.length:Nat):Int)=2^pt.wide by omega)];erw [h.pact];ac_nf;rw[if_pos (h.meth rfl)];ac_nf;refine Run.bind (zjp h b d c (by omega)) ?_;rintro _ m1 ⟨rfl,r,rfl⟩;have H:PrAt (m++r) k l pt hs had base fresh:=h.app;erw [zo8 b (zlJ _ (yh _)) d];erw [H.pressed];erw [if_pos (zhQ H.lst)];erw [zfR H.lst (by rw[yj];exact zbC (by omega))];ac_nf;refine Run.ok ⟨rfl,⟨by rw[zaO (Ne.symm h.kl)];exact H.self,by rw[zaR H.lst,yak];rfl,h.kl⟩,Fr.app2.trans Fr.set'⟩
end
structure RdI(late:Int)(hs:List (List Int))(came:List Int)(top:Option Int)(hl:List (Int×List Int)):Prop where
 t0:came=[]->top=ab
 t1:∀c∈came,∃t,top=aa t/\c<=t
 t2:∀t,top=aa t->t∈came
 nd:(ksH hl).Nodup
 hv:∀p∈hl,p.1∈came/\p.2=hs.getD p.1.toNat []
 kp:∀t,top=aa t->∀c∈came,∃k∈ksH hl,c<=k/\(k=c∨k<t-late)
 nn:∀c∈came,0<=c/\c<hs.length
variable{came:List Int}
section
variable{top:Option Int}{hl:List (Int×List Int)}
theorem RdI.key(R:RdI late hs came top hl){c:Int}(e:top=aa t)(b:c∈came)(h:t-late<=c):c∈ksH hl:=by
 obtain⟨k,a,d,H|H⟩:=R.kp t e c b
 ·rw[<- H];exact a
 ·omega
theorem RdI.mem(R:RdI late hs came top hl){c:Int}(H:c∈ksH hl):c∈came:=by
 obtain⟨p,h,rfl⟩:=yah.mp H;exact(R.hv p h).1
theorem zuo{k:Int}(H:k∈ks)(h:k<n):∃f,mxB n ks=aa f/\k<=f/\f<n/\f∈ks:=by
 cases e:mxB n ks with
 |none=>have:=znR e k H;omega|some f=>
  obtain⟨c,b,a⟩:=zj6 e;exact⟨f,rfl,a k H h,b,c⟩
theorem RdI.near(R:RdI late hs came top hl){c:Int}(e:top=aa t)(d:t-late<=n)(H:c∈came)(hn:c<n):∃f,mxB n (ksH hl)=aa f/\c<=f/\f<n/\f∈ksH hl:=by
 obtain⟨k,h,i,g⟩:=R.kp t e c H;obtain⟨f,b,j,a,E⟩:=zuo (n:=n) h (by omega);exact⟨f,b,by omega,a,E⟩
theorem RdI.twice(R:RdI late hs came top hl)(hn:n∈came):RdI late hs (came++[n]) top hl:=by
 have hm:∀c,c∈came++[n]↔c∈came:=fun c=>by
  rw[yae,y8];exact⟨fun h=>h.elim id fun z=>z ▸ hn,.inl⟩
 refine⟨fun z=>by simp at z,fun c H=>R.t1 c ((hm c).mp H),fun t e=>(hm t).mpr (R.t2 t e),R.nd,fun p a=>⟨(hm _).mpr (R.hv p a).1,(R.hv p a).2⟩,fun t e c H=>R.kp t e c ((hm c).mp H),fun c H=>R.nn c ((hm c).mp H)⟩
theorem RdI.grow(R:RdI late hs came top hl):RdI late (hs++[hd]) came top hl:=by
 refine⟨R.t0,R.t1,R.t2,R.nd,fun p h=>⟨(R.hv p h).1,?_⟩,R.kp,fun c H=>⟨(R.nn c H).1,by rw[yI];have:=(R.nn c H).2;omega⟩⟩;obtain⟨b,a⟩:=R.nn _ (R.hv p h).1;rw[(R.hv p h).2,yal,yal,yab (by omega)]
theorem zml(t n:Int):zba (aa t) n=if t<n then n else t:=rfl
theorem zs9(top:Option Int)(n:Int):n<=zba top n/\∀t,top=aa t->t<=zba top n:=by
 cases top with
 |none=>exact⟨ybd _,fun t e=>nomatch e⟩|some t=>
  rw[zml];refine⟨?_,fun t' e=>?_⟩
  ·split <;> omega
  ·have e:=yad e;split <;> omega
theorem zs8(top:Option Int)(n:Int):zba top n=n∨top=aa (zba top n):=by
 cases top with
 |none=>exact .inl rfl|some t=>
  rw[zml];by_cases h:t<n
  ·rw[if_pos h];exact .inl rfl
  ·rw[if_neg h];exact .inr rfl
theorem RdI.next(R:RdI late hs came top hl)(hn:n∉ksH hl)(s:0<=n)(q:n<hs.length)(E:hd=hs.getD n.toNat []):RdI late hs (came++[n]) (aa (zba top n)) (zdi (hl++[(n,hd)]) (zba top n-late)):=by
 have H:=ziJ (x:=hd) R.nd hn;obtain⟨r,r2⟩:=zs9 top n;have i:ksH (hl++[(n,hd)])=ksH hl++[n]:=by unfold ksH;rw[yak];rfl
 refine⟨fun z=>by simp at z,fun c d=>⟨_,rfl,?_⟩,fun t e=>?_,zmN H,fun p j=>?_,fun t e c d=>?_,fun c d=>?_⟩
 ·rcases yae.mp d with z|z
  ·obtain⟨t,e,h⟩:=R.t1 c z;have:=r2 t e;omega
  ·rw[y8.mp z];exact r
 ·cases e;rcases zs8 top n with z|z
  ·rw[z];exact yZ _ yar
  ·exact yaj _ (R.t2 _ z)
 ·rcases yae.mp ((zrf H).mp j).1 with z|z
  ·exact⟨yaj _ (R.hv p z).1,(R.hv p z).2⟩
  ·rw[y8.mp z];exact⟨yZ _ yar,E⟩
 ·cases e;have mk:∀k,k∈ksH (zdi (hl++[(n,hd)]) (zba top n-late))↔(k∈ksH hl++[n]/\(zba top n-late<=k∨mxB (zba top n-late) (ksH hl++[n])=aa k)):=fun k=>by
   rw[zg6 H,i];exact mem_kpF
  have below:∀k,k∈ksH hl++[n]->k<zba top n-late->c<=k->∃k∈ksH (zdi (hl++[(n,hd)]) (zba top n-late)),c<=k/\(k=c∨k<zba top n-late):=fun k l g m=>by
   obtain⟨f,w,B,v,u⟩:=zuo l g;exact⟨f,(mk f).mpr ⟨u,.inr w⟩,by omega,.inr v⟩
  rcases yae.mp d with z|z
  ·obtain⟨t,e,_⟩:=R.t1 c z;have y:=r2 t e;obtain⟨K,b,o,A⟩:=R.kp t e c z;by_cases a:zba top n-late<=c
   ·have:K=c:=by omega
    subst this;exact⟨K,(mk K).mpr ⟨yaj _ b,.inl a⟩,ybd _,.inl rfl⟩
   ·exact below K (yaj _ b) (by omega) o
  ·have:=y8.mp z;subst this;by_cases a:zba top c-late<=c
   ·exact⟨c,(mk c).mpr ⟨yZ _ yar,.inl a⟩,ybd _,.inl rfl⟩
   ·exact below c (yZ _ yar) (by omega) (ybd _)
 ·rcases yae.mp d with z|z
  ·exact R.nn c z
  ·rw[y8.mp z];exact⟨s,q⟩
end
structure Lt61(pt:Pt)(hs:List (List Int))(came:List Int)(n:Nat)(at':Option Nat):Prop where
 lt:n<hs.length
 ok:zlR pt at'
 dc:∀i,at'=aa i->∀d:Nat,1<=d->d<=(zaW pt (aa i)).a->d<=n->hdV pt.fs (zaW pt (aa i)).wys (hs.getD (n-d) []) d (pcK pt.fs (zaW pt (aa i)).wys (hs.getD n []) pt.fs.length) pt.fs.length=hs.getD n []
 sh:∀i,at'=aa i->(∃b∈came,b<n/\(n:Int)-(zaW pt (aa i)).a<=b)∨((pt.rd.skips:Int)+1<=n/\(pt.rd.skips:Int)+1<=(zaW pt (aa i)).a)
 ct:∀i,at'=aa i->∃had:Option Nat,ctB pt n had (zaW pt (aa i)).b=ac/\∀h,had=aa h->(h:Int)∈came
section
variable{pt:Pt}{n:Nat}{top:Option Int}{hl:List (Int×List Int)}
theorem Lt61.more{c:Int}(L:Lt61 pt hs came n at'):Lt61 pt hs (came++[c]) n at':=⟨L.lt,L.ok,L.dc,fun i e=>(L.sh i e).imp (fun⟨b,H,h⟩=>⟨b,yaj _ H,h⟩) id,fun i e=>let ⟨had,h1,h2⟩:=L.ct i e;⟨had,h1,fun h z=>yaj _ (h2 h z)⟩⟩
theorem zg7{k:Nat}(h:k<hs.length):(hs++[hd]).getD k []=hs.getD k []:=by
 rw[yal,yal,yab h]
theorem Lt61.grow(L:Lt61 pt hs came n at'):Lt61 pt (hs++[hd]) came n at':=by
 refine⟨by rw[yI];have:=L.lt;omega,L.ok,fun i e d b a D=>?_,L.sh,L.ct⟩;have h:=L.lt;rw[zg7 (by omega),zg7 h];exact L.dc i e d b a D
structure May(pt:Pt)(came:List Int)(top:Option Int)(n:Nat):Prop where
 late:∀t,top=aa t->t-pt.rd.late<=n
 skip:(n:Int)<=pt.rd.skips∨∃c∈came,(n:Int)-1-pt.rd.skips<=c/\c<n
theorem znP(L:Lt61 pt hs came n at')(M:May pt came top n)(e:at'=aa i):∃c∈came,c<n/\(n:Int)-(zaW pt (aa i)).a<=c:=by
 rcases L.sh i e with⟨b,d,H,h⟩|⟨H,h⟩
 ·exact⟨b,d,H,h⟩
 ·rcases M.skip with z|⟨c,a,g,f⟩
  ·omega
  ·exact⟨c,a,f,by omega⟩
theorem zun(a b:Int):(mxI a b=a∨mxI a b=b)/\a<=mxI a b/\b<=mxI a b:=by
 unfold mxI;split <;> omega
theorem num61(f:PtOk pt)(R:RdI pt.rd.late hs came top hl)(L:Lt61 pt hs came n at')(M:May pt came top n)(e:at'=aa i)(a:top=aa t):(t-pt.rd.late)+((n:Int)-(t-pt.rd.late))%2^(zaW pt (aa i)).b=n:=by
 have hl:=M.late t a;obtain⟨had,d,k⟩:=L.ct i e;unfold ctB at d;rw[decide_eq_true_eq]at d;obtain⟨c,b,c1,q⟩:=znP L M e;obtain⟨t',E,p⟩:=R.t1 c b;rw[a]at E;cases E;have g:=(R.nn c b).1;have l:=f.rd.g0;have key:leV pt n had<=t:=by
  have g1:(n:Int)-1-pt.rd.gap<=t:=by
   rcases M.skip with z|⟨C,H,o,m⟩
   ·omega
   ·obtain⟨t',E,j⟩:=R.t1 C H;rw[a]at E;cases E;omega
  have G:mxI 0 ((n:Int)-1-pt.rd.gap)<=t:=by
   rcases (zun 0 ((n:Int)-1-pt.rd.gap)).1 with z|z <;> omega
  cases had with
  |none=>exact G|some h=>
   obtain⟨t',E,j⟩:=R.t1 _ (k h rfl);rw[a]at E;cases E;show mxI (mxI 0 ((n:Int)-1-pt.rd.gap)) ((h:Int)-pt.rd.late)<=t;rcases (zun (mxI 0 ((n:Int)-1-pt.rd.gap)) ((h:Int)-pt.rd.late)).1 with z|z <;> omega
 rw[ybV (by omega) (by omega)];omega
theorem in61(R:RdI pt.rd.late hs came top hl)(M:May pt came top n):(n:Int)∈ksH hl↔(n:Int)∈came:=by
 refine⟨R.mem,fun h=>?_⟩;obtain⟨t,e,_⟩:=R.t1 _ h;exact R.key e h (M.late t e)
theorem late61(M:May pt came top n):ziB pt top n=ag:=by
 unfold ziB;rw[decide_eq_false (by omega),ycX];split
 ·rename_i t;exact decide_eq_false (by have:=M.late t rfl;omega)
 ·rfl
theorem zuv(H:hs.getD n []∈hs)(j:PtOk pt)(a:∀x∈hs,HdOk pt.fs x)(R:RdI pt.rd.late hs came top hl)(L:Lt61 pt hs came n at')(M:May pt came top n) : (at'=ab∨zsE hl n (zaW pt at').a=ag)/\zdI pt hl at' n (pcK pt.fs (zaW pt at').wys (hs.getD n []) pt.fs.length)=hs.getD n []:=by
 cases at' with
 |none=>exact⟨.inl rfl,hd33 j.w (a _ H)⟩|some i=>
  obtain⟨c,b,c1,C⟩:=znP L M rfl;obtain⟨t,e,_⟩:=R.t1 c b;obtain⟨f,d,m,l,E⟩:=R.near e (M.late t e) b c1;obtain⟨x,ex,g⟩:=zfl E;have k:=(R.nn f (R.mem E)).1;have h:x=hs.getD f.toNat []:=(R.hv _ g).2;refine⟨.inr ?_,?_⟩
  ·unfold zsE;rw[d];exact decide_eq_false (by omega)
  ·unfold zdI;rw[d];show hdV pt.fs _ ((vlH hl f).getD []) ((n:Int)-f) _ _=_;rw[ex];show hdV pt.fs _ x ((n:Int)-f) _ _=_;have:=L.dc i rfl (n-f.toNat) (by omega) (by omega) (by omega);rw[show n-(n-f.toNat)=f.toNat by omega,show ((n-f.toNat:Nat):Int)=(n:Int)-f by omega]at this;rw[h];exact this
theorem zul(H:PtOk pt)(h:(n:Int)<2^pt.wide)(R:RdI pt.rd.late hs came top hl)(L:Lt61 pt hs came n at')(M:May pt came top n):ztA pt top at' ((n:Int)%2^(zaW pt at').b)=n/\(at'≠ab->top≠ab):=by
 cases at' with
 |none=>
  refine⟨?_,fun z=>absurd rfl z⟩;rw[show ztA pt top ab ((n:Int)%2^(zaW pt ab).b)=(n:Int)%2^pt.wide by cases top <;> rfl];exact ybV (by omega) h
 |some i=>
  obtain⟨c,a,_⟩:=znP L M rfl;obtain⟨t,e,_⟩:=R.t1 c a;refine⟨?_,fun _=>by rw[e];exact fun z=>nomatch z⟩;have:=num61 H R L M rfl e;rw[e];show (t-pt.rd.late)+((n:Int)%2^(zaW pt (aa i)).b-(t-pt.rd.late))%2^(zaW pt (aa i)).b=n;rw[Int.sub_emod,ydd,<- Int.sub_emod];exact this
theorem zuY(a:PtOk pt)(H:∀x∈hs,HdOk pt.fs x)(b:(n:Int)<2^pt.wide)(R:RdI pt.rd.late hs came top hl)(L:Lt61 pt hs came n at')(M:May pt came top n) : rdV pt top hl at' ((n:Int)%2^(zaW pt at').b) (pcK pt.fs (zaW pt at').wys (hs.getD n []) pt.fs.length) (ckI pt n (hs.getD n []))=if (n:Int)∈came then (twD n,top,hl) else (rdD n (hs.getD n []),aa (zba top n),zdi (hl++[((n:Int),hs.getD n [])]) (zba top n-pt.rd.late)):=by
 have hm:hs.getD n []∈hs:=by
  rw[yal,yu L.lt];exact yaC L.lt
 obtain⟨n1,N⟩:=zul a b R L M;obtain⟨f1,f2⟩:=zuv hm a H R L M;unfold rdV;rw[if_neg fun z=>N z.1 z.2,n1];unfold rdN;rw[late61 M,if_neg yR];by_cases h:(n:Int)∈came
 ·rw[if_pos ((in61 R M).mpr h),if_pos h]
 ·rw[if_neg fun z=>h ((in61 R M).mp z),if_neg h,if_neg (fun z=>by
   rcases f1 with q|q
   ·exact z.1 q
   ·rw[q]at z;cases z.2),f2,if_neg (not_not_intro rfl)]
end
section
variable{pt:Pt}
theorem bst_M{M:Nat->Prop}:∀k i,zlK pt M k=aa i->M i
 |0,i,h=>by cases h|k+1,i,h=>by
  rw[zlK]at h;split at h
  ·rename_i z;cases h;exact z.2
  ·exact bst_M k i h
theorem ztH(g:∀b,base=aa b->(b:Int)∈came)(H:∀b,had=aa b->(b:Int)∈came)(l:∀c∈came,c<hs.length):Lt61 pt (hs++[hd]) came hs.length (zlK pt (ziG pt hs had base 0 hd) pt.fms.length):=by
 have h:∀i,zlK pt (ziG pt hs had base 0 hd) pt.fms.length=aa i->anB pt hs.length=ag/\shB pt hs.length base 0 (zaW pt (aa i)).a=ac/\ctB pt hs.length had (zaW pt (aa i)).b=ac/\DB pt.fs (zaW pt (aa i)).wys hd (fmL hs (zaW pt (aa i)).a) ab:=fun i e=>by
  obtain⟨f,k,hi⟩:=bst_M _ i e;have m:zaW pt (aa i)=f:=by
   show pt.fms.getD i _=f;rw[yal,k];rfl
  rw[m];unfold HiV at hi;split at hi
  ·cases hi
  ·split at hi
   ·cases hi
   ·split at hi
    ·cases hi
    ·rename_i a b c;obtain⟨o,E,j⟩:=hi;cases o with
     |none=>exact⟨by simpa using a,by simpa using b,by simpa using c,j⟩|some q=>cases E
 have hl:(hs++[hd]).getD hs.length []=hd:=by
  rw[yal,yan (yh _),yaD];rfl
 refine⟨by rw[yI];show hs.length<hs.length+1;omega,zlJ _ (yh _),fun i e d r p n=>?_,fun i e=>?_,fun i e=>⟨had,(h i e).2.2.1,H⟩⟩
 ·have D:=(h i e).2.2.2;rw[hl,zg7 (by omega)];have:=D (d-1) ((d:Int),hs.getD (hs.length-d) []) (by
   unfold fmL;rw[yW,ybR (by omega)];show aa (((d-1:Nat):Int)+1,hs.getD (hs.length-1-(d-1)) [])=aa _;rw[show ((d-1:Nat):Int)+1=d by omega,show hs.length-1-(d-1)=hs.length-d by omega])
  exact ydh this
 ·have S:=(h i e).2.1;unfold shB at S;rw[ybL,yac,decide_eq_true_eq,decide_eq_true_eq]at S;rcases S with z|z
  ·cases base with
   |none=>cases z|some b=>
    have z:(hs.length:Int)-(zaW pt (aa i)).a<=b:=by simpa using z
    exact .inl ⟨b,g b rfl,l _ (g b rfl),z⟩
  ·exact .inr (by omega)
end
def roF(pt:D)(kp kr u b:Nat)(fu:Option Int):List (ae×D):=[("pact", pt),("presser", .ob kp),("reader", .ob kr),("under_way", .ob u),("coming_back", .ob b),("furthest", zfk fu)]
def ltE(pt:Pt)(hs:List (List Int))(l:Nat×Option Nat):D := .tup [.int l.1,.str ⟨(ltL pt l.2 l.1 (hs.getD l.1 [])).toArray⟩]
def wdE(n:Nat):D := .tup [.str "have", .int n]
structure RoAt(m:Sto)(x kp lp kr hr u b:Nat)(pt:Pt)(hs:List (List Int))(had base:Option Nat)(top:Option Int)(hl:List (Int×List Int))(ls:List (Nat×Option Nat))(ws:List Nat)(fu:Option Int):Prop where
 self:m[x]?=aa (.ins "Road" (roF pt.e kp kr u b fu))
 pr:PrAt m kp lp pt hs had base 0
 rd:RdAt m kr hr pt top hl
 uw:m[u]?=aa (.lst (ls.map (ltE pt hs)))
 cb:m[b]?=aa (.lst (ws.map wdE))
 ne:[x,kp,lp,kr,hr,u,b].Nodup
variable{lp kr hr u:Nat}{ls:List (Nat×Option Nat)}{fu:Option Int}
section
variable{x kp:Nat}{pt:Pt}{top:Option Int}{hl:List (Int×List Int)}{ws:List Nat}
theorem RoAt.app{r:Sto}(R:RoAt m x kp lp kr hr u b pt hs had base top hl ls ws fu):RoAt (m++r) x kp lp kr hr u b pt hs had base top hl ls ws fu:=⟨zcG R.self,R.pr.app,R.rd.app,zcG R.uw,zcG R.cb,R.ne⟩
theorem RoAt.fr(R:RoAt m x kp lp kr hr u b pt hs had base top hl ls ws fu)(f:Fr p q m m')(H:p∉[x,kp,lp,kr,hr,u,b])(h:q∉[x,kp,lp,kr,hr,u,b]):RoAt m' x kp lp kr hr u b pt hs had base top hl ls ws fu:=by
 simp only[yB,y9,or_false,not_or]at H h;obtain⟨l,p2,k,j,i,g,P⟩:=H;obtain⟨e,d,c,a,q5,q6,Q⟩:=h;exact⟨f.keep R.self (Ne.symm l) (Ne.symm e),R.pr.fr f (Ne.symm p2) (Ne.symm d) (Ne.symm k) (Ne.symm c),R.rd.fr f (Ne.symm j) (Ne.symm a) (Ne.symm i) (Ne.symm q5),f.keep R.uw (Ne.symm g) (Ne.symm q6),f.keep R.cb (Ne.symm P) (Ne.symm Q),R.ne⟩
theorem RoAt.meth(R:RoAt m x kp lp kr hr u b pt hs had base top hl ls ws fu){f:ae}(e:(roF pt.e kp kr u b fu).lookup f=ab):zeC "Road" f (.ob x) m=ac:=zrb R.self e
theorem RoAt.fpact(R:RoAt m x kp lp kr hr u b pt hs had base top hl ls ws fu):zih "Road" "pact" (.ob x) m = .ok pt.e m:=zcA R.self rfl
theorem RoAt.fpr(R:RoAt m x kp lp kr hr u b pt hs had base top hl ls ws fu):zih "Road" "presser" (.ob x) m = .ok (.ob kp) m:=zcA R.self rfl
theorem RoAt.frd(R:RoAt m x kp lp kr hr u b pt hs had base top hl ls ws fu):zih "Road" "reader" (.ob x) m = .ok (.ob kr) m:=zcA R.self rfl
theorem RoAt.fuw(R:RoAt m x kp lp kr hr u b pt hs had base top hl ls ws fu):zih "Road" "under_way" (.ob x) m = .ok (.ob u) m:=zcA R.self rfl
theorem RoAt.fcb(R:RoAt m x kp lp kr hr u b pt hs had base top hl ls ws fu):zih "Road" "coming_back" (.ob x) m = .ok (.ob b) m:=zcA R.self rfl
theorem RoAt.ffu(R:RoAt m x kp lp kr hr u b pt hs had base top hl ls ws fu):zih "Road" "furthest" (.ob x) m = .ok (zfk fu) m:=zcA R.self rfl
theorem zp6(R:RoAt m x kp lp kr hr u b pt hs had base top hl ls ws fu):zeu [.ob x] m = .ok (zfk top) m:=by
 apply zas;unfold zeu zlh;erw [R.frd];erw [if_pos (R.rd.meth rfl)];erw [rtop_w R.rd];ac_nf;exact Run.ok ⟨rfl,rfl⟩
theorem zrm{k:Nat}(h:m[k]?=aa (.lst xs)):zv9 [.ob k] m = .ok (.lst xs) m:=by
 simp only[zv9,zsP,h]
theorem zmk(R:RoAt m x kp lp kr hr u b pt hs had base top hl ls ws fu):zaV [.ob x] m = .ok (.lst (ls.map (ltE pt hs))) m:=by
 apply zas;unfold zaV zfy;erw [R.fuw];erw [zrm R.uw];ac_nf;exact Run.ok ⟨rfl,rfl⟩
theorem zp5(R:RoAt m x kp lp kr hr u b pt hs had base top hl ls ws fu):zbE [.ob x] m = .ok (.lst (ws.map wdE)) m:=by
 apply zas;unfold zbE zhW;erw [R.fcb];erw [zrm R.cb];ac_nf;exact Run.ok ⟨rfl,rfl⟩
theorem zp7(R:RoAt m x kp lp kr hr u b pt hs had base top hl ls ws fu):zbF [.ob x] m = .ok (.lst (hs.map zdk)) m:=by
 apply zas;unfold zbF zhX;erw [R.fpr];erw [R.pr.pressed];erw [zrm R.pr.lst];ac_nf;exact Run.ok ⟨rfl,rfl⟩
end
section
variable{x kp:Nat}{pt:Pt}{top:Option Int}{hl:List (Int×List Int)}{ws:List Nat}{n:Nat}
theorem zrl(h:(n:Int)<2^pt.wide):ltL pt at' n hd=ltB pt at' (dgs ((n:Int)%2^(zaW pt at').b) (zaW pt at').b++pcK pt.fs (zaW pt at').wys hd pt.fs.length) (ckI pt n hd):=by
 unfold ltL ltB;simp only[yaq];rfl
theorem zwC(h:PtOk pt)(ha:zlR pt at')(a:HdOk pt.fs hd):LtB pt at' (dgs ((n:Int)%2^(zaW pt at').b) (zaW pt at').b++pcK pt.fs (zaW pt at').wys hd pt.fs.length) (ckI pt n hd):=by
 have H:=zlt h.w ha;have hl:=zhA H.wy a pt.fs.length (yh _);refine⟨ha,(zfi _ _).app (zmn _),?_,yau _ (Int.ne_of_gt h.n0),yax _ h.n0⟩;rw[yI,za0,hl];unfold zig;rw[ybu (by have:=zct H.wy;omega)]
theorem over_w(R:RoAt m x kp lp kr hr u b pt hs had base top hl ls ws top)(M:May pt came top n):za6 [.ob x,.int n] m = .ok (.bl ag) m:=by
 apply zas;unfold za6 zdp;erw [R.ffu];cases top with
 |none=>
  simp only[zfk];ac_nf;exact Run.ok ⟨rfl,rfl⟩
 |some t=>
  have hl:=M.late t rfl;simp only[zfk];erw [R.ffu];simp only[zfk];erw [R.fpact];erw [ix_e3];erw [zur];ac_nf;exact Run.ok ⟨by rw[decide_eq_false (by omega)],rfl⟩
theorem zwB(H:PtOk pt)(a:∀y∈hs,HdOk pt.fs y)(R:RoAt m x kp lp kr hr u b pt hs had base top hl ls ws top)(I:RdI pt.rd.late hs came top hl)(L:Lt61 pt hs came n at')(M:May pt came top n)(f:(n:Int)<2^pt.wide):zbU [.ob x,.int n,.str ⟨(ltL pt at' n (hs.getD n [])).toArray⟩] m = .ok (.bl ag) m:=by
 have hm:hs.getD n []∈hs:=by
  rw[yal,yu L.lt];exact yaC L.lt
 have k:=zwC (n:=n) H L.ok (a _ hm);have l:=znV H.w L.ok;have h:=zmJ k;rw[zrl f];have es:∀m,zb5 [pt.e,.str ⟨(ltB pt at' (dgs ((n:Int)%2^(zaW pt at').b) (zaW pt at').b++pcK pt.fs (zaW pt at').wys (hs.getD n []) pt.fs.length) (ckI pt n (hs.getD n []))).toArray⟩] m = .ok (onD at') m:=fun m=>by
  rw[show ∀mid ck,ltB pt at' mid ck=dgs (znt at') (wdN (1+pt.fms.length))++(mid++dgs ck (wdN pt.n.toNat)) from fun _ _=>rfl]at h ⊢;exact ziI H.w L.ok (by omega)
 apply zas;unfold zbU zfz;erw [R.fpact];erw [es];cases at' with
 |none=>
  simp only[onD];ac_nf;exact Run.ok ⟨rfl,rfl⟩
 |some i=>
  simp only[onD];erw [if_pos (R.meth rfl)];erw [zp6 R];obtain⟨c,e,c1,s⟩:=znP L M rfl;obtain⟨t,rfl,ct⟩:=I.t1 c e;have j:=(I.nn c e).1;have o:=H.rd.g0;simp only[zfk];erw [if_pos (R.meth rfl)];erw [zp6 R];simp only[zfk];erw [R.fpact];erw [ix_e3];erw [show ixD pt.rd.e (.int 1) m = .ok (.int pt.rd.gap) m from ix_t1 _ _ _];ac_nf;have g:(n:Int)-t<=pt.rd.gap+1:=by
   rcases M.skip with z|⟨C,d,r,q⟩
   ·omega
   ·obtain⟨t',E,p⟩:=I.t1 C d;cases E;omega
  exact Run.ok ⟨by rw[decide_eq_false (by omega)],rfl⟩
end
structure FrL(S:List Nat)(m m':Sto):Prop where
 len:m.length<=m'.length
 at':∀j,j<m.length->j∉S->m'[j]?=m[j]?
variable{S:List Nat}
theorem Fr.l(f:Fr p q m m')(a:p∈S)(H:q∈S):FrL S m m':=⟨f.len,fun j b h=>f.at' j b (fun z=>h (z ▸ a)) (fun z=>h (z ▸ H))⟩
theorem FrL.trans{a b c:Sto}(h:FrL S a b)(k:FrL S b c):FrL S a c:=⟨yO h.len k.len,fun j d H=>(k.at' j (yQ d h.len) H).trans (h.at' j d H)⟩
theorem FrL.keep(f:FrL S m m')(h:m[j]?=aa o)(H:j∉S):m'[j]?=aa o:=by
 rw[f.at' j (yi.mp h).1 H];exact h
variable{T:List Nat}
theorem FrL.sub(f:FrL S m m')(h:∀j∈S,j∈T∨m.length<=j):FrL T m m':=⟨f.len,fun j a H=>f.at' j a fun z=>(h j z).elim H fun q=>by omega⟩
theorem P3.frL(h:P3 m0 p q c m)(f:FrL S m m')(a:p∉S)(H:q∉S):P3 m' p q c m':=by
 obtain⟨own,s,t,e,d,b⟩:=h.ex;exact⟨⟨own,s,t,f.keep e a,f.keep d H,b⟩,Fr.refl⟩
theorem nd7{a d e f g:Nat}:[a,b,c,d,e,f,g].Nodup↔(a≠b/\a≠c/\a≠d/\a≠e/\a≠f/\a≠g)/\(b≠c/\b≠d/\b≠e/\b≠f/\b≠g)/\(c≠d/\c≠e/\c≠f/\c≠g)/\(d≠e/\d≠f/\d≠g)/\(e≠f/\e≠g)/\f≠g:=by
 simp only[ya7,yB,y9,or_false,not_or,yc2,and_true,not_false_eq_true,ne_eq]
theorem zhK{a H l:Nat}(ha:a<l)(b:h=H∨l<=h)(hn:a≠H):a≠h:=fun z=>b.elim (fun q=>hn (z.trans q)) fun q=>absurd (z ▸ ha) (Nat.not_lt.mpr q)
theorem zs1{top:Option Int}{hl:List (Int×List Int)}(R:RdI late hs came top hl)(h:n∈came):aa (zba top n)=top:=by
 obtain⟨t,rfl,H⟩:=R.t1 n h;rw[zml,if_neg (by omega)]
section
variable{x kp:Nat}{pt:Pt}{top:Option Int}{hl:List (Int×List Int)}{ws:List Nat}{n:Nat}
def zdP(hs:List (List Int))(came:List Int)(n:Nat):D:=if (n:Int)∈came then twD n else rdD n (hs.getD n [])
theorem word61:zgn [zdP hs came n] m = .ok (wdE n) m:=by
 unfold zdP;apply zas;unfold zgn znZ;split
 ·unfold twD;ac_nf;exact Run.ok ⟨rfl,rfl⟩
 ·unfold rdD;ac_nf;exact Run.ok ⟨rfl,rfl⟩
def e61:EV:=by walk_at "#sFt7u;0t7r7"
theorem zhZ:zgH=(zar (sIf (tOrM (tV (zbl "Road" "is_overtaken" za6 (zad 0) (zac (zad 1) zaj))) (tV (zbl "Road" "is_ahead" zbU (zad 0) (zac (zad 1) (zac (zad 2) zaj)))))
 zmi
 za3)
 (zar (zaJ (zbl "Reader" "read" zcn (zaT "Road" "reader" (zad 0)) (zac (zad 2) zaj)) (gN 3))
 (zar (zbL "Road" "furthest" (zad 0) e61)
 (zar (zbs (zcr zbM zbB (zaT "Road" "coming_back" (zad 0)) (zac (eFn zgn (zac (zad 3) zaj)) zaj)))
 (zaE (zad 3)))))):=rfl
theorem e61_w{z:Int}{c X:Option D}(h:m[x]?=aa (.ins "Road" (roF pt.e kp kr u b top))):e61 [aa (.ob x),aa (.int z),c,X] m = .ok (.int (zba top z)) m:=by
 have H:zih "Road" "furthest" (.ob x) m = .ok (zfk top) m:=zcA h rfl;have key:Run (e61 [aa (.ob x),aa (.int z),c,X] m) fun a m'=>a = .int (zba top z)/\m'=m:=by
  unfold e61;erw [H];cases top with
  |none=>
   simp only[zfk];ac_nf;exact Run.ok ⟨rfl,rfl⟩
  |some t=>
   simp only[zfk];erw [H];simp only[zfk];ac_nf;exact Run.ok ⟨rfl,rfl⟩
 obtain⟨a,m',e,rfl,rfl⟩:=key;exact e
theorem zpk(f:PtOk pt)(H:∀y∈hs,HdOk pt.fs y)(l:(n:Int)<2^pt.wide)(R:RoAt m x kp lp kr hr u b pt hs had base top hl ls ws top)(I:RdI pt.rd.late hs came top hl)(L:Lt61 pt hs came n at')(M:May pt came top n)(v:hl.length<63)(hws:ws.length<1000) : Run (zcm [.ob x,.int n,.str ⟨(ltL pt at' n (hs.getD n [])).toArray⟩] m) fun a m'=>a=zdP hs came n/\∃hr' t h,RoAt m' x kp lp kr hr' u b pt hs had base t h ls (ws++[n]) t/\RdI pt.rd.late hs (came++[(n:Int)]) t h/\h.length<=hl.length+1/\(hr'=hr∨m.length<=hr')/\FrL [x,kr,hr,b] m m':=by
 have hm:hs.getD n []∈hs:=by
  rw[yal,yu L.lt];exact yaC L.lt
 have k:=H _ hm;have hB:=zwC (n:=n) f L.ok k;unfold zcm;rw[zhZ];erw [if_pos (R.meth rfl)];erw [over_w R M];erw [if_pos (R.meth rfl)];erw [zwB f H R I L M l];erw [R.frd];erw [if_pos (R.rd.meth rfl)];ac_nf;have T:ze7 (dgs ((n:Int)%2^(zaW pt at').b) (zaW pt at').b)=(n:Int)%2^(zaW pt at').b:=by rw[zg5,ydd]
 have RR:=ztb (num:=dgs ((n:Int)%2^(zaW pt at').b) (zaW pt at').b) R.rd f.w hB (za0 _ _) v I.nd (fun p j=>by
  rw[(I.hv p j).2];obtain⟨h0,h1⟩:=I.nn _ (I.hv p j).1;refine H _ ?_;rw[yal,yu (show p.1.toNat<hs.length by omega)];exact yaC _) (by
  rw[T,(zul f l I L M).1];intro _ _ _;rw[(zuv hm f H I L M).2];exact k)
 obtain⟨t,h,ev,I',hl1,et⟩:∃t h,(if (n:Int)∈came then (twD n,top,hl) else (rdD n (hs.getD n []),aa (zba top n),zdi (hl++[((n:Int),hs.getD n [])]) (zba top n-pt.rd.late)))=(zdP hs came n,t,h)/\RdI pt.rd.late hs (came++[(n:Int)]) t h/\h.length<=hl.length+1/\t=aa (zba top n):=by
  unfold zdP;by_cases e:(n:Int)∈came
  ·rw[if_pos e,if_pos e];exact⟨top,hl,rfl,I.twice e,by omega,(zs1 I e).symm⟩
  ·rw[if_neg e,if_neg e];have P:(n:Int)∉ksH hl:=fun z=>e (I.mem z);refine⟨_,_,rfl,I.next P (by omega) (by have:=L.lt;omega) (by rw[yaA]),?_,rfl⟩;refine yO (ztL (ziJ I.nd P)) ?_;rw[yI];exact yh _
 rw[T,zuY f H l I L M,ev]at RR;rw[zrl l];refine Run.bind RR ?_;rintro _ m1 ⟨h',rfl,Y,f1,d⟩;have s:=R.rd.lt;have i:=R.pr.lt;have o:x<m.length:=(yi.mp R.self).1;have r:u<m.length:=(yi.mp R.uw).1;have w:b<m.length:=(yi.mp R.cb).1;obtain⟨⟨a1,a2,a3,a4,a5,a6⟩,⟨b1,b2,b3,b4,B⟩,⟨c1,N,V,C⟩,⟨U,F,D⟩,⟨g1,G⟩,g3⟩:=nd7.mp R.ne;have c:[x,kp,lp,kr,h',u,b].Nodup:=nd7.mpr ⟨⟨a1,a2,a3,zhK o d a4,a5,a6⟩,⟨b1,b2,zhK i.1 d b3,b4,B⟩,⟨c1,zhK i.2 d N,V,C⟩,⟨zhK s.1 d U,F,D⟩,⟨Ne.symm (zhK r d (Ne.symm g1)),Ne.symm (zhK w d (Ne.symm G))⟩,g3⟩;obtain⟨⟨_,_,_,A,_,_⟩,⟨_,_,O,_,_⟩,⟨_,K,_,_⟩,⟨J,_,_⟩,⟨E,g⟩,_⟩:=nd7.mp c;have s1:=f1.keep R.self a3 a4;have p1:=R.pr.fr f1 b2 b3 c1 N;have X:=f1.keep R.uw (Ne.symm F) (Ne.symm g1);have Z:=f1.keep R.cb (Ne.symm D) (Ne.symm G);erw [e61_w s1];erw [zbO s1 (by show 6<1000;decide)];ac_nf;have f2:Fr x x m1 (m1.set x (.ins "Road" (zbh "furthest" (.int (zba top n)) (roF pt.e kp kr u b top)))):=Fr.set;have s2:(m1.set x (.ins "Road" (zbh "furthest" (.int (zba top n)) (roF pt.e kp kr u b top))))[x]?=aa (.ins "Road" (roF pt.e kp kr u b t)):=by
  rw[zaR s1,et];rfl
 generalize m1.set x (.ins "Road" (zbh "furthest" (.int (zba top n)) (roF pt.e kp kr u b top)))=m2 at f2 s2 ⊢;have p2:=p1.fr f2 (Ne.symm a1) (Ne.symm a1) (Ne.symm a2) (Ne.symm a2);have r2:=Y.fr f2 (Ne.symm a3) (Ne.symm a3) (Ne.symm A) (Ne.symm A);have W:=f2.keep X (Ne.symm a5) (Ne.symm a5);have q:=f2.keep Z (Ne.symm a6) (Ne.symm a6);rw[show zih "Road" "coming_back" (.ob x) m2 = .ok (.ob b) m2 from zcA s2 rfl];erw [if_pos (show zbM (.ob b) m2=ac by unfold zbM;simp only[q])];erw [word61];erw [zfR q (by rw[yj];exact zbC (by clear a1 a2 a3 a4 a5 a6 b1 b2 b3 b4 B c1 N V C U F D g1 G g3 A O K J E g;omega))];ac_nf;have f3:Fr b b m2 (m2.set b (.lst (ws.map wdE++[wdE n]))):=Fr.set;have Q:(m2.set b (.lst (ws.map wdE++[wdE n])))[b]?=aa (.lst ((ws++[n]).map wdE)):=by
  rw[zaR q,yak];rfl
 generalize m2.set b (.lst (ws.map wdE++[wdE n]))=m3 at f3 Q ⊢;refine Run.ok ⟨rfl,h',t,h,⟨f3.keep s2 a6 a6,p2.fr f3 B B C C,r2.fr f3 D D g g,f3.keep W g3 g3,Q,c⟩,I',hl1,d,?_⟩;exact((f1.l (S:=[x,kr,hr,b]) (by simp) (by simp)).trans (f2.l (by simp) (by simp))).trans (f3.l (by simp) (by simp))
end
def a61:SV:=by walk_at "#r<qovXsc4EsKu-q8u=q3qiixHxI'q&qBqUg"
def p61:SV:=by walk_at "#t:v(t+sKr|t'/"
theorem zdq:zeI=(zar (sIf (tV (eOp geD (zad 2) (eFn zeB (zac (zaT "Road" "under_way" (zad 0)) zaj))))
 zmi
 za3)
 (zar (zaJ (eC (.tup (zdX ["done"]))) (gN 3))
 (zar a61 p61))):=rfl
theorem zuh{k:Nat}(h:m[u]?=aa (.lst xs))(H:xs[k]?=aa d)(hl:xs.length<1000):zpq (.ob u) [.int k] m = .ok d (m.set u (.lst (xs.eraseIdx k))):=by
 have a:=(yi.mp H).1;have e:bv (k:Int) xs.length=aa k:=by
  unfold bv;simp;omega
 simp only[zpq,h,e,H];exact if_pos ⟨by omega,by omega⟩
variable{deed:ae}{x4 x5:Option D}
section
variable{x kp:Nat}{pt:Pt}{top:Option Int}{hl:List (Int×List Int)}{ws:List Nat}{n k:Nat}
theorem zqC{told:D}(R:RoAt m x kp lp kr hr u b pt hs had base top hl ls ws fu)(h:ls[k]?=aa (n,at'))(hl0:ls.length<1000) : Run ((p61 [aa (.ob x),aa (.str deed),aa (.int k),aa told,x4,x5] m).bind zi8) fun a m'=>a=told/\RoAt m' x kp lp kr hr u b pt hs had base top hl (if deed = "copy" then ls else ls.eraseIdx k) ws fu/\FrL [u] m m':=by
 unfold p61;ac_nf;by_cases hd:deed = "copy"
 ·rw[if_pos hd,decide_eq_true hd];ac_nf;exact Run.ok ⟨rfl,R,⟨yh _,fun _ _ _=>rfl⟩⟩
 ·rw[if_neg hd,decide_eq_false hd];erw [R.fuw];erw [if_pos (show zbM (.ob u) m=ac by unfold zbM;simp only[R.uw])];erw [zuh (d:=ltE pt hs (n,at')) R.uw (by rw[yW,h];rfl) (by rw[yj];exact hl0)];ac_nf;obtain⟨⟨a1,a2,a3,a4,a5,a6⟩,⟨b1,b2,b3,b4,B⟩,⟨c1,l,C,j⟩,⟨i,c,e⟩,⟨g1,g⟩,g3⟩:=nd7.mp R.ne;have f:Fr u u m (m.set u (.lst ((ls.map (ltE pt hs)).eraseIdx k))):=Fr.set;have U:(m.set u (.lst ((ls.map (ltE pt hs)).eraseIdx k)))[u]?=aa (.lst ((ls.eraseIdx k).map (ltE pt hs))):=by
   rw[zaR R.uw,ybw,ybw,yak,ycr,List.map_drop]
  generalize m.set u (.lst ((ls.map (ltE pt hs)).eraseIdx k))=m1 at f U ⊢;exact Run.ok ⟨rfl,⟨f.keep R.self a5 a5,R.pr.fr f b4 b4 C C,R.rd.fr f c c g1 g1,U,f.keep R.cb (Ne.symm g3) (Ne.symm g3),R.ne⟩,f.l (by simp) (by simp)⟩
theorem ztJ(R:RoAt m x kp lp kr hr u b pt hs had base top hl ls ws fu)(h:ls[k]?=aa (n,at'))(hl0:ls.length<1000) : Run (za8 [.ob x,.str "lose", .int k] m) fun a m'=>a = .tup (zdX ["done"])/\RoAt m' x kp lp kr hr u b pt hs had base top hl (ls.eraseIdx k) ws fu/\FrL [u] m m':=by
 have H:=(yi.mp h).1;unfold za8;rw[zdq];erw [R.fuw];erw [zrr R.uw,yj];erw [if_neg (by omega)];unfold a61;ac_nf;have:=zqC (deed := "lose") (told := .tup (zdX ["done"])) (x4:=ab) (x5:=ab) R h hl0;rw[if_neg (by decide +kernel)]at this;exact this
theorem zt2(l:deed ≠ "lose")(p:PtOk pt)(i:∀y∈hs,HdOk pt.fs y)(o:(n:Int)<2^pt.wide)(R:RoAt m x kp lp kr hr u b pt hs had base top hl ls ws top)(I:RdI pt.rd.late hs came top hl)(L:Lt61 pt hs came n at')(M:May pt came top n)(e:hl.length<63)(c:ws.length<1000)(f:ls[k]?=aa (n,at'))(hl0:ls.length<1000) : Run (za8 [.ob x,.str deed,.int k] m) fun a m'=>a=zdP hs came n/\∃h t H,RoAt m' x kp lp kr h u b pt hs had base t H (if deed = "copy" then ls else ls.eraseIdx k) (ws++[n]) t/\RdI pt.rd.late hs (came++[(n:Int)]) t H/\H.length<=hl.length+1/\(h=hr∨m.length<=h)/\FrL [x,kr,hr,b,u] m m':=by
 have q:=(yi.mp f).1;unfold za8;rw[zdq];erw [R.fuw];erw [zrr R.uw,yj];erw [if_neg (by omega)];unfold a61;erw [decide_eq_false l];erw [R.fuw];erw [ix_ob (n:=k) (d:=ltE pt hs (n,at')) R.uw (by rw[yW,f];rfl)];unfold ltE;erw [if_pos (R.meth rfl)];ac_nf;refine Run.bind (zpk p i o R I L M e c) ?_;rintro _ m1 ⟨rfl,h,t,H,s,v,hl1,r,f1⟩;ac_nf;refine Run.mono (zqC s f hl0) ?_;rintro _ m2 ⟨rfl,R2,f2⟩;exact⟨rfl,h,t,H,R2,v,hl1,r,(f1.sub fun j g=>.inl (by simp at g ⊢;omega)).trans (f2.sub fun j g=>.inl (by simp at g ⊢;omega))⟩
end
def q61:SV:=by walk_at "#t:tgt+t8r|JvPt9s^v'"
theorem zhY:zgG=(zar (sIf (tV (eOp geD (zad 2) (eFn zeB (zac (zaT "Road" "coming_back" (zad 0)) zaj))))
 zmi
 za3)
 (zar (sIf (tV (eOp neD (zad 1) (eC (.str "drop"))))
 (zbs (zbl "Presser" "heard" zbH (zaT "Road" "presser" (zad 0)) (zac (eOp ixD (zaT "Road" "coming_back" (zad 0)) (zad 2)) zaj)))
 za3)
 q61)):=rfl
section
variable{x kp:Nat}{pt:Pt}{top:Option Int}{hl:List (Int×List Int)}{ws:List Nat}{n k:Nat}
theorem zqm(R:RoAt m x kp lp kr hr u b pt hs had base top hl ls ws fu)(e:ws[k]?=aa n)(hl0:ws.length<1000) : Run ((q61 [aa (.ob x),aa (.str deed),aa (.int k)] m).bind zi8) fun a m'=>∃ws',(∀y∈ws',y∈ws)/\ws'.length<=ws.length/\RoAt m' x kp lp kr hr u b pt hs had base top hl ls ws' fu/\FrL [b] m m':=by
 unfold q61;ac_nf;by_cases hd:deed = "echo"
 ·rw[decide_eq_true hd];ac_nf;exact Run.ok ⟨ws,fun _ h=>h,yh _,R,⟨yh _,fun _ _ _=>rfl⟩⟩
 ·rw[decide_eq_false hd];erw [R.fcb];erw [if_pos (show zbM (.ob b) m=ac by unfold zbM;simp only[R.cb])];erw [zuh (d:=wdE n) R.cb (by rw[yW,e];rfl) (by rw[yj];exact hl0)];ac_nf;obtain⟨⟨a1,a2,a3,a4,a5,a6⟩,⟨b1,b2,b3,b4,B⟩,⟨c1,l,C,c⟩,⟨j,i,D⟩,⟨g1,g⟩,g3⟩:=nd7.mp R.ne;have f:Fr b b m (m.set b (.lst ((ws.map wdE).eraseIdx k))):=Fr.set;have U:(m.set b (.lst ((ws.map wdE).eraseIdx k)))[b]?=aa (.lst ((ws.eraseIdx k).map wdE)):=by
   rw[zaR R.cb,ybw,ybw,yak,ycr,List.map_drop]
  generalize m.set b (.lst ((ws.map wdE).eraseIdx k))=m1 at f U ⊢;exact Run.ok ⟨ws.eraseIdx k,fun y H=>ydl H,yct _ _,⟨f.keep R.self a6 a6,R.pr.fr f B B c c,R.rd.fr f D D g g,f.keep R.uw g3 g3,U,R.ne⟩,f.l (by simp) (by simp)⟩
theorem zuu(o:Option Nat)(n:Nat)(e:hrO o n=aa h):o=aa h∨h=n:=by
 cases o with
 |none=>cases e;exact .inr rfl|some a=>
  have e:max a n=h:=yad e;rcases Nat.le_total a n with z|z
  ·rw[Nat.max_eq_right z]at e;exact .inr e.symm
  ·rw[Nat.max_eq_left z]at e;rw[e];exact .inl rfl
theorem zr8(R:RoAt m x kp lp kr hr u b pt hs had base top hl ls ws fu)(H:ws[k]?=aa n)(hn:n<hs.length)(hl0:ws.length<1000) : Run (zcl [.ob x,.str deed,.int k] m) fun a m'=>∃had' base' w,(∀y∈w,y∈ws)/\w.length<=ws.length/\(∀h,had'=aa h->had=aa h∨h=n)/\(∀h,base'=aa h->base=aa h∨h=n)/\RoAt m' x kp lp kr hr u b pt hs had' base' top hl ls w fu/\FrL [kp,lp,b] m m':=by
 have i:=(yi.mp H).1;unfold zcl;rw[zhY];erw [R.fcb];erw [zrr R.cb,yj];erw [if_neg (by omega)];ac_nf;by_cases hd:deed = "drop"
 ·rw[decide_eq_true hd];ac_nf;refine Run.mono (zqm R H hl0) ?_;rintro _ m1 ⟨w,g,f,r,f1⟩;exact⟨had,base,w,g,f,fun _ e=>.inl e,fun _ e=>.inl e,r,f1.sub fun j c=>.inl (by simp at c ⊢;omega)⟩
 ·rw[decide_eq_false hd];erw [R.fpr];erw [if_pos (R.pr.meth rfl)];erw [R.fcb];erw [ix_ob (n:=k) (d:=wdE n) R.cb (by rw[yW,H];rfl)];ac_nf;refine Run.bind (zpc R.pr hn) ?_;rintro _ m1 ⟨rfl,p,f1⟩;rw[if_pos (yav _)]at p;obtain⟨⟨a1,a2,a3,a4,a5,a6⟩,⟨b1,b2,b3,b4,B⟩,⟨c1,o,l,C⟩,⟨s,q,D⟩,⟨g1,G⟩,g3⟩:=nd7.mp R.ne;have r:RoAt m1 x kp lp kr hr u b pt hs (hrO had n) (hrO base n) top hl ls ws fu:=⟨f1.keep R.self a1 a2,p,R.rd.fr f1 (Ne.symm b2) (Ne.symm c1) (Ne.symm b3) (Ne.symm o),f1.keep R.uw (Ne.symm b4) (Ne.symm l),f1.keep R.cb (Ne.symm B) (Ne.symm C),R.ne⟩;ac_nf;refine Run.mono (zqm r H hl0) ?_;rintro _ m2 ⟨w,g,f,R2,f2⟩;exact⟨_,_,w,g,f,fun _ e=>zuu _ _ e,fun _ e=>zuu _ _ e,R2,(f1.l (by simp) (by simp)).trans (f2.sub fun j c=>.inl (by simp at c ⊢;exact .inr (.inr c)))⟩
end
section
variable{x kp:Nat}{pt:Pt}{top:Option Int}{hl:List (Int×List Int)}{ws:List Nat}
theorem ztG(h:∀l∈ls,l.1<hs.length):ls.map (ltE pt (hs++[hd]))=ls.map (ltE pt hs):=ybS fun l hl=>by
 unfold ltE;rw[zg7 (h l hl)]
theorem zsQ(H:PtOk pt)(g:HdOk pt.fs hd)(d:∀y∈hs,HdOk pt.fs y)(hn:hs.length<=900)(f:(hs.length:Int)<2^pt.wide)(R:RoAt m x kp lp kr hr u b pt hs had base top hl ls ws fu)(c:∀l∈ls,l.1<hs.length)(hl0:ls.length<1000) : Run (zdo [.ob x,zdk hd] m) fun a m'=>RoAt m' x kp lp kr hr u b pt (hs++[hd]) had base top hl (ls++[(hs.length,zlK pt (ziG pt hs had base 0 hd) pt.fms.length)]) ws fu/\FrL [kp,lp,u] m m':=by
 obtain⟨⟨a1,a2,a3,a4,a5,a6⟩,⟨b1,b2,b3,b4,s⟩,⟨c1,o,C,k⟩,⟨v,D,t⟩,⟨g1,G⟩,g3⟩:=nd7.mp R.ne;unfold zdo ziX;erw [R.fpr];erw [if_pos (R.pr.meth rfl)];erw [zfn R.pr];erw [R.fpr];erw [if_pos (R.pr.meth rfl)];ac_nf;refine Run.bind (zoL R.pr H g d hn f) ?_;rintro _ m1 ⟨rfl,p,f1⟩;have hok:zlR pt (zlK pt (ziG pt hs had base 0 hd) pt.fms.length):=zlJ _ (yh _);generalize zlK pt (ziG pt hs had base 0 hd) pt.fms.length=B at hok ⊢;have s1:=f1.keep R.self a1 a2;have r:=R.rd.fr f1 (Ne.symm b2) (Ne.symm c1) (Ne.symm b3) (Ne.symm o);have U:=f1.keep R.uw (Ne.symm b4) (Ne.symm C);have q:=f1.keep R.cb (Ne.symm s) (Ne.symm k);erw [show zih "Road" "under_way" (.ob x) m1 = .ok (.ob u) m1 from zcA s1 rfl];erw [if_pos (show zbM (.ob u) m1=ac by unfold zbM;simp only[U])];erw [zfR U (by rw[yj];exact zbC hl0)];ac_nf;have f2:Fr u u m1 (m1.set u (.lst (ls.map (ltE pt hs)++[.tup [.int hs.length,.str ⟨(ltL pt B hs.length hd).toArray⟩]]))):=Fr.set;have e:(m1.set u (.lst (ls.map (ltE pt hs)++[.tup [.int hs.length,.str ⟨(ltL pt B hs.length hd).toArray⟩]])))[u]?=aa (.lst ((ls++[(hs.length,B)]).map (ltE pt (hs++[hd])))):=by
  rw[zaR U,yak,ztG c];have hl1:(hs++[hd]).getD hs.length []=hd:=by
   rw[yal,yan (yh _),yaD];rfl
  show _=aa (MO.lst (_++[ltE pt (hs++[hd]) (hs.length,B)]));unfold ltE;rw[hl1]
 generalize m1.set u (.lst (ls.map (ltE pt hs)++[.tup [.int hs.length,.str ⟨(ltL pt B hs.length hd).toArray⟩]]))=m2 at f2 e ⊢;have j:=zwC (n:=hs.length) H hok g;have i:=znV H.w hok;have h:=zmJ j;rw[zrp (by rw[zrl f];rw[h];exact yO i.2 (by decide))];ac_nf;exact Run.ok ⟨⟨f2.keep s1 a5 a5,p.fr f2 b4 b4 C C,r.fr f2 D D g1 g1,e,f2.keep q (Ne.symm g3) (Ne.symm g3),R.ne⟩,(f1.l (by simp) (by simp)).trans (f2.l (by simp) (by simp))⟩
end
theorem zs5(pt:Pt)(m:Sto):Run (mkM "Road" zei [pt.e] m) fun a m'=>a = .ob m.length/\(∃kp lp kr hr u b,RoAt m' m.length kp lp kr hr u b pt [] ab ab ab [] [] [] ab/\(∀j∈[m.length,kp,lp,kr,hr,u,b],m.length<=j))/\FrL [] m m':=by
 unfold mkM zei ziY;ac_nf;have T:∀fs:List (ae×D),(m++[MO.ins "Road" fs])[m.length]?=aa (.ins "Road" fs):=fun fs=>by simp
 have E:∀fs q:List (ae×D),(m++[MO.ins "Road" fs]).set m.length (.ins "Road" q)=m++[.ins "Road" q]:=fun fs q=>by
  rw[ybj _ _ (yh _),yaD];rfl
 rw[zbO (T _) (by show 0<1000;decide),E];have l0:(m++[MO.ins "Road" (zbh "pact" pt.e [])]).length=m.length+1:=by simp
 have t:=T (zbh "pact" pt.e []);have f0:FrL [] m (m++[MO.ins "Road" (zbh "pact" pt.e [])]):=⟨by omega,fun j h _=>yab h⟩;generalize m++[MO.ins "Road" (zbh "pact" pt.e [])]=m0 at l0 t f0 ⊢;ac_nf;refine Run.bind (make_w pt m0) ?_;rintro _ m1 ⟨rfl,P,Y,rfl⟩;have q1:=P.lt;have x1:(m0++Y)[m.length]?=aa (.ins "Road" (zbh "pact" pt.e [])):=zcG t;have f1:FrL [] m (m0++Y):=f0.trans ⟨by simp,fun j h _=>yab h⟩;generalize m0++Y=m1 at P q1 x1 f1 ⊢;erw [zbO x1 (by show 1<1000;decide)];have g1:Fr m.length m.length m1 (m1.set m.length (.ins "Road" (zbh "presser" (.ob m0.length) (zbh "pact" pt.e [])))):=Fr.set;have s:(m1.set m.length (.ins "Road" (zbh "presser" (.ob m0.length) (zbh "pact" pt.e []))))[m.length]?=aa (.ins "Road" [("pact", pt.e),("presser", .ob m0.length)]):=by rw[zaR x1];rfl
 have p2:=P.fr g1 (by omega) (by omega) (by omega) (by omega);have f2:FrL [] m (m1.set m.length (.ins "Road" (zbh "presser" (.ob m0.length) (zbh "pact" pt.e [])))):=⟨yO f1.len g1.len,fun j h z=>(g1.at' j (yQ h f1.len) (by omega) (by omega)).trans (f1.at' j h z)⟩;generalize m1.set m.length (.ins "Road" (zbh "presser" (.ob m0.length) (zbh "pact" pt.e [])))=m2 at s p2 f2 ⊢;have q2:=p2.lt;ac_nf;refine Run.bind (zu8 pt m2) ?_;rintro _ e ⟨rfl,p,y,rfl⟩;have O:=p2.app (r:=y);have o:(m2++y)[m.length]?=aa (.ins "Road" [("pact", pt.e),("presser", .ob m0.length)]):=zcG s;have f3:FrL [] m (m2++y):=f2.trans ⟨by simp,fun j h _=>yab h⟩;have Z:=p.lt;generalize m2++y=e at O o f3 p Z ⊢;erw [zbO o (by show 2<1000;decide)];have k:Fr m.length m.length e (e.set m.length (.ins "Road" (zbh "reader" (.ob m2.length) [("pact", pt.e),("presser", .ob m0.length)]))):=Fr.set;have x4:(e.set m.length (.ins "Road" (zbh "reader" (.ob m2.length) [("pact", pt.e),("presser", .ob m0.length)])))[m.length]?=aa (.ins "Road" [("pact", pt.e),("presser", .ob m0.length),("reader", .ob m2.length)]):=by rw[zaR o];rfl
 have N:=O.fr k (by omega) (by omega) (by omega) (by omega);have R:=p.fr k (by omega) (by omega) (by omega) (by omega);have f4:FrL [] m (e.set m.length (.ins "Road" (zbh "reader" (.ob m2.length) [("pact", pt.e),("presser", .ob m0.length)]))):=⟨yO f3.len k.len,fun j h z=>(k.at' j (yQ h f3.len) (by omega) (by omega)).trans (f3.at' j h z)⟩;generalize e.set m.length (.ins "Road" (zbh "reader" (.ob m2.length) [("pact", pt.e),("presser", .ob m0.length)]))=M at x4 N R f4 ⊢;have q4:=R.lt;erw [zj5];ac_nf;have L:=N.app (r:=[.lst []]);have r5:=R.app (r:=[.lst []]);have x5:(M++[.lst []])[m.length]?=aa (.ins "Road" [("pact", pt.e),("presser", .ob m0.length),("reader", .ob m2.length)]):=zcG x4;have A:(M++[.lst []])[M.length]?=aa (.lst []):=zkb rfl;have n:FrL [] m (M++[.lst []]):=f4.trans ⟨by simp,fun j h _=>yab h⟩;have l5:(M++[MO.lst []]).length=M.length+1:=by simp
 generalize M++[.lst []]=d at L r5 x5 A n l5 ⊢;rw[zbO x5 (by show 3<1000;decide)];have i:Fr m.length m.length d (d.set m.length (.ins "Road" (zbh "under_way" (.ob M.length) [("pact", pt.e),("presser", .ob m0.length),("reader", .ob m2.length)]))):=Fr.set;have x6:(d.set m.length (.ins "Road" (zbh "under_way" (.ob M.length) [("pact", pt.e),("presser", .ob m0.length),("reader", .ob m2.length)])))[m.length]?=aa (.ins "Road" [("pact", pt.e),("presser", .ob m0.length),("reader", .ob m2.length),("under_way", .ob M.length)]):=by rw[zaR x5];rfl
 have K:=L.fr i (by omega) (by omega) (by omega) (by omega);have H:=r5.fr i (by omega) (by omega) (by omega) (by omega);have w:=i.keep A (by omega) (by omega);have l6:(d.set m.length (.ins "Road" (zbh "under_way" (.ob M.length) [("pact", pt.e),("presser", .ob m0.length),("reader", .ob m2.length)]))).length=M.length+1:=by rw[yaw];exact l5
 have S:FrL [] m (d.set m.length (.ins "Road" (zbh "under_way" (.ob M.length) [("pact", pt.e),("presser", .ob m0.length),("reader", .ob m2.length)]))):=⟨yO n.len i.len,fun j h z=>(i.at' j (yQ h n.len) (by omega) (by omega)).trans (n.at' j h z)⟩;generalize d.set m.length (.ins "Road" (zbh "under_way" (.ob M.length) [("pact", pt.e),("presser", .ob m0.length),("reader", .ob m2.length)]))=c at x6 K H w S l6 ⊢;erw [zj5];ac_nf;have J:=K.app (r:=[.lst []]);have C:=H.app (r:=[.lst []]);have X:(c++[.lst []])[m.length]?=_:=zcG x6;have v:(c++[.lst []])[M.length]?=_:=zcG w;have W:(c++[.lst []])[c.length]?=aa (.lst []):=zkb rfl;have l:FrL [] m (c++[.lst []]):=S.trans ⟨by simp,fun j h _=>yab h⟩;generalize c++[.lst []]=f at J C X v W l ⊢;rw[zbO X (by show 4<1000;decide)];have G:Fr m.length m.length f (f.set m.length (.ins "Road" (zbh "coming_back" (.ob c.length) [("pact", pt.e),("presser", .ob m0.length),("reader", .ob m2.length),("under_way", .ob M.length)]))):=Fr.set;have x:(f.set m.length (.ins "Road" (zbh "coming_back" (.ob c.length) [("pact", pt.e),("presser", .ob m0.length),("reader", .ob m2.length),("under_way", .ob M.length)])))[m.length]?=aa (.ins "Road" [("pact", pt.e),("presser", .ob m0.length),("reader", .ob m2.length),("under_way", .ob M.length),("coming_back", .ob c.length)]):=by rw[zaR X];rfl
 have I:=J.fr G (by omega) (by omega) (by omega) (by omega);have B:=C.fr G (by omega) (by omega) (by omega) (by omega);have U:=G.keep v (by omega) (by omega);have V:=G.keep W (by omega) (by omega);have F:FrL [] m (f.set m.length (.ins "Road" (zbh "coming_back" (.ob c.length) [("pact", pt.e),("presser", .ob m0.length),("reader", .ob m2.length),("under_way", .ob M.length)]))):=⟨yO l.len G.len,fun j h z=>(G.at' j (yQ h l.len) (by omega) (by omega)).trans (l.at' j h z)⟩;generalize f.set m.length (.ins "Road" (zbh "coming_back" (.ob c.length) [("pact", pt.e),("presser", .ob m0.length),("reader", .ob m2.length),("under_way", .ob M.length)]))=Q at x I B U V F ⊢;erw [zbO x (by show 5<1000;decide)];have g:Fr m.length m.length Q (Q.set m.length (.ins "Road" (zbh "furthest" .non [("pact", pt.e),("presser", .ob m0.length),("reader", .ob m2.length),("under_way", .ob M.length),("coming_back", .ob c.length)]))):=Fr.set;ac_nf;refine Run.ok ⟨rfl,⟨m0.length,m0.length+1,m2.length,m2.length+1,M.length,c.length,⟨by rw[zaR x];rfl,I.fr g (by omega) (by omega) (by omega) (by omega),B.fr g (by omega) (by omega) (by omega) (by omega),g.keep U (by omega) (by omega),g.keep V (by omega) (by omega),nd7.mpr (by omega)⟩,?_⟩,?_⟩
 ·intro j hj;simp only[yB,y9,or_false]at hj;omega
 ·exact⟨yO F.len g.len,fun j h z=>(g.at' j (yQ h F.len) (by omega) (by omega)).trans (F.at' j h z)⟩
def isS(s:ae)(d:D):D:=match d with
 |.str w=>.bl (decide (s=w))|_=>.non
theorem zwl(s:ae)(S:List ae):(zdX S).map (isS s)=(S.map fun w=>decide (s=w)).map D.bl:=by
 unfold zdX;rw[yaf,yaf];rfl
theorem zjN{k:Nat}{S:List ae}(hl:S.length<=10):zdx [.tup [.str s,.int k],.tup (zdX S)] m = .ok (.bl (decide (s∈S))) m:=by
 apply zas;unfold zdx zi5;ac_nf;rw[zcc (ds:=zdX S) (isS s) (by ac_nf) (by unfold zdX;rw[yj];omega) (by
  intro d hd;obtain⟨w,_,rfl⟩:=yah.mp hd;refine⟨_,rfl,?_⟩;show zbq [.tup [.str s,.int k],.str w,.int 2] m = .ok (.bl (decide (s=w))) m;rw[zc7];congr 3;simp),zwl]
 ac_nf;rw[zm9,show (S.map fun w=>decide (s=w)).any id=decide (s∈S) by
  rw[ybE,List.any_eq_true];simp]
 by_cases h:s∈S
 ·rw[decide_eq_true h];erw [zpw];ac_nf;exact Run.ok ⟨by rw[decide_eq_true (by omega)],rfl⟩
 ·rw[decide_eq_false h];ac_nf;exact Run.ok ⟨rfl,rfl⟩
section
variable{x kp:Nat}{pt:Pt}{top:Option Int}{hl:List (Int×List Int)}{ws:List Nat}{k:Nat}{P:D->Sto->Prop}
theorem ztZ(R:RoAt m x kp lp kr hr u b pt hs had base top hl ls ws fu)(h:Run (zdo [.ob x,d] m) P):Run (zaY [.ob x,.tup [.str "press", d]] m) P:=by
 unfold zaY zg8;erw [zc7,decide_eq_true (by simp)];erw [if_pos (R.meth rfl)];ac_nf;refine Run.bind h ?_;intro a m' ha;ac_nf;exact Run.ok ha
theorem do_letter(R:RoAt m x kp lp kr hr u b pt hs had base top hl ls ws fu)(c:s ≠ "press")(H:s∈(["come", "copy", "lose"]:List ae))(h:Run (za8 [.ob x,.str s,.int k] m) P):Run (zaY [.ob x,.tup [.str s,.int k]] m) P:=by
 unfold zaY zg8;erw [zc7,decide_eq_false (fun z=>c z.2)];erw [zc7,decide_eq_false (fun z=>by simp at z)];erw [zjN (by simp),decide_eq_true H];erw [if_pos (R.meth rfl)];ac_nf;refine Run.bind h ?_;intro a m' ha;ac_nf;exact Run.ok ha
theorem do_word(R:RoAt m x kp lp kr hr u b pt hs had base top hl ls ws fu)(d:s ≠ "press")(c:s∉(["come", "copy", "lose"]:List ae))(H:s∈(["word", "echo", "drop"]:List ae))(h:Run (zcl [.ob x,.str s,.int k] m) P):Run (zaY [.ob x,.tup [.str s,.int k]] m) P:=by
 unfold zaY zg8;erw [zc7,decide_eq_false (fun z=>d z.2)];erw [zc7,decide_eq_false (fun z=>by simp at z)];erw [zjN (by simp),decide_eq_false c];erw [zjN (by simp),decide_eq_true H];erw [if_pos (R.meth rfl)];ac_nf;refine Run.bind h ?_;intro a m' ha;ac_nf;exact Run.ok ha
end
theorem zq7:∀(n:Nat)(l:List Int),l.Nodup->(∀x∈l,0<=x/\x<n)->l.length<=n
 |0,l,_,h=>by
  cases l with
  |nil=>exact yh _|cons a l=>have:=h a yar;omega
 |n+1,l,hn,h=>by
  by_cases hm:(n:Int)∈l
  ·have c:=zq7 n (l.erase n) (hn.erase _) (fun x b=>by
    have H:=(hn.mem_erase_iff).mp b;have:=h x H.2;have:=H.1;omega)
   rw[List.length_erase_of_mem hm]at c;omega
  ·exact yO (zq7 n l hn fun x b=>by
    have:=h x b;have:x≠n:=fun z=>hm (z ▸ b);omega) (by omega)
theorem RdI.len{top:Option Int}{hl:List (Int×List Int)}(R:RdI late hs came top hl):hl.length<=hs.length:=by
 have:=zq7 hs.length (ksH hl) R.nd fun x h=>R.nn x (R.mem h);unfold ksH at this;rw[yj]at this;exact this
theorem zv5(h:m[r]?=aa (.lst (ns.map D.int)))(hn:ns≠[]):zk2 [.ob r] m = .ok (.int (zpr ns)) m:=by
 have e:=max_l (m:=m) hn;unfold zk2 at e ⊢;have E:lOf (.ob r) m=lOf (.lst (ns.map D.int)) m:=by
  unfold lOf;simp only[h]
 simp only[E];exact e
def m61t:SV:=by walk_at "#3v!<rf(/<qo#uhw'Lw(&u(q;uvrfr(ZZ(1/r:(r:rw"
theorem zh3:zgL=(zar (zaJ (eOp ixD (zad 0) (eC (.int 3))) (gT 4 (zaA (gN 3) (zaA (gN 4) (zaA (gN 5) (zaA (gN 6) zcw))))))
 (zar (sIf (zfY (tV (eOp neD (zad 1) (eFn zcZ zaj))) (tV (eOp ltD (zad 2) (eOp zc8 (eFn zk2 (zac (zad 1) zaj)) (zad 5)))))
 (zaE (eC (.bl ag)))
 za3) m61t)):=rfl
section
variable{n:Nat}{pt:Pt}
def inW(lo hi:Int):D->Bool
 |.int i=>decide (lo<=i/\i<hi)|_=>ag
theorem znU(h:m[r]?=aa (.lst (came.map D.int)))(hl:came.length<=1000000):Run ((m61t [aa pt.e,aa (.ob r),aa (.int n),aa (.int pt.rd.skips),aa (.int pt.rd.gap),aa (.int pt.rd.late),aa (.int pt.rd.anew)] m).bind zi8) fun a m'=>m'=m/\∃bb:Bool,a = .bl bb/\(bb=ac->((n:Int)<=pt.rd.skips∨∃c∈came,(n:Int)-1-pt.rd.skips<=c/\c<n)):=by
 unfold m61t;ac_nf;by_cases hs:(n:Int)<=pt.rd.skips
 ·rw[if_pos hs];ac_nf;exact Run.ok ⟨rfl,ac,rfl,fun _=>.inl hs⟩
 ·rw[if_neg hs];ac_nf;rw[znc (inW ((n:Int)-1-pt.rd.skips) n) (k:=r) (ds:=came.map D.int) (by ac_nf) h (by rw[yj];exact hl) (by
   intro d hd;obtain⟨i,hi,rfl⟩:=yah.mp hd;refine⟨_,rfl,?_,rfl⟩;show (tV (zfO leD ltD (eOp zc8 (eOp zc8 (zad 2) (eC (.int 1))) (zad 3)) (zad 7) (zad 2))) [aa pt.e,aa (.ob r),aa (.int n),aa (.int pt.rd.skips),aa (.int pt.rd.gap),aa (.int pt.rd.late),aa (.int pt.rd.anew),aa (.int i)] m = .ok (decide ((n:Int)-1-pt.rd.skips<=i/\i<n)) m;ac_nf;by_cases b:(n:Int)-1-pt.rd.skips<=i
   ·rw[if_pos b];ac_nf;by_cases H:i<(n:Int)
    ·rw[decide_eq_true H,decide_eq_true ⟨b,H⟩]
    ·rw[decide_eq_false H,decide_eq_false fun z=>H z.2]
   ·rw[if_neg b];ac_nf;rw[decide_eq_false fun z=>b z.1])]
  ac_nf;have E:(came.map D.int).filter (inW ((n:Int)-1-pt.rd.skips) n)=(came.filter fun i=>decide ((n:Int)-1-pt.rd.skips<=i/\i<n)).map D.int:=by
   rw[List.filter_map];rfl
  rw[E,show neD (.lst ((came.filter fun i=>decide ((n:Int)-1-pt.rd.skips<=i/\i<n)).map D.int)) (.lst []) m=_ from ne_lst _ []];ac_nf;refine Run.ok ⟨rfl,_,rfl,fun z=>.inr ?_⟩;rw[Bool.not_eq_true',decide_eq_false_iff_not]at z;obtain⟨c,e⟩:=List.exists_mem_of_ne_nil _ z;obtain⟨b,H⟩:=ya1.mp e;rw[decide_eq_true_eq]at H;exact⟨c,b,H⟩
theorem zmI(h:m[r]?=aa (.lst (came.map D.int)))(hl:came.length<=1000000):Run (zcp [pt.e,.ob r,.int n] m) fun a m'=>m'=m/\∃b:Bool,a = .bl b/\(b=ac->(∀t∈came,t-pt.rd.late<=n)/\((n:Int)<=pt.rd.skips∨∃c∈came,(n:Int)-1-pt.rd.skips<=c/\c<n)):=by
 unfold zcp;rw[zh3];erw [zlb];unfold Rd4.e;erw [znQ h];by_cases d:came=[]
 ·subst d;rw[decide_eq_true rfl];ac_nf;refine Run.mono (znU h hl) ?_;rintro _ m1 ⟨rfl,b,rfl,e⟩;exact⟨rfl,b,rfl,fun z=>⟨(fun t H=>nomatch H),e z⟩⟩
 ·rw[decide_eq_false d];erw [zv5 h d];ac_nf;by_cases hm:(n:Int)<zpr came-pt.rd.late
  ·rw[if_pos hm];exact Run.ok ⟨rfl,ag,rfl,fun z=>nomatch z⟩
  ·rw[if_neg hm];refine Run.mono (znU h hl) ?_;rintro _ m1 ⟨rfl,b,rfl,e⟩;exact⟨rfl,b,rfl,fun z=>⟨fun t H=>by have:=zrs H;omega,e z⟩⟩
end
theorem ztX{x:D}(h:neD x y m = .ok (.bl ag) m):eqD x y m = .ok (.bl ac) m:=by
 unfold neD at h;unfold eqD;cases e:eqB (rs m x) (rs m y) with
 |none=>rw[e]at h;cases h|some b=>
  rw[e]at h;cases b with
  |true=>rfl|false=>cases h
theorem eq_tw:eqD (twD n) (twD n) m = .ok (.bl ac) m:=by
 have h:PyData.strOk "twice" = ac:=by decide +kernel
 have hd:zeD (twD n)=ac:=by simp[zeD,zgc,pyOkL,py,pyL,twD,SeqAt.shaped,PyData.canLay0,PyData.canLayAll0,PyData.depth,PyData.depthAll,h]
 have e:eqB (twD n) (twD n)=aa ac:=by
  show (if zeD (twD n)&&zeD (twD n) then aa (PyData.eqv (py (twD n)) (py (twD n))) else ab)=_;rw[hd];simp[twD,py,pyL,PyData.eqv,PyData.eqvAll]
 unfold eqD;rw[show rs m (twD n)=twD n from rfl,e];all_goals rfl
theorem ztC(ws:List Nat):neD (.lst (ws.map wdE)) (.lst []) m = .ok (.bl (!decide (ws=[]))) m:=by
 have b:PyData.strOk "have" = ac:=by decide +kernel
 have a:∀l:List Nat,pyOkL (l.map wdE)=ac:=by
  intro l;induction l with
  |nil=>simp[pyOkL]|cons t r i=>simp[pyOkL,zgc,wdE,i]
 have H:∀l:List Nat,PyData.canLayAll0 (pyL (l.map wdE))=ac:=by
  intro l;induction l with
  |nil=>simp[pyL,PyData.canLayAll0]|cons t r i=>simp[pyL,py,wdE,PyData.canLayAll0,PyData.canLay0,i,b]
 have h:∀l:List Nat,PyData.depthAll (pyL (l.map wdE))<=1:=by
  intro l;induction l with
  |nil=>simp[pyL,PyData.depthAll]|cons t r i=>simp[pyL,py,wdE,PyData.depthAll,PyData.depth];omega
 have hd:zeD (.lst (ws.map wdE))=ac:=by
  have:=h ws;simp[zeD,zgc,py,SeqAt.shaped,PyData.canLay0,PyData.depth,a,H];omega
 have e:eqB (.lst (ws.map wdE)) (.lst [])=aa (decide (ws=[])):=by
  show (if zeD (.lst (ws.map wdE))&&zeD (.lst []) then aa (PyData.eqv (py (.lst (ws.map wdE))) (py (.lst []))) else ab)=_;rw[hd,show zeD (.lst [])=ac from zkh []];cases ws with
  |nil=>simp[py,pyL,PyData.eqv,PyData.eqvAll]|cons t r=>simp[py,pyL,PyData.eqv,PyData.eqvAll]
 simp only[neD,rs,e]
theorem in_obI{xs:List Int}(h:m[r]?=aa (.lst (xs.map D.int))):MD.inD (.int n) (.ob r) m = .ok (.bl (decide (n∈xs))) m:=by
 have e:=zmQ (v:=n) (row:=xs) (m:=m);unfold MD.inD at e ⊢;have E:inO (.int n) (.ob r) m=inO (.int n) (.tup (xs.map D.int)) m:=by
  unfold inO;simp only[h]
 rw[E];exact e
theorem ne_rdI:neD (rdD n hd) (rdD n hd) m = .ok (.bl ag) m:=by
 have H:PyData.strOk "read" = ac:=by decide +kernel
 have pl:∀l:List Int,pyL (l.map D.int)=l.map PyData.int:=fun l=>by induction l with
  |nil=>rfl|cons a l i=>show PyData.int a::pyL (l.map D.int)=_;rw[i];rfl
 have po:∀l:List Int,pyOkL (l.map D.int)=ac:=fun l=>by induction l with
  |nil=>rfl|cons a l i=>show (zgc (.int a)&&pyOkL (l.map D.int))=ac;rw[i];rfl
 have h:zeD (rdD n hd)=ac:=by
  simp[zeD,zgc,pyOkL,py,pyL,rdD,zdk,SeqAt.shaped,PyData.canLay0,PyData.canLayAll0,PyData.depth,PyData.depthAll,H,pl,po,PySem.W.ke_canLayAll0,PySem.W.ke_depthAll]
 have e:eqB (rdD n hd) (rdD n hd)=aa ac:=by
  show (if zeD (rdD n hd)&&zeD (rdD n hd) then aa (PyData.eqv (py (rdD n hd)) (py (rdD n hd))) else ab)=_;rw[h];simp[rdD,zdk,py,pyL,PyData.eqv,PyData.eqvAll,pl,PySem.W.ked_eqvAll]
 unfold neD;rw[show rs m (rdD n hd)=rdD n hd from rfl,e];all_goals rfl
section
variable{fs:List Fd}
theorem zwf(kd:Kd):∃(s:String)(r:List D),kd.e = .tup (.str s::r):=by
 cases kd <;> exact⟨_,_,rfl⟩
theorem zpf(b:P3 m0 p q c m)(i:c+2<2^40)(b0:0<f.b)(b1:f.b<=40) : Run (zcL [.ob p,f.e] m) fun a m'=>∃w:Wy,a=w.e/\w.Ok f.b/\P3 m p q (c+2) m':=by
 obtain⟨s,r,e⟩:=zwf f.kd;unfold zcL zh4 Fd.e;erw [e];ac_nf;by_cases c1:s = "drawn"
 ·rw[if_pos c1];ac_nf;exact Run.ok ⟨.whole,rfl,trivial,b.re.more (by omega)⟩
 ·rw[if_neg c1];ac_nf;refine Run.bind (zaQ b (by omega) (by decide) (by decide)) ?_;rintro _ m1 ⟨u,rfl,g,U,h⟩;ac_nf;obtain⟨w,d,w0,w1⟩:∃w:Nat,(if 1+u<(f.b:Int) then 1+u else (f.b:Int))=w/\0<w/\w<=f.b:=⟨(if 1+u<(f.b:Int) then 1+u else (f.b:Int)).toNat,by split <;> omega,by split <;> omega,by split <;> omega⟩;rw[d,zeR (by omega)];erw [zws ⟨by decide,by decide⟩];ac_nf;refine Run.bind (zcv h (by omega) (by simp) (by simp)) ?_;rintro v m2 ⟨hv,H⟩;ac_nf;simp only[yB,y9,or_false]at hv;have j:=p2 w;rcases hv with rfl|rfl|rfl
  ·exact Run.ok ⟨.keep,rfl,trivial,h.via H⟩
  ·exact Run.ok ⟨.keep,rfl,trivial,h.via H⟩
  ·exact Run.ok ⟨.low w (2^w/2),rfl,⟨w0,w1,by omega,by omega⟩,h.via H⟩
def rpT:SV:=by walk_at "#s}q+sDrs8tat/r9t&#u8rRrysEqLqX."
def rpB:SV:=by walk_at "#ar+qTsy%7qi#sBrerr7q:rcqyx6GqLrcqPqXg{v"
theorem zgZ:zfH=(zar (zaJ (eFn zev (zac (zad 0) (zac (eC (.int 3)) zaj))) (gT 4 (zaA (gN 2) (zaA (gN 3) (zaA (gN 4) (zaA (gN 5) zcw))))))
 (zar (zaJ (eFn zfE zaj) (gN 6))
 (zar (zkl (aIt (eSlA (zad 4) zj3 (zee (zad 1)))) (gT 3 (zaA (gN 7) (zaA (gN 8) (zaA (gN 9) zcw)))) rpB)
 (zaE (eFn zbr (zac (zad 2) (zac (zad 3) (zac (eFn zkm (zac (zad 6) zaj)) (zac (zad 5) zaj))))))))):=rfl
theorem zky{many:Nat}(hp:P3 m0 p q c m)(hc:c+2000<2^40) : Run (zcy [.ob p,.int many] m) fun x m'=>∃pt:Pt,x=pt.e/\PtOk pt/\9<=pt.wide/\P3 m p q (c+2000) m':=by
 unfold zcy;rw[zgZ];ac_nf;refine Run.bind (zqB (most:=3) hp (by omega) (by decide) (by decide)) ?_;rintro _ m1 ⟨pt,rfl,h,hw,B⟩;unfold Pt.e;erw [zj5];erw [slA_t,zuD,<- ycr];ac_nf;have Z:P3 m1 p q (c+1000) (m1++[.lst []]):=B.re.app;have hr:(m1++[MO.lst []])[m1.length]?=aa (.lst []):=by simp
 have hlt:=B.lt;have e:m1.length≠p:=by omega
 have a:m1.length≠q:=by omega
 have hr0:m1.length<=m1.length:=yh _;have hf1:=h.f1;have W:=h.fml;have Q:(pt.fms.take many).length<=12:=by rw[ya9];omega
 have Y:∀f∈pt.fms.take many,FmOk pt.fs f:=fun f P=>h.fm f (ycV P);generalize pt.fms.take many=F at Q Y ⊢;generalize m1++[MO.lst []]=mA at Z hr ⊢;have key:∀{r:Nat},mA[r]?=aa (.lst [])->r≠p->r≠q->m1.length<=r->Run (ze9 (gT 3 (zaA (gN 7) (zaA (gN 8) (zaA (gN 9) zcw)))) rpB (F.map Fm.e) [aa (.ob p),aa (.int many),aa (shD pt.fs pt.n),aa (.int pt.wide),aa (.tup (pt.fms.map Fm.e)),aa pt.rd.e,aa (.ob r),ab,ab,ab] mA) fun R m'=>∃(I:En)(G:List Fm)(s o X:Option D),R = .nx I/\I=[aa (.ob p),aa (.int many),aa (shD pt.fs pt.n),aa (.int pt.wide),aa (.tup (pt.fms.map Fm.e)),aa pt.rd.e,aa (.ob r),s,o,X]/\m'[r]?=aa (.lst (G.map Fm.e))/\G.length<=12/\(∀f∈G,FmOk pt.fs f)/\P3 m1 p q (c+1900) m':=by
  intro r hr e a hr0;refine Run.mono (zbD (fun k ρ m'=>∃(G:List Fm)(s o X:Option D),ρ = [aa (.ob p),aa (.int many),aa (shD pt.fs pt.n),aa (.int pt.wide),aa (.tup (pt.fms.map Fm.e)),aa pt.rd.e,aa (.ob r),s,o,X]/\m'[r]?=aa (.lst (G.map Fm.e))/\G.length=k/\(∀f∈G,FmOk pt.fs f)/\P3 m1 p q (c+1000+40*k) m') _ 0 ⟨[],_,_,_,rfl,hr,rfl,fun f P=>(nomatch P),Z⟩ ?_) ?_
  ·rintro i d ρ m2 hd ⟨G,s,o,X,rfl,g1,E,g3,v⟩;have hi:i<F.length:=by have:=(yi.mp hd).1;simpa using this
   rw[yW]at hd;obtain⟨f,ef,rfl⟩:=yat.mp hd;have l:=Y f (yai ef);rw[yL]at E v ⊢;rw[show f.e=D.tup [.int f.a,.int f.b,.tup (f.wys.map Wy.e)] from rfl];unfold rpB;ac_nf;refine Run.bind (zaQ v (by omega) (by decide) (by decide)) ?_;rintro _ O ⟨u,rfl,u0,u1,g⟩;ac_nf;have J:∀(ws:List Wy)(M:Sto),WyOk pt.fs ws->P3 O p q (c+1000+40*i+30) M->Run (rpT [aa (.ob p),aa (.int many),aa (shD pt.fs pt.n),aa (.int pt.wide),aa (.tup (pt.fms.map Fm.e)),aa pt.rd.e,aa (.ob r),aa (.int f.a),aa (.int f.b),aa (.tup (ws.map Wy.e))] M) fun R m'=>∃ρ2,R = .nx ρ2/\∃(G:List Fm)(s o X:Option D),ρ2=[aa (.ob p),aa (.int many),aa (shD pt.fs pt.n),aa (.int pt.wide),aa (.tup (pt.fms.map Fm.e)),aa pt.rd.e,aa (.ob r),s,o,X]/\m'[r]?=aa (.lst (G.map Fm.e))/\G.length=i+1/\(∀f∈G,FmOk pt.fs f)/\P3 m1 p q (c+1000+40*(i+1)) m':=by
    intro ws M y n;unfold rpT;have T:=n.kept (g.kept g1 e a) e a;erw [if_pos (zhQ T)];ac_nf;refine Run.bind (zq2 [0,2,4] n (by omega) (by simp) (by simp)) ?_;rintro _ m5 ⟨z,hz,rfl,L⟩;have S:=L.kept T e a;ac_nf;have hb0:=l.b0;obtain⟨b,hb,b0,b1⟩:∃b:Nat,(if (f.b:Int)+(z:Nat)<40 then (f.b:Int)+(z:Nat) else 40)=b/\0<b/\b<=40:=⟨(if (f.b:Int)+(z:Nat)<40 then (f.b:Int)+(z:Nat) else 40).toNat,by split <;> omega,by split <;> omega,by split <;> omega⟩;rw[hb,zfR S (by rw[yj];exact zbC (by omega))];ac_nf;refine Run.ok ⟨_,rfl,G++[⟨f.a,b,ws⟩],_,_,_,rfl,by rw[zaR S,yak];rfl,by simp[E],fun N H=>?_,((v.via (g.via (n.via L))).set hr0 e a).more (by omega)⟩;rcases yae.mp H with H|H
    ·exact g3 N H
    ·rw[y8.mp H];exact⟨l.a0,l.a1,b0,b1,y⟩
   by_cases c1:0<u
   ·rw[if_pos c1];ac_nf;refine Run.bind (zfS (ds:=pt.fs.map Fd.e) (fun k m'=>P3 O p q (c+1000+40*i+1+2*k) m') (fun j d x=>∃w:Wy,x=w.e/\∀f,pt.fs[j]?=aa f->w.Ok f.b) (by
     erw [zwi];ac_nf) (by rw[yj];omega) g.re ?_) ?_
    ·intro j d M C n;have V:j<pt.fs.length:=by have:=(yi.mp C).1;simpa using this
     rw[yW]at C;obtain⟨fd,K,rfl⟩:=yat.mp C;obtain⟨b0,b1,_⟩:=h.sh.ok j fd K;ac_nf;refine Run.mono (zpf n (by omega) b0 b1) ?_;rintro _ m5 ⟨w,rfl,A,L⟩;exact⟨⟨w,rfl,fun N H=>by rw[K]at H;cases H;exact A⟩,(n.via L).more (by omega)⟩
    ·rintro xs M ⟨t,hP,n⟩;rw[yj]at t n;obtain⟨ws,rfl,y⟩:=lift Wy.e (fun j w=>∀f,pt.fs[j]?=aa f->w.Ok f.b) xs 0 fun j x U=>by
      have V:j<pt.fs.length:=by have:=(yi.mp U).1;omega
      rw[yL];exact hP j _ x (by rw[yW,yu V];rfl) U
     ac_nf;exact J ws M ⟨by simpa using t,fun j N w H A=>by have:=y j w A;rw[yL]at this;exact this N H⟩ (n.more (by omega))
   ·rw[if_neg c1];ac_nf;exact J f.wys O l.wy (g.re.more (by omega))
  ·rintro _ m' ⟨ρ,rfl,G,s,o,X,rfl,g1,E,g3,v⟩;rw[yL,yj]at E v;exact⟨_,G,_,_,_,rfl,rfl,g1,by omega,g3,v.more (by omega)⟩
 refine Run.bind (key hr e a hr0) ?_;rintro _ m2 ⟨ρ,G,s,o,X,rfl,rfl,g1,E,g3,v⟩;erw [show zkm [.ob m1.length] m2 = .ok (.tup (G.map Fm.e)) m2 by simp only[zkm,g1]];erw [zpG (by simp)];ac_nf;exact Run.ok ⟨⟨pt.fs,pt.n,pt.wide,G,pt.rd⟩,rfl,⟨h.n0,h.n1,h.f0,h.f1,h.sh,h.w0,h.w1,g3,E,h.rd⟩,hw,(B.via v).more (by omega)⟩
end
structure Ro61(m:Sto)(p q x r:Nat)(pt:Pt)(hs:List (List Int))(ls:List (Nat×Option Nat))(ws:List Nat)(came:List Int):Prop where
 ex:∃kp lp kr hr u b had base top hl,RoAt m x kp lp kr hr u b pt hs had base top hl ls ws top/\RdI pt.rd.late hs came top hl/\(∀h,had=aa h->(h:Int)∈came)/\(∀h,base=aa h->(h:Int)∈came)/\p∉[x,kp,lp,kr,hr,u,b]/\q∉[x,kp,lp,kr,hr,u,b]/\r∉[x,kp,lp,kr,hr,u,b]
 lt:∀l∈ls,Lt61 pt hs came l.1 l.2
 wd:∀w∈ws,(w:Int)∈came
 cm:m[r]?=aa (.lst (came.map D.int))
 ne:r≠p/\r≠q
section
variable{x k:Nat}{pt:Pt}{ws:List Nat}
theorem Ro61.box(R:Ro61 m p q x r pt hs ls ws came)(h:P3 m p q c' m'):Ro61 m' p q x r pt hs ls ws came:=by
 obtain⟨kp,lp,kr,hr,u,b,had,base,top,hl,c,I,g1,g,N,n,a⟩:=R.ex;exact⟨⟨kp,lp,kr,hr,u,b,had,base,top,hl,c.fr h.fr N n,I,g1,g,N,n,a⟩,R.lt,R.wd,h.kept R.cm R.ne.1 R.ne.2,R.ne⟩
theorem mem7{y x kp:Nat}:y∉[x,kp,lp,kr,hr,u,b]↔y≠x/\y≠kp/\y≠lp/\y≠kr/\y≠hr/\y≠u/\y≠b:=by
 simp only[yB,y9,or_false,not_or,ne_eq]
theorem zcF{y:Nat}(h:y∉T)(k:∀j∈S,j∈T):y∉S:=fun z=>h (k y z)
theorem Ro61.lose(R:Ro61 m p q x r pt hs ls ws came)(B:P3 m p q c m)(H:k<ls.length)(hl0:ls.length<1000) : Run (zaY [.ob x,.tup [.str "lose", .int k]] m) fun a m'=>Ro61 m' p q x r pt hs (ls.eraseIdx k) ws came/\P3 m' p q c m':=by
 obtain⟨kp,lp,kr,hr,u,b,had,base,top,hl,i,I,g1,G,g,d,N⟩:=R.ex;obtain⟨n,at',e⟩:∃n at',ls[k]?=aa (n,at'):=⟨_,_,yu H⟩;refine Run.mono (do_letter i (by decide) (by simp) (ztJ i e hl0)) ?_;rintro _ m1 ⟨_,R2,f⟩;have h:∀j∈[u],j∈[x,kp,lp,kr,hr,u,b]:=fun j o=>by simp at o ⊢;omega
 exact⟨⟨⟨kp,lp,kr,hr,u,b,had,base,top,hl,R2,I,g1,G,g,d,N⟩,fun l hl=>R.lt l (ydl hl),R.wd,f.keep R.cm (zcF N h),R.ne⟩,B.frL f (zcF g h) (zcF d h)⟩
theorem Ro61.top(R:Ro61 m p q x r pt hs ls ws came):zeC "Road" "letters" (.ob x) m=ac/\zeC "Road" "words" (.ob x) m=ac/\zeC "Road" "heads" (.ob x) m=ac/\zeC "Road" "do" (.ob x) m=ac:=by
 obtain⟨kp,lp,kr,hr,u,b,had,base,top,hl,a,I,g1,g,c,N,n⟩:=R.ex
 exact⟨a.meth rfl,a.meth rfl,a.meth rfl,a.meth rfl⟩
theorem Ro61.letters(R:Ro61 m p q x r pt hs ls ws came):zaV [.ob x] m = .ok (.lst (ls.map (ltE pt hs))) m:=by
 obtain⟨kp,lp,kr,hr,u,b,had,base,top,hl,a,_⟩:=R.ex;exact zmk a
theorem Ro61.words(R:Ro61 m p q x r pt hs ls ws came):zbE [.ob x] m = .ok (.lst (ws.map wdE)) m:=by
 obtain⟨kp,lp,kr,hr,u,b,had,base,top,hl,a,_⟩:=R.ex;exact zp5 a
theorem Ro61.come{n:Nat}(F:deed ≠ "lose")(C:deed ≠ "press")(E:deed∈(["come", "copy", "lose"]:List ae))(R:Ro61 m p q x r pt hs ls ws came)(B:P3 m p q c m)(hp:PtOk pt)(A:∀y∈hs,HdOk pt.fs y)(O:(hs.length:Int)<=2^pt.wide)(e:ls[k]?=aa (n,at'))(hn:hs.length<63)(hl0:ls.length<1000)(i:ws.length<1000)(Q:(∀t∈came,t-pt.rd.late<=n)/\((n:Int)<=pt.rd.skips∨∃c∈came,(n:Int)-1-pt.rd.skips<=c/\c<n)) : Run (zaY [.ob x,.tup [.str deed,.int k]] m) fun a m'=>a=zdP hs came n/\n<hs.length/\P3 m' p q c m'/\m'[r]?=aa (.lst (came.map D.int))/\∀m2,Fr r r m' m2->m2[r]?=aa (.lst ((came++[(n:Int)]).map D.int))->∃ls',ls'.length<=ls.length/\Ro61 m2 p q x r pt hs ls' (ws++[n]) (came++[(n:Int)]):=by
 obtain⟨kp,lp,kr,hr,u,b,had,base,top,hl,S,I,g1,g2,K,J,G⟩:=R.ex;have L:=R.lt _ (yai e);have P:=I.len;have s:=L.lt;have M:May pt came top n:=⟨fun t et=>Q.1 t (I.t2 t et),Q.2⟩;refine Run.mono (do_letter S C E (zt2 F hp A (by omega) S I L M (by omega) i e hl0)) ?_;rintro _ m1 ⟨rfl,d,T,v,R2,I2,_,hh,f⟩;have H:∀j∈[x,kr,hr,b,u],j∈[x,kp,lp,kr,hr,u,b]:=fun j hj=>by simp at hj ⊢;omega
 have c1:=f.keep R.cm (zcF G H);have o:r<m.length:=(yi.mp R.cm).1;have g:∀y,y<m.length->y∉[x,kp,lp,kr,hr,u,b]->y∉[x,kp,lp,kr,d,u,b]:=fun y Y z=>by
  rw[mem7]at z ⊢;obtain⟨X,W,z3,V,U,z6,Z⟩:=z;exact⟨X,W,z3,V,zhK Y hh U,z6,Z⟩
 have N:=g r o G;refine⟨rfl,s,B.frL f (zcF K H) (zcF J H),c1,fun m2 f2 c2=>⟨_,?_,⟨⟨kp,lp,kr,d,u,b,had,base,T,v,R2.fr f2 N N,I2,fun h z=>yaj _ (g1 h z),fun h z=>yaj _ (g2 h z),g p B.lt.1 K,g q B.lt.2 J,N⟩,fun l hl=>?_,fun w O=>?_,c2,R.ne⟩⟩⟩
 ·split
  ·exact yh _
  ·exact yct _ _
 ·refine(R.lt l ?_).more;split at hl
  ·exact hl
  ·exact ydl hl
 ·rcases yae.mp O with z|z
  ·exact yaj _ (R.wd w z)
  ·rw[y8.mp z];exact yZ _ yar
theorem Ro61.word(E:deed ≠ "press")(D:deed∉(["come", "copy", "lose"]:List ae))(C:deed∈(["word", "echo", "drop"]:List ae))(R:Ro61 m p q x r pt hs ls ws came)(B:P3 m p q c m)(s:k<ws.length)(hl0:ws.length<1000) : Run (zaY [.ob x,.tup [.str deed,.int k]] m) fun a m'=>(∃W,W.length<=ws.length/\Ro61 m' p q x r pt hs ls W came)/\P3 m' p q c m':=by
 obtain⟨kp,lp,kr,hr,u,b,had,base,top,hl,t,I,g1,G,o,N,n⟩:=R.ex;have e:=yu s;have hm:=R.wd _ (yaC s);have hn:=(I.nn _ hm).2;refine Run.mono (do_word t E D C (zr8 t e (by omega) hl0)) ?_;rintro _ m1 ⟨g,d,W,w1,v,l,i,R2,f⟩;have H:∀j∈[kp,lp,b],j∈[x,kp,lp,kr,hr,u,b]:=fun j A=>by simp at A ⊢;omega
 refine⟨⟨W,v,⟨⟨kp,lp,kr,hr,u,b,g,d,top,hl,R2,I,fun h z=>?_,fun h z=>?_,o,N,n⟩,R.lt,fun w y=>R.wd w (w1 w y),f.keep R.cm (zcF n H),R.ne⟩⟩,B.frL f (zcF o H) (zcF N H)⟩
 ·rcases l h z with q|q
  ·exact g1 h q
  ·rw[q];exact hm
 ·rcases i h z with q|q
  ·exact G h q
  ·rw[q];exact hm
theorem Ro61.press(k:PtOk pt)(s:HdOk pt.fs hd)(H:∀y∈hs,HdOk pt.fs y)(hn:hs.length<=900)(i:(hs.length:Int)<2^pt.wide)(R:Ro61 m p q x r pt hs ls ws came)(B:P3 m p q c m)(hl0:ls.length<1000) : Run (zaY [.ob x,.tup [.str "press", zdk hd]] m) fun a m'=>(∃ls',ls'.length=ls.length+1/\Ro61 m' p q x r pt (hs++[hd]) ls' ws came)/\P3 m' p q c m':=by
 obtain⟨kp,lp,kr,hr,u,b,had,base,top,hl,e,I,g1,g,d,N,n⟩:=R.ex;refine Run.mono (ztZ e (zsQ k s H hn i e (fun l hl=>(R.lt l hl).lt) hl0)) ?_;rintro _ m1 ⟨R2,f⟩;have h:∀j∈[kp,lp,u],j∈[x,kp,lp,kr,hr,u,b]:=fun j o=>by simp at o ⊢;omega
 refine⟨⟨_,?_,⟨⟨kp,lp,kr,hr,u,b,had,base,top,hl,R2,I.grow,g1,g,d,N,n⟩,fun l hl=>?_,R.wd,f.keep R.cm (zcF n h),R.ne⟩⟩,B.frL f (zcF d h) (zcF N h)⟩
 ·rw[yI];rfl
 ·rcases yae.mp hl with z|z
  ·exact(R.lt l z).grow
  ·rw[y8.mp z];exact ztH g g1 fun c t=>(I.nn c t).2
end
def c61d:EV:=by walk_at "#vUu~[/#sqv#t)#sqteqBBiv*xLt,[%"
theorem zkc:zi3=(zar (zaJ (eOp ixD (eOp ixD (zbl "Road" "letters" zaV (zad 2) zaj) (zad 4)) (eC (.int 0))) (gN 5))
 (zar (sIf (zfm (tV (eFn zcp (zac (zad 1) (zac (zad 3) (zac (zad 5) zaj))))))
 (zar (zbs (zbl "Road" "do" zaY (zad 2) (zac (eFn zbr (zac (eC (.str "lose")) (zac (zad 4) zaj))) zaj)))
 (zaE (eC (.bl ac))))
 za3)
 (zar (zaJ (zbl "Road" "do" zaY (zad 2) (zac (eFn zbr (zac (eFn zaK (zac (zad 0) (zac (eFn zcZ (zac (eC (.str "come")) (zac (eC (.str "come")) (zac (eC (.str "copy")) zaj)))) zaj))) (zac (zad 4) zaj))) zaj)) (gN 6))
 (zar (zaJ c61d (gN 7))
 (zar (zbs (zcr zbM zbB (zad 3) (zac (zad 5) zaj)))
 (zaE (eOp eqD (zad 6) (zad 7)))))))):=rfl
section
variable{x k n:Nat}{pt:Pt}{ws:List Nat}
theorem c61d_w{b X:Option D}(h:m[r]?=aa (.lst (came.map D.int)))(hm:zeC "Road" "heads" (.ob x) m=ac)(c:zbF [.ob x] m = .ok (.lst (hs.map zdk)) m)(hn:n<hs.length):c61d [b,x1,aa (.ob x),aa (.ob r),x4,aa (.int n),x6,X] m = .ok (zdP hs came n) m:=by
 unfold c61d zdP;have key:Run ((eIf (tV (eOp inD (zad 5) (zad 3))) (eFn zbr (zac (eC (.str "twice")) (zac (zad 5) zaj))) (eFn zbr (zac (eC (.str "read")) (zac (zad 5) (zac (eOp ixD (zbl "Road" "heads" zbF (zad 2) zaj) (zad 5)) zaj))))) [b,x1,aa (.ob x),aa (.ob r),x4,aa (.int n),x6,X] m) fun a m'=>a=(if (n:Int)∈came then twD n else rdD n (hs.getD n []))/\m'=m:=by
  erw [in_obI h];by_cases H:(n:Int)∈came
  ·rw[decide_eq_true H,if_pos H];ac_nf;exact Run.ok ⟨rfl,rfl⟩
  ·rw[decide_eq_false H,if_neg H];erw [if_pos hm];erw [c];erw [ix_l (n:=n) (d:=zdk (hs.getD n [])) (by rw[yW,yu hn,yal,yu hn];rfl)];ac_nf;exact Run.ok ⟨rfl,rfl⟩
 obtain⟨a,m',e,rfl,rfl⟩:=key;exact e
theorem zsk(R:Ro61 m p q x r pt hs ls ws came)(B:P3 m p q c m)(X:c+10<2^40)(O:PtOk pt)(v:∀y∈hs,HdOk pt.fs y)(K:(hs.length:Int)<=2^pt.wide)(I:k<ls.length)(hn:hs.length<63)(hl0:ls.length<1000)(J:ws.length<900)(P:came.length<900) : Run (zdw [.ob p,pt.e,.ob x,.ob r,.int k] m) fun a m'=>a = .bl ac/\P3 m' p q (c+1) m'/\∃l ws' came',l.length<=ls.length/\ws'.length<=ws.length+1/\came'.length<=came.length+1/\Ro61 m' p q x r pt hs l ws' came':=by
 obtain⟨n,at',e⟩:∃n at',ls[k]?=aa (n,at'):=⟨_,_,yu I⟩;unfold zdw;rw[zkc];erw [if_pos R.top.1];erw [R.letters];erw [ix_l (n:=k) (d:=ltE pt hs (n,at')) (by rw[yW,e];rfl)];unfold ltE;ac_nf;refine Run.bind (zmI R.cm (by omega)) ?_;rintro _ m1 ⟨rfl,T,rfl,Q⟩;ac_nf;cases T with
 |false=>
  erw [if_pos R.top.2.2.2];ac_nf;refine Run.bind (R.lose B I hl0) ?_;rintro _ m2 ⟨R2,W⟩;ac_nf;exact Run.ok ⟨rfl,W.more (by omega),_,_,_,yct _ _,by omega,by omega,R2⟩
 |true=>
  erw [if_pos R.top.2.2.2];ac_nf;refine Run.bind (zcv B (by omega) (by simp) (by simp)) ?_;rintro w m2 ⟨H,f⟩;have R2:=R.box f;obtain⟨deed,rfl,E,z,A⟩:∃s:ae,w = .str s/\s ≠ "lose" /\ s ≠ "press" /\ s∈(["come", "copy", "lose"]:List ae):=by
   simp only[yB,y9,or_false]at H;rcases H with rfl|rfl|rfl
   ·exact⟨_,rfl,by decide,by decide,by simp⟩
   ·exact⟨_,rfl,by decide,by decide,by simp⟩
   ·exact⟨_,rfl,by decide,by decide,by simp⟩
  ac_nf;refine Run.bind (R2.come E z A f.re O v K e hn hl0 (by omega) (Q rfl)) ?_;rintro _ M ⟨rfl,o,V,C,F⟩;have f3:Fr r r M (M.set r (.lst (came.map D.int++[.int n]))):=Fr.set;have S:(M.set r (.lst (came.map D.int++[.int n])))[r]?=aa (.lst ((came++[(n:Int)]).map D.int)):=by
   rw[zaR C,yak];rfl
  obtain⟨l,t,G⟩:=F _ f3 S;obtain⟨L,_,Z⟩:∃l,l.length<=ls.length/\True:=⟨ls,yh _,trivial⟩;have g:zeC "Road" "heads" (.ob x) M=ac/\zbF [.ob x] M = .ok (.lst (hs.map zdk)) M:=by
   obtain⟨kp,lp,kr,hr,u,b,had,base,top,hl,Y,_⟩:=G.ex;have i:Fr r r (M.set r (.lst (came.map D.int++[.int n]))) M:=⟨by rw[yaw];exact yh _,fun j _ h _=>(zaO (Ne.symm h)).symm⟩;obtain⟨_,_,_,_,_,_,_,_,_,_,U,_,_,_,_,_,N⟩:=G.ex;have:=U.fr i N N;exact⟨this.meth rfl,zp7 this⟩
  erw [c61d_w C g.1 g.2 o];erw [if_pos (zhQ C)];erw [zfR C (by rw[yj];exact zbC (by omega))];ac_nf;rw[show eqD (zdP hs came n) (zdP hs came n) (M.set r (.lst (came.map D.int++[.int n]))) = .ok (.bl ac) (M.set r (.lst (came.map D.int++[.int n]))) by
   unfold zdP;split
   ·exact eq_tw
   ·exact ztX ne_rdI]
  ac_nf;exact Run.ok ⟨rfl,V.fr2 f3 R.ne.1 R.ne.2 R.ne.1 R.ne.2,l,ws++[n],_,t,by simp,by simp,G⟩
def s61l:SV:=by walk_at "#9s]0iw2w3(u,r<r+[79t^u/Z[1#u8q[rxrXqB.qP>r<qnqTv]%7rat;rzscs7.qjrvxMr;Mt5t*g"
def s61w:SV:=by walk_at "#s;iv+v,t,rwrat;sDq{q4w0q4v)q4tg.rXsA0iv+v,(..Ju9"
theorem zlj:zlk=(zar (zkl (znb zpp (zac (eFn zaK (zac (zad 0) (zac (eFn zcZ (zac (eC (.int 1)) (zac (eC (.int 1)) (zac (eC (.int 1)) (zac (eC (.int 0)) (zac (eC (.int 2)) (zac (eC (.int 3)) zaj))))))) zaj))) zaj)) (gN 4) s61l) s61w):=rfl
theorem zs3(R:Ro61 m p q x r pt hs ls ws came)(B:P3 m p q c m)(J:c+20<2^40)(t:PtOk pt)(f:∀y∈hs,HdOk pt.fs y)(s:(hs.length:Int)<=2^pt.wide)(hn:hs.length<63)(hl0:ls.length<1000)(e:ws.length<900)(g:came.length<900) : Run (s61l [aa (.ob p),aa pt.e,aa (.ob x),aa (.ob r),x4,x5,x6] m) fun F m'=>(∃y5 y6,F = .nx [aa (.ob p),aa pt.e,aa (.ob x),aa (.ob r),x4,y5,y6])/\P3 m' p q (c+4) m'/\∃l W C,l.length<=ls.length/\W.length<=ws.length+1/\C.length<=came.length+1/\Ro61 m' p q x r pt hs l W C:=by
 unfold s61l;erw [if_pos R.top.1];erw [R.letters];erw [yj];by_cases u:0<ls.length
 ·rw[if_pos (show (ls.length:Int)>0 by omega)];refine Run.bind (zaQ B (by omega) (by omega) (by omega)) ?_;rintro _ m1 ⟨y,rfl,Y,D,d⟩;have A:=R.box d;ac_nf;refine Run.bind (zcv d.re (by omega) (by simp) (by simp)) ?_;rintro w m2 ⟨a,b⟩;have R2:=A.box b;obtain⟨z,rfl,Z⟩:∃z:Int,w = .int z/\0<=z:=by
   simp only[yB,y9,or_false]at a;rcases a with rfl|rfl|rfl|rfl|rfl
   ·exact⟨_,rfl,by omega⟩
   ·exact⟨_,rfl,by omega⟩
   ·exact⟨_,rfl,by omega⟩
   ·exact⟨_,rfl,by omega⟩
   ·exact⟨_,rfl,Y⟩
  ac_nf;obtain⟨k,E,o⟩:∃k:Nat,(if (ls.length:Int)-1-z>0 then (ls.length:Int)-1-z else 0)=(k:Nat)/\k<ls.length:=by
   by_cases h:(ls.length:Int)-1-z>0
   ·rw[if_pos h];exact⟨((ls.length:Int)-1-z).toNat,by omega,by omega⟩
   ·rw[if_neg h];exact⟨0,rfl,u⟩
  rw[E];ac_nf;refine Run.bind (zaQ b.re (by omega) (by decide) (by decide)) ?_;rintro _ I ⟨v,rfl,G,V,H⟩;have j:=R2.box H;ac_nf;by_cases hv:v=0
  ·rw[if_pos hv];rw[if_pos j.top.2.2.2];ac_nf;refine Run.bind (j.lose H.re o hl0) ?_;rintro _ M ⟨i,n⟩;ac_nf;exact Run.ok ⟨⟨_,_,rfl⟩,n.more (by omega),_,_,_,yct _ _,by omega,by omega,i⟩
  ·rw[if_neg hv];ac_nf;refine Run.bind (zsk j H.re (by omega) t f s o hn hl0 e g) ?_;rintro _ M ⟨rfl,n,l,W,C,l1,l2,l3,i⟩;ac_nf;exact Run.ok ⟨⟨_,_,rfl⟩,n.more (by omega),l,W,C,l1,l2,l3,i⟩
 ·rw[if_neg (show ¬ (ls.length:Int)>0 by omega)];exact Run.ok ⟨⟨_,_,rfl⟩,B.more (by omega),ls,ws,came,by omega,by omega,by omega,R⟩
theorem zs2(R:Ro61 m p q x r pt hs ls ws came)(B:P3 m p q c m)(n:c+10<2^40)(g:ws.length<900) : Run ((s61w [aa (.ob p),aa pt.e,aa (.ob x),aa (.ob r),x4,x5,x6] m).bind zi8) fun a m'=>a = .bl ac/\P3 m' p q (c+2) m'/\∃W,W.length<=ws.length/\Ro61 m' p q x r pt hs ls W came:=by
 unfold s61w;erw [if_pos R.top.2.1];erw [R.words];erw [ztC];by_cases d:ws=[]
 ·rw[decide_eq_true d];ac_nf;exact Run.ok ⟨rfl,B.more (by omega),ws,yh _,R⟩
 ·rw[decide_eq_false d];have f:=yc3.mpr d;erw [if_pos R.top.2.2.2];ac_nf;refine Run.bind (zcv B (by omega) (by simp) (by simp)) ?_;rintro w m1 ⟨h,b⟩;have e:=R.box b;obtain⟨deed,rfl,g1,G,g3⟩:∃s:ae,w = .str s/\s ≠ "press" /\ s∉(["come", "copy", "lose"]:List ae)/\s∈(["word", "echo", "drop"]:List ae):=by
   simp only[yB,y9,or_false]at h;rcases h with rfl|rfl|rfl
   ·exact⟨_,rfl,by decide,by decide,by simp⟩
   ·exact⟨_,rfl,by decide,by decide,by simp⟩
   ·exact⟨_,rfl,by decide,by decide,by simp⟩
  erw [if_pos e.top.2.1];erw [e.words];erw [yj];refine Run.bind (zaQ b.re (by omega) (by omega) (by omega)) ?_;rintro _ m2 ⟨y,rfl,l,Y,H⟩;have R2:=e.box H;obtain⟨k,rfl⟩:∃k:Nat,y=k:=⟨y.toNat,by omega⟩;ac_nf;refine Run.bind (R2.word g1 G g3 H.re (by omega) (by omega)) ?_;rintro _ M ⟨⟨W,hl,i⟩,j⟩;ac_nf;exact Run.ok ⟨rfl,j,W,hl,i⟩
theorem zoy(R:Ro61 m p q x r pt hs ls ws came)(B:P3 m p q c m)(E:c+50<2^40)(o:PtOk pt)(H:∀y∈hs,HdOk pt.fs y)(n:(hs.length:Int)<=2^pt.wide)(hn:hs.length<63)(hl0:ls.length<1000)(i:ws.length<800)(t:came.length<800) : Run (zfG [.ob p,pt.e,.ob x,.ob r] m) fun a m'=>a = .bl ac/\P3 m' p q (c+20) m'/\∃l w C,l.length<=ls.length/\w.length<=ws.length+3/\C.length<=came.length+3/\Ro61 m' p q x r pt hs l w C:=by
 unfold zfG;rw[zlj];erw [lst_n (by simp)];ac_nf;refine Run.bind (zq2 [1,1,1,0,2,3] B (by omega) (by simp) (by simp)) ?_;rintro _ m1 ⟨N,v,rfl,h⟩;have z:=R.box h;have u:N<=3:=by
  simp only[yB,y9,or_false]at v;omega
 erw [zhw (by omega) (by omega)];ac_nf;refine Run.bind (zbD (fun j ρ m'=>(∃x4 x5 x6,ρ = [aa (.ob p),aa pt.e,aa (.ob x),aa (.ob r),x4,x5,x6])/\P3 m' p q (c+1+4*j) m'/\∃l w C,l.length<=ls.length/\w.length<=ws.length+j/\C.length<=came.length+j/\Ro61 m' p q x r pt hs l w C) _ 0 ⟨⟨_,_,_,rfl⟩,h.re,ls,ws,came,yh _,yh _,yh _,z⟩ ?_) ?_
 ·rintro j d ρ m2 hd ⟨⟨x4,x5,x6,rfl⟩,e,l,w,C,l1,l2,l3,R2⟩;have s:=(yi.mp hd).1;rw[zbm]at s;rw[yL]at e l2 l3 ⊢;ac_nf;refine Run.mono (zs3 R2 e (by omega) o H n hn (by omega) (by omega) (by omega)) ?_;rintro _ M ⟨⟨A,Y,rfl⟩,g,L,W,b,k,D,K,f⟩;exact⟨_,rfl,⟨_,_,_,rfl⟩,g.more (by omega),L,W,b,by omega,by omega,by omega,f⟩
 ·rintro _ m2 ⟨ρ,rfl,⟨x4,x5,x6,rfl⟩,e,l,w,C,l1,l2,l3,R2⟩;rw[zbm]at e l2 l3;ac_nf;refine Run.mono (zs2 R2 e (by omega) (by omega)) ?_;rintro _ M ⟨rfl,g,W,k,f⟩;exact⟨rfl,g.more (by omega),l,W,C,l1,by omega,by omega,f⟩
end
theorem zmL(hn:ns.length<=63):Run (zn8 [.scr (ns.map D.int)] []) fun a _=>a = .bl ac:=by
 unfold zn8 zrT;ac_nf;refine Run.bind (zwx hn) ?_;rintro _ m1 ⟨p,q,rfl,P⟩;erw [zhw (by decide) (by decide)];ac_nf;refine Run.bind (zbD (fun k ρ m'=>∃(K J x4 x5 x6 X:Option D),ρ = [aa (.scr (ns.map D.int)),aa (.ob p),K,J,x4,x5,x6,X]/\P3 m' p q (10000*k) m') (zdj 0 (2:Int).toNat) 0 ⟨_,_,_,_,_,_,rfl,P.re⟩ ?_) ?_
 ·rintro i d ρ m2 hd ⟨K,J,x4,x5,x6,X,rfl,hI⟩;have hi:=(yi.mp hd).1;rw[zbm]at hi;have hi3:i<2:=hi;rw[yL]at hI ⊢;ac_nf;refine Run.bind (zky (many:=4) hI (by omega)) ?_;rintro _ B ⟨pt,rfl,g,O,F⟩;have H:=F.re.lt;ac_nf;refine Run.bind (zs5 pt B) ?_;rintro _ m5 ⟨rfl,⟨kp,lp,kr,hr,u,b,R5,S⟩,f5⟩;have B5:P3 m5 p q (10000*i+2000) m5:=F.re.frL f5 (by simp) (by simp);have f:∀y,y<B.length->y∉[B.length,kp,lp,kr,hr,u,b]:=fun y hy z=>by have:=S y z;omega
  erw [zcH];ac_nf;refine Run.bind (zna B5 (by omega) g.sh.ok g.f1) ?_;rintro _ M ⟨V,rfl,hh,s⟩;have R:=R5.fr s.fr (f p H.1) (f q H.2);have hlt6:=s.re.lt;erw [zj5];ac_nf;have B7:P3 (M++[.lst []]) p q (10000*i+2030) (M++[.lst []]):=(s.re.app).re;have I:Ro61 (M++[.lst []]) p q B.length M.length pt [] [] [] []:=by
   refine⟨⟨kp,lp,kr,hr,u,b,ab,ab,ab,[],R.app,⟨fun _=>rfl,(fun c Y=>nomatch Y),(fun t e=>nomatch e),yc2,(fun p hp=>nomatch hp),(fun t e=>nomatch e),(fun c Y=>nomatch Y)⟩,(fun h z=>nomatch z),(fun h z=>nomatch z),f p H.1,f q H.2,?_⟩,(fun l hl=>nomatch hl),(fun w O=>nomatch O),zkb rfl,by omega,by omega⟩;intro z;have h1:=(yi.mp R.self).1;have h2:=R.pr.lt;have h3:=R.rd.lt;have h4:=(yi.mp R.uw).1;have h5:=(yi.mp R.cb).1;simp only[yB,y9,or_false]at z;omega
  generalize M++[MO.lst []]=m7 at B7 I ⊢;generalize M.length=r at I ⊢;generalize B.length=x at I ⊢;refine Run.bind (zq2 [12,30,50] B7 (by omega) (by simp) (by simp)) ?_;rintro _ m8 ⟨N,hN,rfl,E⟩;have R8:=I.box E;have hN':N<=50:=by
   simp only[yB,y9,or_false]at hN;omega
  have hpow:(512:Int)<=2^pt.wide:=by
   have h1:(2:Nat)^9<=2^pt.wide:=yc9 (by decide) O;have h2:((2^pt.wide:Nat):Int)=(2:Int)^pt.wide:=by norm_cast
   omega
  erw [zhw (by omega) (by omega)];ac_nf;refine Run.mono (zbD (fun j ρ m'=>∃(hd:List Int)(hs:List (List Int))(X:Option D),ρ = [aa (.scr (ns.map D.int)),aa (.ob p),aa d,aa pt.e,aa (.ob x),aa (zdk hd),aa (.ob r),X]/\hs.length=j/\HdOk pt.fs hd/\(∀x∈hs,HdOk pt.fs x)/\P3 m' p q (10000*i+2031+60*j) m'/\∃ls ws came,ls.length<=j/\ws.length<=3*j/\came.length<=3*j/\Ro61 m' p q x r pt hs ls ws came) _ 0 ⟨V,[],_,rfl,rfl,hh,fun x hx=>(nomatch hx),E.re,[],[],[],yh _,yh _,yh _,R8⟩ ?_) ?_
  ·rintro j d' ρ m9 T ⟨hd,hs,X,rfl,v,m,A,G,ls,ws,came,l1,l2,l3,R9⟩;have hj:=(yi.mp T).1;rw[zbm]at hj;rw[yL]at G v l1 l2 l3 ⊢;erw [if_pos R9.top.2.2.2];ac_nf;refine Run.bind (R9.press g m A (by omega) (by omega) G (by omega)) ?_;rintro _ m10 ⟨⟨ls',e1,R10⟩,B10⟩;erw [zcH];ac_nf;refine Run.bind (zkY (calm:=9) B10 (by omega) g.sh.ok g.f1 m (by decide) (by decide)) ?_;rintro _ m11 ⟨U,rfl,Q,n⟩;have R11:=R10.box n;have o:∀y∈hs++[hd],HdOk pt.fs y:=fun y hy=>by
    rcases yae.mp hy with z|z
    ·exact A y z
    ·rw[y8.mp z];exact m
   have hl2:(hs++[hd]).length=j+1:=by rw[yI,v];rfl
   ac_nf;refine Run.bind (zoy R11 n.re (by omega) g o (by omega) (by omega) (by omega) (by omega) (by omega)) ?_;rintro _ m12 ⟨rfl,B12,L,W,C,k1,k2,k3,Z⟩;ac_nf;exact Run.ok ⟨_,rfl,U,hs++[hd],_,rfl,hl2,Q,o,B12.more (by omega),L,W,C,by omega,by omega,by omega,Z⟩
  ·rintro _ m9 ⟨ρ,rfl,hd,hs,X,rfl,v,m,A,G,_⟩;rw[zbm]at G;exact⟨_,rfl,_,_,_,_,_,_,rfl,G.more (by omega)⟩
 ·rintro _ m3 ⟨ρ,rfl,K,J,x4,x5,x6,X,rfl,_⟩;ac_nf;exact Run.ok rfl
end MD
namespace K61
open PySem PyProof.Rows L2 MD
structure Txt(mg:ae->Option af):Prop where
 ValueError:mg "ValueError" = ab
 all:mg "all" = ab
 sum:mg "sum" = ab
 enumerate:mg "enumerate" = ab
 len:mg "len" = ab
 tuple:mg "tuple" = ab
 max:mg "max" = ab
 range:mg "range" = ab
 min:mg "min" = ab
 isi:mg "isinstance" = ab
 str:mg "str" = ab
 int:mg "int" = ab
 any:mg "any" = ab
 dict:mg "dict" = ab
 list:mg "list" = ab
 bool:mg "bool" = ab
 zip:mg "zip" = ab
 sorted:mg "sorted" = ab
 abs:mg "abs" = ab
 reversed:mg "reversed" = ab
structure TxC(K:ye)(cl:ae->ad):Prop where
 cPresser:Cls K (cl "Presser")
 cReader:Cls K (cl "Reader")
 cRoad:Cls K (cl "Road")
 nPresser_base:NoAttr K (cl "Presser") "base"
 nPresser_fresh:NoAttr K (cl "Presser") "fresh"
 nPresser_had:NoAttr K (cl "Presser") "had"
 nPresser_pact:NoAttr K (cl "Presser") "pact"
 nPresser_pressed:NoAttr K (cl "Presser") "pressed"
 nReader_held:NoAttr K (cl "Reader") "held"
 nReader_highest:NoAttr K (cl "Reader") "highest"
 nReader_pact:NoAttr K (cl "Reader") "pact"
 nRoad_coming_back:NoAttr K (cl "Road") "coming_back"
 nRoad_furthest:NoAttr K (cl "Road") "furthest"
 nRoad_pact:NoAttr K (cl "Road") "pact"
 nRoad_presser:NoAttr K (cl "Road") "presser"
 nRoad_reader:NoAttr K (cl "Road") "reader"
 nRoad_under_way:NoAttr K (cl "Road") "under_way"
 kDONE:Con K (cl "DONE") ["done"]
 kLETTER_DEEDS:Con K (cl "LETTER_DEEDS") ["come", "copy", "lose"]
 kWORD_DEEDS:Con K (cl "WORD_DEEDS") ["word", "echo", "drop"]
set_option maxHeartbeats 16000000
section
variable(P:ap)(w:al){K:ye}{mg:ae->Option af}(base:ax){cl:ae->ad}{f:ad}{fd:aH}
theorem scAreBits:FnScope ["thing", "sign"] ["thing"] (zai zjH):=sco
theorem zo0(F:Fun K "are_bits" "are_bits" zjH f fd)(b:Binds K fd ["thing"] [])(m:mg "are_bits" = aa (.ref f))(T:Txt mg)(TC:TxC K cl):FnX P w K mg base cl "are_bits" 1 1 zfL :=
 by walk_at "#e{wsLtTuBuwuCDw4w5Vv`TuDVrML{x)rmsMrk$rTuErk$rTuFvk"
theorem zsZ:FnScope ["number", "width"] ["number", "width"] (zai zmh):=sco
theorem zq0(F:Fun K "bits_of" "bits_of" zmh f fd)(b:Binds K fd ["number", "width"] [])(m:mg "bits_of" = aa (.ref f))(T:Txt mg)(TC:TxC K cl):FnX P w K mg base cl "bits_of" 1 2 zc2 :=
 by walk_at "#e{y+vjxNxOxPxQxRxSq0szr,qKthqFtiqR{zD{{wfhqGuGq>qKthtit#s_{|{}Dw4w5*q/{~|!q/|#|$Vq|,"
theorem scNumberOf:FnScope ["bits", "number", "sign"] ["bits"] (zai zhn):=sco
theorem zmt(F:Fun K "number_of" "number_of" zhn f fd)(b:Binds K fd ["bits"] [])(m:mg "number_of" = aa (.ref f))(T:Txt mg)(TC:TxC K cl):FnX P w K mg base cl "number_of" 1 1 zbA :=
 by walk_at "#e|%t<w6uHuDVrMHw6)r}Lw6q}pq*s_|&|'DxTxUk+$"
theorem scNumbersOf:FnScope ["bits", "widths", "numbers", "begin", "width"] ["bits", "widths"] (zai zf7):=sco
theorem zkS(F:Fun K "numbers_of" "numbers_of" zf7 f fd)(b:Binds K fd ["bits", "widths"] [])(m:mg "numbers_of" = aa (.ref f))(T:Txt mg)(TC:TxC K cl)(hNumberOf:FnX P w K mg base cl "number_of" 1 1 zbA):FnX P w K mg base cl "numbers_of" 2 2 zco :=
 by walk_at "#|(L|)^v-)sd!qVv-uHuD$rMAv-)uI2Fv.IrJVr)?r)W?X,r}=v-q}?X+2"
theorem scWidthFor:FnScope ["many", "width", "room"] ["many"] (zai zhi):=sco
theorem zmp(F:Fun K "width_for" "width_for" zhi f fd)(b:Binds K fd ["many"] [])(m:mg "width_for" = aa (.ref f))(T:Txt mg)(TC:TxC K cl):FnX P w K mg base cl "width_for" 1 1 zcW :=
 by walk_at "#e|*t<v/uH^v/uHq!xVufuzviqkqf2V;^v/)pq|r}Lv/q}q*+$"
theorem zpY:FnScope ["thing"] ["thing"] (zai zjE):=sco
theorem zoX(F:Fun K "is_whole" "is_whole" zjE f fd)(b:Binds K fd ["thing"] [])(m:mg "is_whole" = aa (.ref f))(T:Txt mg)(TC:TxC K cl):FnX P w K mg base cl "is_whole" 1 1 zdM :=
 by walk_at "#e|+t=uBw~uCDxTxUVtZ|,uBx!uCD|-|.V"
theorem zl3:FnScope ["thing", "least", "most"] ["thing", "least", "most"] (zai zf9):=sco
theorem zkU(F:Fun K "is_between" "is_between" zf9 f fd)(b:Binds K fd ["thing", "least", "most"] [])(m:mg "is_between" = aa (.ref f))(T:Txt mg)(TC:TxC K cl)(hIsWhole:FnX P w K mg base cl "is_whole" 1 1 zdM):FnX P w K mg base cl "is_between" 2 3 zcq :=
 by walk_at "#rZ|/t=6xWsNtZxXt>t>$V2"
theorem zpZ:FnScope ["thing", "breadth"] ["thing", "breadth"] (zai zjF):=sco
theorem zoY(F:Fun K "is_value" "is_value" zjF f fd)(b:Binds K fd ["thing", "breadth"] [])(m:mg "is_value" = aa (.ref f))(T:Txt mg)(TC:TxC K cl)(hIsBetween:FnX P w K mg base cl "is_between" 2 3 zcq):FnX P w K mg base cl "is_value" 3 2 zew :=
 by walk_at "#qg|0q~xYYr?KqHq*!"
theorem zu3:FnScope ["thing", "least", "most"] ["thing", "least", "most"] (zai zp2):=sco
theorem ztx(F:Fun K "is_row" "is_row" zp2 f fd)(b:Binds K fd ["thing", "least", "most"] [])(m:mg "is_row" = aa (.ref f))(T:Txt mg)(TC:TxC K cl):FnX P w K mg base cl "is_row" 1 3 zh6 :=
 by walk_at "#e|1t=uBx%uCyOVtZxXt>t>$qQuJ2"
theorem zoG:FnScope ["thing", "word", "many"] ["thing", "word", "many"] (zai zhs):=sco
theorem zmy(F:Fun K "is_worded" "is_worded" zhs f fd)(b:Binds K fd ["thing", "word", "many"] [])(m:mg "is_worded" = aa (.ref f))(T:Txt mg)(TC:TxC K cl)(hIsRow:FnX P w K mg base cl "is_row" 1 3 zh6):FnX P w K mg base cl "is_worded" 2 3 zbq :=
 by walk_at "#rZ|2t=6xZYbkupuBuwuCDw4w5]sOrP]$;"
theorem zsW:FnScope ["number", "width"] ["number", "width"] (zai zl9):=sco
theorem zqS(F:Fun K "rest_of" "rest_of" zl9 f fd)(b:Binds K fd ["number", "width"] [])(m:mg "rest_of" = aa (.ref f))(T:Txt mg)(TC:TxC K cl):FnX P w K mg base cl "rest_of" 1 2 zbR :=
 by walk_at "#e|3+qaVqH$"
theorem zoE:FnScope ["least", "rest", "width"] ["least", "rest", "width"] (zai zhh):=sco
theorem zmo(F:Fun K "windowed" "windowed" zhh f fd)(b:Binds K fd ["least", "rest", "width"] [])(m:mg "windowed" = aa (.ref f))(T:Txt mg)(TC:TxC K cl)(hRestOf:FnX P w K mg base cl "rest_of" 1 2 zbR):FnX P w K mg base cl "windowed" 2 3 zbP :=
 by walk_at "#rZ|4+WV6seIK$Vk"
theorem zs0:FnScope ["w", "base", "below", "rest", "width"] ["w", "base", "below", "rest", "width"] (zai zmj):=sco
theorem zq1(F:Fun K "around" "around" zmj f fd)(b:Binds K fd ["w", "base", "below", "rest", "width"] [])(m:mg "around" = aa (.ref f))(T:Txt mg)(TC:TxC K cl)(hRestOf:FnX P w K mg base cl "rest_of" 1 2 zbR)(hWindowed:FnX P w K mg base cl "windowed" 2 3 zbP):FnX P w K mg base cl "around" 3 5 zia :=
 by walk_at "#qg|5q~seqJFx[IK$2cr[uJ"
theorem zoI:FnScope ["shape"] ["shape"] (zai zhv):=sco
theorem zmB(F:Fun K "breadths" "breadths" zhv f fd)(b:Binds K fd ["shape"] [])(m:mg "breadths" = aa (.ref f))(T:Txt mg)(TC:TxC K cl):FnX P w K mg base cl "breadths" 1 1 zb9 :=
 by walk_at "#e|6+w`s^rHqFx]t?]qGLqpr,rHx]t#uK"
theorem scIsHead:FnScope ["shape", "thing", "asked"] ["shape", "thing"] (zai zmf):=sco
theorem zqY(F:Fun K "is_head" "is_head" zmf f fd)(b:Binds K fd ["shape", "thing"] [])(m:mg "is_head" = aa (.ref f))(T:Txt mg)(TC:TxC K cl)(hBreadths:FnX P w K mg base cl "breadths" 1 1 zb9)(hIsRow:FnX P w K mg base cl "is_row" 1 3 zh6)(hIsValue:FnX P w K mg base cl "is_value" 3 2 zew):FnX P w K mg base cl "is_head" 4 2 zh7 :=
 by walk_at "#tA|7^|8fw7sNsLqhxZr!*qQk*qQb,uFq1|95|:D|;|<szq>rHtjw8tWr,rKsfqRw9Dw:$2q)qIvatBtjw8rKsftCqptBtjw8rKsfq-q)tx6|=r.=qu,"
theorem scExpected:FnScope ["shape", "place", "former", "ahead", "more", "breadth", "kind", "value", "gone"] ["shape", "place", "former", "ahead", "more"] (zai zhu):=sco
theorem zmA(F:Fun K "expected" "expected" zhu f fd)(b:Binds K fd ["shape", "place", "former", "ahead", "more"] [])(m:mg "expected" = aa (.ref f))(T:Txt mg)(TC:TxC K cl)(hRestOf:FnX P w K mg base cl "rest_of" 1 2 zbR)(hTurned:FnX P w K mg base cl "turned" 1 3 zhU):FnX P w K mg base cl "expected" 2 5 zen :=
 by walk_at "#rZ|>r]rJuL$uMsgqICv0q'>v0q-tDv0)uN$r5rArTq~seIWr~prAXs9r6r5rArTq~|?IrAsPqur6r5rArTr/_v0)KQ?rAuNrAq~seIWr~prAuOsQor~"
theorem zsT:FnScope ["row", "value", "more"] ["row", "value", "more"] (zai zl6):=sco
theorem zqP(F:Fun K "turned" "turned" zl6 f fd)(b:Binds K fd ["row", "value", "more"] [])(m:mg "turned" = aa (.ref f))(T:Txt mg)(TC:TxC K cl):FnX P w K mg base cl "turned" 1 3 zhU :=
 by walk_at "#e|An|BqJ|C$V5+$osos!x^Vh2qQuJ"
theorem zp0:FnScope ["shape", "number", "head"] ["shape", "number", "head"] (zai zjG):=sco
theorem zoZ(F:Fun K "check_of" "check_of" zjG f fd)(b:Binds K fd ["shape", "number", "head"] [])(m:mg "check_of" = aa (.ref f))(T:Txt mg)(TC:TxC K cl):FnX P w K mg base cl "check_of" 1 3 zb8 :=
 by walk_at "#e|D+s!$q1x_5x`Dxaxbszq>rHqKshtWr,tirKqRuP2q)qIvatBqKshtirKtCqptBqKshtirKq-q)txpWs#X!]"
theorem zpW:FnScope ["way", "breadth"] ["way", "breadth"] (zai zjw):=sco
theorem zoP(F:Fun K "width_of" "width_of" zjw f fd)(b:Binds K fd ["way", "breadth"] [])(m:mg "width_of" = aa (.ref f))(T:Txt mg)(TC:TxC K cl):FnX P w K mg base cl "width_of" 1 2 zcI :=
 by walk_at "#e|EuQ+-TuQ+]o$"
theorem zsS:FnScope ["shape", "form"] ["shape", "form"] (zai zl5):=sco
theorem zqO(F:Fun K "widths" "widths" zl5 f fd)(b:Binds K fd ["shape", "form"] [])(m:mg "widths" = aa (.ref f))(T:Txt mg)(TC:TxC K cl)(hBreadths:FnX P w K mg base cl "breadths" 1 1 zb9)(hWidthOf:FnX P w K mg base cl "width_of" 1 2 zcI):FnX P w K mg base cl "widths" 2 2 zdJ :=
 by walk_at "#rZ|F+w`r,rHsitWr,w;sfqRw9Dw:uK6w7sNq)qIuGurrHsiw;sfq'uRrHsiw;sfq-q)tx6|Gr.HrU"
theorem zsX:FnScope ["shape", "form", "head"] ["shape", "form", "head"] (zai zma):=sco
theorem zqT(F:Fun K "pieces" "pieces" zma f fd)(b:Binds K fd ["shape", "form", "head"] [])(m:mg "pieces" = aa (.ref f))(T:Txt mg)(TC:TxC K cl)(hBitsOf:FnX P w K mg base cl "bits_of" 1 2 zc2)(hRestOf:FnX P w K mg base cl "rest_of" 1 2 zbR)(hWidths:FnX P w K mg base cl "widths" 2 2 zdJ):FnX P w K mg base cl "pieces" 3 3 zdL :=
 by walk_at "#qg|H+vjxNxOxPxQxRxSq0szq>rHsishtWr,rKthqRw9Dw:26w<uSq)qIvatBsishrKthtCqptBsishrKthq-q)tx6v1qJFser.=r[qu,"
theorem zsU:FnScope ["shape", "form"] ["shape", "form"] (zai zl7):=sco
theorem zqQ(F:Fun K "size_of" "size_of" zl7 f fd)(b:Binds K fd ["shape", "form"] [])(m:mg "size_of" = aa (.ref f))(T:Txt mg)(TC:TxC K cl)(hWidths:FnX P w K mg base cl "widths" 2 2 zdJ):FnX P w K mg base cl "size_of" 3 2 zfd :=
 by walk_at "#qg|I+q1x_5x`DxaxbFw<uT,"
theorem scOpened:FnScope ["shape", "form", "bits", "former", "more", "head", "place", "rest", "base"] ["shape", "form", "bits", "former", "more"] (zai zmc):=sco
theorem zqV(F:Fun K "opened" "opened" zmc f fd)(b:Binds K fd ["shape", "form", "bits", "former", "more"] [])(m:mg "opened" = aa (.ref f))(T:Txt mg)(TC:TxC K cl)(hExpected:FnX P w K mg base cl "expected" 2 5 zen)(hNumbersOf:FnX P w K mg base cl "numbers_of" 2 2 zco)(hValueTold:FnX P w K mg base cl "value_told" 4 4 zdn)(hWidths:FnX P w K mg base cl "widths" 2 2 zdJ):FnX P w K mg base cl "opened" 5 5 zfe :=
 by walk_at "#qmA|JuUtk)qW!rnuP6xcr.HFw<uT,qI>tkq'Ntkq-r/_tkf|KYs{cs9r[r}Ctkq}qsqWF|LIr#q*q]q7uLyNqY_sP,+qs"
theorem zlY:FnScope ["way", "breadth", "base", "rest"] ["way", "breadth", "base", "rest"] (zai zf1):=sco
theorem zkM(F:Fun K "value_told" "value_told" zf1 f fd)(b:Binds K fd ["way", "breadth", "base", "rest"] [])(m:mg "value_told" = aa (.ref f))(T:Txt mg)(TC:TxC K cl)(hAround:FnX P w K mg base cl "around" 3 5 zia):FnX P w K mg base cl "value_told" 4 4 zdn :=
 by walk_at "#tA|MuQ+2TuQq~|Nr!b*]c*]!o?"
theorem zsY:FnScope ["pact", "at"] ["pact", "at"] (zai zmg):=sco
theorem zqZ(F:Fun K "form_at" "form_at" zmg f fd)(b:Binds K fd ["pact", "at"] [])(m:mg "form_at" = aa (.ref f))(T:Txt mg)(TC:TxC K cl):FnX P w K mg base cl "form_at" 1 2 zbd :=
 by walk_at "#e|Onty$q(rOr?]*pqWtE,qQq7]-,ouL$"
theorem zlZ:FnScope ["pact"] ["pact"] (zai zf3):=sco
theorem zkO(F:Fun K "sort_width" "sort_width" zf3 f fd)(b:Binds K fd ["pact"] [])(m:mg "sort_width" = aa (.ref f))(T:Txt mg)(TC:TxC K cl)(hWidthFor:FnX P w K mg base cl "width_for" 1 1 zcW):FnX P w K mg base cl "sort_width" 2 1 zaX :=
 by walk_at "#rZ|Pq~xdItFsR],"
theorem zkx:FnScope ["pact"] ["pact"] (zai ze1):=sco
theorem zj0(F:Fun K "check_width" "check_width" ze1 f fd)(b:Binds K fd ["pact"] [])(m:mg "check_width" = aa (.ref f))(T:Txt mg)(TC:TxC K cl)(hWidthFor:FnX P w K mg base cl "width_for" 1 1 zcW):FnX P w K mg base cl "check_width" 2 1 zaS :=
 by walk_at "#rZ|Qq~xdsS]s$"
theorem scLetterSize:FnScope ["pact", "at", "form"] ["pact", "at"] (zai zeX):=sco
theorem zjW(F:Fun K "letter_size" "letter_size" zeX f fd)(b:Binds K fd ["pact", "at"] [])(m:mg "letter_size" = aa (.ref f))(T:Txt mg)(TC:TxC K cl)(hCheckWidth:FnX P w K mg base cl "check_width" 2 1 zaS)(hFormAt:FnX P w K mg base cl "form_at" 1 2 zbd)(hSizeOf:FnX P w K mg base cl "size_of" 3 2 zfd)(hSortWidth:FnX P w K mg base cl "sort_width" 2 1 zaX):FnX P w K mg base cl "letter_size" 4 2 zaZ :=
 by walk_at "#tA|R^|SfsjuS+WWW6v2sNQq|6|TI]k6w=sN"
theorem scLetterBy:FnScope ["pact", "at", "number", "head", "form", "sort", "rest", "check"] ["pact", "at", "number", "head"] (zai zho):=sco
theorem zmu(F:Fun K "letter_by" "letter_by" zho f fd)(b:Binds K fd ["pact", "at", "number", "head"] [])(m:mg "letter_by" = aa (.ref f))(T:Txt mg)(TC:TxC K cl)(hBitsOf:FnX P w K mg base cl "bits_of" 1 2 zc2)(hCheckOf:FnX P w K mg base cl "check_of" 1 3 zb8)(hCheckWidth:FnX P w K mg base cl "check_width" 2 1 zaS)(hFormAt:FnX P w K mg base cl "form_at" 1 2 zbd)(hPieces:FnX P w K mg base cl "pieces" 3 3 zdL)(hRestOf:FnX P w K mg base cl "rest_of" 1 2 zbR)(hSortWidth:FnX P w K mg base cl "sort_width" 2 1 zaX):FnX P w K mg base cl "letter_by" 4 4 zel :=
 by walk_at "#tA|UrBv3fsjuSuUv3fv1ItG$q(-tF$Fv2Y,sTv3fv1qJFser.Hq7Xs$q7Xs$tDv3fv1qJFxeI]brUFw=Y,+WWWqsq]6xfI]qurUr~"
theorem scSortTold:FnScope ["pact", "bits", "sort"] ["pact", "bits"] (zai zhk):=sco
theorem zmq(F:Fun K "sort_told" "sort_told" zhk f fd)(b:Binds K fd ["pact", "bits"] [])(m:mg "sort_told" = aa (.ref f))(T:Txt mg)(TC:TxC K cl)(hNumberOf:FnX P w K mg base cl "number_of" 1 1 zbA)(hSortWidth:FnX P w K mg base cl "sort_width" 2 1 zaX):FnX P w K mg base cl "sort_told" 3 2 zb5 :=
 by walk_at "#qg|V^|Wfv.IrJ$sgr)6v2Y,ns%2sR]!q_ulovqqkrPq|;r'Kq|"
theorem scParted:FnScope ["pact", "letter", "at", "begin", "behind", "last", "check"] ["pact", "letter"] (zai zmb):=sco
theorem zqU(F:Fun K "parted" "parted" zmb f fd)(b:Binds K fd ["pact", "letter"] [])(m:mg "parted" = aa (.ref f))(T:Txt mg)(TC:TxC K cl)(hAreBits:FnX P w K mg base cl "are_bits" 1 1 zfL)(hCheckWidth:FnX P w K mg base cl "check_width" 2 1 zaS)(hFormAt:FnX P w K mg base cl "form_at" 1 2 zbd)(hLetterSize:FnX P w K mg base cl "letter_size" 4 2 zaZ)(hNumberOf:FnX P w K mg base cl "number_of" 1 1 zbA)(hSortTold:FnX P w K mg base cl "sort_told" 3 2 zb5)(hSortWidth:FnX P w K mg base cl "sort_width" 2 1 zaX):FnX P w K mg base cl "parted" 5 2 zgp :=
 by walk_at "#qmA|XsLqh|Yr!!q.vb^tlfxguSs&qQh6w>YkuVqVtlfv2sNrBtlq}?Q6sjYk-uUtl)KqQh6w=sNsTtlfv.IrJ$r)qssg!nr^q]uL-uVrObFv.IrJ$r)?r)X!*rJ$r)Xr)qstH"
theorem scDoubt:FnScope ["shape", "form", "head", "formers", "bits", "k", "more", "former", "other"] ["shape", "form", "head", "formers"] (zai zp3):=sco
theorem zty(F:Fun K "doubt" "doubt" zp3 f fd)(b:Binds K fd ["shape", "form", "head", "formers"] [])(m:mg "doubt" = aa (.ref f))(T:Txt mg)(TC:TxC K cl)(hFirstOther:FnX P w K mg base cl "first_other" 1 2 zc1)(hOpened:FnX P w K mg base cl "opened" 5 5 zfe)(hPieces:FnX P w K mg base cl "pieces" 3 3 zdL):FnX P w K mg base cl "doubt" 6 4 zlr :=
 by walk_at "#qmC|ZrBtmfxfuTkrnuP?qICtm)wjqI>tmq'Ntmq-vhr/_tmf|[r.HFxhuTqusPs{,sUtIuOq(+WqWsQuOor'"
theorem scFirstOther:FnScope ["head", "told", "place", "value"] ["head", "told"] (zai ze0):=sco
theorem zjZ(F:Fun K "first_other" "first_other" ze0 f fd)(b:Binds K fd ["head", "told"] [])(m:mg "first_other" = aa (.ref f))(T:Txt mg)(TC:TxC K cl):FnX P w K mg base cl "first_other" 1 2 zc1 :=
 by walk_at "#e|]rnuP$qIHxiq'=xiq-sUrk?so2;rObrUor'"
theorem scFormerHeads:FnScope ["heads", "reach", "many"] ["heads", "reach"] (zai zea):=sco
theorem ziy(F:Fun K "former_heads" "former_heads" zea f fd)(b:Binds K fd ["heads", "reach"] [])(m:mg "former_heads" = aa (.ref f))(T:Txt mg)(TC:TxC K cl):FnX P w K mg base cl "former_heads" 1 2 zde :=
 by walk_at "#e|^^|_tJ5qQuJ+tKq>v*v4xjqFxkqR|`wfr?Wq1v55v6Dv7v8rNks$qGuRv*v4xjxkt#qWc*soK2?,"
theorem zjv:FnScope ["self", "pact"] ["self", "pact"] (zai zd6):=sco
theorem ziu(F:Fun K "__init__" "Presser.__init__" zd6 f fd)(b:Binds K fd ["self", "pact"] [])(M:mg "Presser" = aa (.ref (cl "Presser")))(m:Mk K (cl "Presser") f)(T:Txt mg)(t:TxC K cl):FnC P w K mg base cl "Presser" 1 2 zcx :=
 have h:=FnC.mk' (P:=P) (w:=w) (base:=base) (cl:=cl) (k:=0) F b M m zjv rfl fun cdv A outer s H E hr=>
  (zag (zbv (zab 0) (zab 1) t.cPresser t.nPresser_pact)
  (zag (zbv (zab 0) (zdh zaf) t.cPresser t.nPresser_pressed)
  (zag (zbv (zab 0) za1 t.cPresser t.nPresser_had)
  (zag (zbv (zab 0) za1 t.cPresser t.nPresser_base)
  (zah (zbv (zab 0) zae t.cPresser t.nPresser_fresh))))))
 h
theorem scPresserPress:FnScope ["self", "head", "number", "letter"] ["self", "head"] (zai zdF):=sco
theorem zhF(F:Fun K "press" "Presser.press" zdF f fd)(b:Binds K fd ["self", "head"] [])(m:Meth K (cl "Presser") "press" f)(T:Txt mg)(TC:TxC K cl)(hPresserAskHead:FnM P w K mg base cl "Presser" "ask_head" 5 2 zbz)(hPresserSent:FnM P w K mg base cl "Presser" "sent" 1 1 zay)(hPresserShortest:FnM P w K mg base cl "Presser" "shortest" 8 2 zbo)(hLetterBy:FnX P w K mg base cl "letter_by" 4 4 zel):FnM P w K mg base cl "Presser" "press" 9 2 zb6 :=
 by walk_at "#q2_|aq!s'|brQuW^xl)s(r52qHQsVuVqVxlf|cIsx*rG|drQuWbhuIq?v9h+?"
theorem zil:FnScope ["self", "word"] ["self", "word"] (zai zdG):=sco
theorem zhG(F:Fun K "heard" "Presser.heard" zdG f fd)(b:Binds K fd ["self", "word"] [])(m:Meth K (cl "Presser") "heard" f)(T:Txt mg)(TC:TxC K cl)(hPresserHeardOf:FnM P w K mg base cl "Presser" "heard_of" 1 2 zbx)(hPresserSent:FnM P w K mg base cl "Presser" "sent" 1 1 zay)(hIsBetween:FnX P w K mg base cl "is_between" 2 3 zcq)(hIsWorded:FnX P w K mg base cl "is_worded" 2 3 zbq):FnM P w K mg base cl "Presser" "heard" 3 2 zbH :=
 by walk_at "#q2H|ermqhtnr!mqvuXs(s0w?q.u#r's0skrmyQqhtnr!mqvuqqhxYsSq*r?Ks(s$q.s'|frQsW!qOq.ul"
theorem zju:FnScope ["self"] ["self"] (zai zd5):=sco
theorem zit(F:Fun K "sent" "Presser.sent" zd5 f fd)(b:Binds K fd ["self"] [])(m:Meth K (cl "Presser") "sent" f)(T:Txt mg)(TC:TxC K cl):FnM P w K mg base cl "Presser" "sent" 1 1 zay :=
 by walk_at "#rC|g+sRq?v9!"
theorem zgT:FnScope ["self", "reach"] ["self", "reach"] (zai zcP):=sco
theorem zgg(F:Fun K "formers" "Presser.formers" zcP f fd)(b:Binds K fd ["self", "reach"] [])(m:Meth K (cl "Presser") "formers" f)(T:Txt mg)(TC:TxC K cl)(hFormerHeads:FnX P w K mg base cl "former_heads" 1 2 zde):FnM P w K mg base cl "Presser" "formers" 2 2 zby :=
 by walk_at "#s)|hq~|iIq?v9h"
theorem zgU:FnScope ["self", "head"] ["self", "head"] (zai zcQ):=sco
theorem zgh(F:Fun K "ask_head" "Presser.ask_head" zcQ f fd)(b:Binds K fd ["self", "head"] [])(m:Meth K (cl "Presser") "ask_head" f)(T:Txt mg)(TC:TxC K cl)(hIsHead:FnX P w K mg base cl "is_head" 4 2 zh7):FnM P w K mg base cl "Presser" "ask_head" 5 2 zbz :=
 by walk_at "#q2A|jrmvnqh|ksSsVhq.vb"
theorem scPresserHindrance:FnScope ["self", "head", "at", "reach", "count"] ["self", "head", "at"] (zai zch):=sco
theorem ze5(F:Fun K "hindrance" "Presser.hindrance" zch f fd)(b:Binds K fd ["self", "head", "at"] [])(m:Meth K (cl "Presser") "hindrance" f)(T:Txt mg)(TC:TxC K cl)(hPresserFormers:FnM P w K mg base cl "Presser" "formers" 2 2 zby)(hPresserIsCounted:FnM P w K mg base cl "Presser" "is_counted" 2 2 zbj)(hPresserIsShared:FnM P w K mg base cl "Presser" "is_shared" 2 2 zbp)(hPresserIsToldAnew:FnM P w K mg base cl "Presser" "is_told_anew" 2 1 za9)(hDoubt:FnX P w K mg base cl "doubt" 6 4 zlr):FnM P w K mg base cl "Presser" "hindrance" 7 3 zbk :=
 by walk_at "#q2>|lr]rJr#sV2sguMqI=xmtCxmq-qMtTq<|mrQ+q0TsLtL|nrQuY+q0TsLtL|orQr[qO+q0o6|psSsVq7QsV2rN*rG|qrQuY!"
theorem zgS:FnScope ["self", "number"] ["self", "number"] (zai zcO):=sco
theorem zgf(F:Fun K "heard_of" "Presser.heard_of" zcO f fd)(b:Binds K fd ["self", "number"] [])(m:Meth K (cl "Presser") "heard_of" f)(T:Txt mg)(TC:TxC K cl):FnM P w K mg base cl "Presser" "heard_of" 1 2 zbx :=
 by walk_at "#rC|ruXtGq?toq($sX*q?tohs0tosUr^$q?w?q_u#tGq?skq($sX*q?skhs0skT"
theorem scPresserShortest:FnScope ["self", "head", "best", "at"] ["self", "head"] (zai zcD):=sco
theorem zft(F:Fun K "shortest" "Presser.shortest" zcD f fd)(b:Binds K fd ["self", "head"] [])(m:Meth K (cl "Presser") "shortest" f)(T:Txt mg)(TC:TxC K cl)(hPresserHindrance:FnM P w K mg base cl "Presser" "hindrance" 7 3 zbk)(hLetterSize:FnX P w K mg base cl "letter_size" 4 2 zaZ):FnM P w K mg base cl "Presser" "shortest" 8 2 zbo :=
 by walk_at "#q2N|s^wA)r'rnuZ*qQq7sV,rM=wA)rmsMqf6w>IsxrU6w>Isxk;uqvYrG|trQrNrUsYr'tMHwA)?o2"
theorem scPresserIsToldAnew:FnScope ["self", "anew"] ["self"] (zai zbX):=sco
theorem zey(F:Fun K "is_told_anew" "Presser.is_told_anew" zbX f fd)(b:Binds K fd ["self"] [])(m:Meth K (cl "Presser") "is_told_anew" f)(T:Txt mg)(TC:TxC K cl)(hPresserSent:FnM P w K mg base cl "Presser" "sent" 1 1 zay):FnM P w K mg base cl "Presser" "is_told_anew" 2 1 za9 :=
 by walk_at "#s)|ut<|v)r#sxr3t=qqrkq*;sOrPqas(q*;"
theorem scPresserIsShared:FnScope ["self", "reach", "shared", "before"] ["self", "reach"] (zai zcE):=sco
theorem zfu(F:Fun K "is_shared" "Presser.is_shared" zcE f fd)(b:Binds K fd ["self", "reach"] [])(m:Meth K (cl "Presser") "is_shared" f)(T:Txt mg)(TC:TxC K cl)(hPresserSent:FnM P w K mg base cl "Presser" "sent" 1 1 zay):FnM P w K mg base cl "Presser" "is_shared" 2 2 zbp :=
 by walk_at "#s)|w^xn)tGq?skq(sd!sd*q?sk!qVxn)KKs(-r#sxr3nr^?q?w?q_u!2rUoq1xo5xpDxqxr*xssturv:v4w*xtqFqKqRxu2qGAqpvpv:v4w*xtqKt#qqr^XKs($;!"
theorem scPresserIsCounted:FnScope ["self", "count", "gap", "late", "least"] ["self", "count"] (zai zcg):=sco
theorem ze4(F:Fun K "is_counted" "Presser.is_counted" zcg f fd)(b:Binds K fd ["self", "count"] [])(m:Meth K (cl "Presser") "is_counted" f)(T:Txt mg)(TC:TxC K cl)(hPresserSent:FnM P w K mg base cl "Presser" "sent" 1 1 zay):FnM P w K mg base cl "Presser" "is_counted" 2 2 zbj :=
 by walk_at "#s)|xr]rJQsVuMuMqIHv;q'=v;q-rBv;)sXr?KKs(-2!ntIq?tor'tMAv;)sXqu*Kq?to?!oqqs%qH$KWs(?X;"
theorem zsR:FnScope ["told"] ["told"] (zai zl4):=sco
theorem zqN(F:Fun K "word_of" "word_of" zl4 f fd)(b:Binds K fd ["told"] [])(m:mg "word_of" = aa (.ref f))(T:Txt mg)(TC:TxC K cl):FnX P w K mg base cl "word_of" 1 1 zgn :=
 by walk_at "#e|yuQu[qC*]!"
theorem scThoseKept:FnScope ["held", "bound", "least"] ["held", "bound"] (zai zf2):=sco
theorem zkN(F:Fun K "those_kept" "those_kept" zf2 f fd)(b:Binds K fd ["held", "bound"] [])(m:mg "those_kept" = aa (.ref f))(T:Txt mg)(TC:TxC K cl):FnX P w K mg base cl "those_kept" 1 2 zbT :=
 by walk_at "#e|z^|{tJ5xv5waxwstq>tYv<s5qFqKqRVqGuRtYv<s5qKtwv=qkqf?$;q)?$+||stq>tYv<s5qFqKt?q1|}5|~D}!}#uJqGuRtYv<s5qKtwv=qkr^?2;q)?q)so?"
theorem zkv:FnScope ["self", "pact"] ["self", "pact"] (zai zeW):=sco
theorem zjV(F:Fun K "__init__" "Reader.__init__" zeW f fd)(b:Binds K fd ["self", "pact"] [])(M:mg "Reader" = aa (.ref (cl "Reader")))(m:Mk K (cl "Reader") f)(T:Txt mg)(t:TxC K cl):FnC P w K mg base cl "Reader" 1 2 zcX :=
 have h:=FnC.mk' (P:=P) (w:=w) (base:=base) (cl:=cl) (k:=0) F b M m zkv rfl fun cdv A outer s H E hr=>
  (zag (zbv (zab 0) (zab 1) t.cReader t.nReader_pact)
  (zag (zbv (zab 0) za1 t.cReader t.nReader_highest)
  (zah (zbv (zab 0) znD t.cReader t.nReader_held))))
 h
theorem scReaderRead:FnScope ["self", "letter", "at", "number", "bits", "check", "head"] ["self", "letter"] (zai zeV):=sco
theorem zjU(F:Fun K "read" "Reader.read" zeV f fd)(b:Binds K fd ["self", "letter"] [])(m:Meth K (cl "Reader") "read" f)(T:Txt mg)(TC:TxC K cl)(hReaderHeadTold:FnM P w K mg base cl "Reader" "head_told" 6 4 zbi)(hReaderIsFar:FnM P w K mg base cl "Reader" "is_far" 2 3 zbV)(hReaderIsLate:FnM P w K mg base cl "Reader" "is_late" 2 2 zbG)(hReaderLeast:FnM P w K mg base cl "Reader" "least" 1 1 zaM)(hReaderRise:FnM P w K mg base cl "Reader" "rise" 2 2 zbw)(hCheckOf:FnX P w K mg base cl "check_of" 1 3 zb8)(hFormAt:FnX P w K mg base cl "form_at" 1 2 zbd)(hParted:FnX P w K mg base cl "parted" 5 2 zgp)(hWindowed:FnX P w K mg base cl "windowed" 2 3 zbP):FnM P w K mg base cl "Reader" "read" 7 2 zcn :=
 by walk_at "#q2>}$r]6}%Is*htvAs6Hslq'=sltCslq'Cslq-ntI2q(ntytNq(qCmr6r}=slfx[Iq<wBrDcq76sjIs*k-r6qMtL}&rDuYqCmr6nwCqJwD?u]5qCcr6qMsMtI2q(uqtL}'rDcq76sjIs*ks$sYq!s'xxrDuYqCmr6sTslsZ}(rDbcr[vfsYs&6xesSs*-ctHqs;qCmr6q!xyxzqJu]?q]5q!s'xxrDuYqCctH"
theorem zik:FnScope ["self"] ["self"] (zai zdE):=sco
theorem zhE(F:Fun K "forget" "Reader.forget" zdE f fd)(b:Binds K fd ["self"] [])(m:Meth K (cl "Reader") "forget" f)(T:Txt mg)(TC:TxC K cl):FnM P w K mg base cl "Reader" "forget" 1 1 zdK :=
 by walk_at "#rC})uXr's[vrq.u#}*s[vs"
theorem zl2:FnScope ["self"] ["self"] (zai zf6):=sco
theorem zkR(F:Fun K "top" "Reader.top" zf6 f fd)(b:Binds K fd ["self"] [])(m:Meth K (cl "Reader") "top" f)(T:Txt mg)(TC:TxC K cl):FnM P w K mg base cl "Reader" "top" 1 1 zdr :=
 by walk_at "#rC}++tN"
theorem zjt:FnScope ["self"] ["self"] (zai zd3):=sco
theorem zir(F:Fun K "least" "Reader.least" zd3 f fd)(b:Binds K fd ["self"] [])(m:Meth K (cl "Reader") "least" f)(T:Txt mg)(TC:TxC K cl):FnM P w K mg base cl "Reader" "least" 1 1 zaM :=
 by walk_at "#rC},+KtNr#s*r3"
theorem zij:FnScope ["self", "number"] ["self", "number"] (zai zdD):=sco
theorem zhD(F:Fun K "is_late" "Reader.is_late" zdD f fd)(b:Binds K fd ["self", "number"] [])(m:Meth K (cl "Reader") "is_late" f)(T:Txt mg)(TC:TxC K cl)(hReaderLeast:FnM P w K mg base cl "Reader" "least" 1 1 zaM):FnM P w K mg base cl "Reader" "is_late" 2 2 zbG :=
 by walk_at "#s)}-+wEqqqfq*;tZupqqtItNq(sOqf$q<wBrD;"
theorem zhf:FnScope ["self", "number"] ["self", "number"] (zai zdf):=sco
theorem zgW(F:Fun K "nearest" "Reader.nearest" zdf f fd)(b:Binds K fd ["self", "number"] [])(m:Meth K (cl "Reader") "nearest" f)(T:Txt mg)(TC:TxC K cl):FnM P w K mg base cl "Reader" "nearest" 1 2 zbc :=
 by walk_at "#rC}.+xv5waxwstr,v:qKqFx{qRu]qGuGq>v:qKx{twv=qkqf2$;q)2r'"
theorem scReaderIsFar:FnScope ["self", "number", "reach", "former"] ["self", "number", "reach"] (zai zd4):=sco
theorem zis(F:Fun K "is_far" "Reader.is_far" zd4 f fd)(b:Binds K fd ["self", "number", "reach"] [])(m:Meth K (cl "Reader") "is_far" f)(T:Txt mg)(TC:TxC K cl)(hReaderNearest:FnM P w K mg base cl "Reader" "nearest" 1 2 zbc):FnM P w K mg base cl "Reader" "is_far" 2 3 zbV :=
 by walk_at "#s)}/qV}0sZx|rDuW+wEqqty?q(sOs%K$?2;"
theorem scReaderHeadTold:FnScope ["self", "at", "number", "bits", "former"] ["self", "at", "number", "bits"] (zai zcN):=sco
theorem zge(F:Fun K "head_told" "Reader.head_told" zcN f fd)(b:Binds K fd ["self", "at", "number", "bits"] [])(m:Meth K (cl "Reader") "head_told" f)(T:Txt mg)(TC:TxC K cl)(hReaderNearest:FnM P w K mg base cl "Reader" "nearest" 1 2 zbc)(hBreadths:FnX P w K mg base cl "breadths" 1 1 zb9)(hFormAt:FnX P w K mg base cl "form_at" 1 2 zbd)(hNumbersOf:FnX P w K mg base cl "numbers_of" 2 2 zco)(hOpened:FnX P w K mg base cl "opened" 5 5 zfe):FnM P w K mg base cl "Reader" "head_told" 6 4 zbi :=
 by walk_at "#q2C}1nty$q(+vZFxcr.=Fw7sSs*-,r6rB}2sZx|rDkqOq~xhsSs*-FsjIs*hcq7u]X*K2X!"
theorem zku:FnScope ["self", "number"] ["self", "number"] (zai zeU):=sco
theorem zjT(F:Fun K "rise" "Reader.rise" zeU f fd)(b:Binds K fd ["self", "number"] [])(m:Meth K (cl "Reader") "rise" f)(T:Txt mg)(TC:TxC K cl)(hReaderLeast:FnM P w K mg base cl "Reader" "least" 1 1 zaM)(hThoseKept:FnX P w K mg base cl "those_kept" 1 2 zbT):FnM P w K mg base cl "Reader" "rise" 2 2 zbw :=
 by walk_at "#s)}3uXtGtNq($sX*tNhs[vrq.u#6}4Iu]*q<wBrD!s[vs"
theorem zoH:FnScope ["thing", "deeds"] ["thing", "deeds"] (zai zht):=sco
theorem zmz(F:Fun K "is_placed" "is_placed" zht f fd)(b:Binds K fd ["thing", "deeds"] [])(m:mg "is_placed" = aa (.ref f))(T:Txt mg)(TC:TxC K cl)(hIsWhole:FnX P w K mg base cl "is_whole" 1 1 zdM)(hIsWorded:FnX P w K mg base cl "is_worded" 2 3 zbq):FnX P w K mg base cl "is_placed" 3 2 zdx :=
 by walk_at "#qg}5sLtTq1xo5xpDxqxrszr,tjx}qFx~t?$qGuGq>tjx}x~u^tnYbs+uFup6xWI]!sOr^]-;"
theorem zoF:FnScope ["self", "pact"] ["self", "pact"] (zai zhm):=sco
theorem zms(F:Fun K "__init__" "Road.__init__" zhm f fd)(b:Binds K fd ["self", "pact"] [])(M:mg "Road" = aa (.ref (cl "Road")))(m:Mk K (cl "Road") f)(T:Txt mg)(t:TxC K cl)(a:FnC P w K mg base cl "Presser" 1 2 zcx)(c:FnC P w K mg base cl "Reader" 1 2 zcX):FnC P w K mg base cl "Road" 3 2 zei :=
 have h:=FnC.mk' (P:=P) (w:=w) (base:=base) (cl:=cl) (k:=2) F b M m zoF rfl fun cdv A outer s H E hr=>
  (zag (zbv (zab 0) (zab 1) t.cRoad t.nRoad_pact)
  (zag (zbv (zab 0) (zmm a rfl (hr.mono (by decide)) rfl (zaa (zab 1) zaf) (aCons_len aNil_len)) t.cRoad t.nRoad_presser)
  (zag (zbv (zab 0) (zmm c rfl (hr.mono (by decide)) rfl (zaa (zab 1) zaf) (aCons_len aNil_len)) t.cRoad t.nRoad_reader)
  (zag (zbv (zab 0) (zdh zaf) t.cRoad t.nRoad_under_way)
  (zag (zbv (zab 0) (zdh zaf) t.cRoad t.nRoad_coming_back)
  (zah (zbv (zab 0) za1 t.cRoad t.nRoad_furthest)))))))
 h
theorem zsV:FnScope ["self", "deed"] ["self", "deed"] (zai zl8):=sco
theorem zqR(F:Fun K "do" "Road.do" zl8 f fd)(b:Binds K fd ["self", "deed"] [])(m:Meth K (cl "Road") "do" f)(T:Txt mg)(TC:TxC K cl)(cDONE:mg "DONE" = aa (.ref (cl "DONE")))(cLETTER_DEEDS:mg "LETTER_DEEDS" = aa (.ref (cl "LETTER_DEEDS")))(cWORD_DEEDS:mg "WORD_DEEDS" = aa (.ref (cl "WORD_DEEDS")))(hReaderForget:FnM P w K mg base cl "Reader" "forget" 1 1 zdK)(hRoadDoLetter:FnM P w K mg base cl "Road" "do_letter" 9 3 za8)(hRoadDoWord:FnM P w K mg base cl "Road" "do_word" 4 3 zcl)(hRoadSend:FnM P w K mg base cl "Road" "send" 10 2 zdo)(hIsPlaced:FnX P w K mg base cl "is_placed" 3 2 zdx)(hIsWorded:FnX P w K mg base cl "is_worded" 2 3 zbq):FnM P w K mg base cl "Road" "do" 11 2 zaY :=
 by walk_at "#q2rc}6qMqhtnr!mqv+rG}7s,sW!qOTqMqhtnr!mqvq!vgq<}8q,wFvR+u_wGwHTqMqhy!r!*u_}9}:!+rG};s,sWsW!sYTqMqhy!r!*u_}<}=!+rG}>s,sWsW!sYTq.ul"
theorem zjr:FnScope ["self"] ["self"] (zai zd1):=sco
theorem zio(F:Fun K "letters" "Road.letters" zd1 f fd)(b:Binds K fd ["self"] [])(m:Meth K (cl "Road") "letters" f)(T:Txt mg)(TC:TxC K cl):FnM P w K mg base cl "Road" "letters" 1 1 zaV :=
 by walk_at "#rC}?+s_wIwJDwKwL*u`!"
theorem zl0:FnScope ["self"] ["self"] (zai zf4):=sco
theorem zkP(F:Fun K "words" "Road.words" zf4 f fd)(b:Binds K fd ["self"] [])(m:Meth K (cl "Road") "words" f)(T:Txt mg)(TC:TxC K cl):FnM P w K mg base cl "Road" "words" 1 1 zbE :=
 by walk_at "#rC}A+s_wIwJDwKwL*ua!"
theorem zl1:FnScope ["self"] ["self"] (zai zf5):=sco
theorem zkQ(F:Fun K "heads" "Road.heads" zf5 f fd)(b:Binds K fd ["self"] [])(m:Meth K (cl "Road") "heads" f)(T:Txt mg)(TC:TxC K cl):FnM P w K mg base cl "Road" "heads" 1 1 zbF :=
 by walk_at "#rC}B+s_wIwJDwKwL*whq,v>s0v9!"
theorem zpX:FnScope ["self"] ["self"] (zai zjx):=sco
theorem zoQ(F:Fun K "top" "Road.top" zjx f fd)(b:Binds K fd ["self"] [])(m:Meth K (cl "Road") "top" f)(T:Txt mg)(TC:TxC K cl)(hReaderTop:FnM P w K mg base cl "Reader" "top" 1 1 zdr):FnM P w K mg base cl "Road" "top" 2 1 zeu :=
 by walk_at "#s)}C+q<}Dq,wFvR"
theorem scRoadSend:FnScope ["self", "head", "number", "letter"] ["self", "head"] (zai zhl):=sco
theorem zmr(F:Fun K "send" "Road.send" zhl f fd)(b:Binds K fd ["self", "head"] [])(m:Meth K (cl "Road") "send" f)(T:Txt mg)(TC:TxC K cl)(hPresserPress:FnM P w K mg base cl "Presser" "press" 9 2 zb6)(hPresserSent:FnM P w K mg base cl "Presser" "sent" 1 1 zay):FnM P w K mg base cl "Road" "send" 10 2 zdo :=
 by walk_at "#q2qX}E^y#)yPq,v>vOqVy#sZ}Fq,v>vOuWuIu`s|bc,qCb*qQc,"
theorem scRoadDoLetter:FnScope ["self", "deed", "k", "told", "number", "letter"] ["self", "deed", "k"] (zai zdC):=sco
theorem zhC(F:Fun K "do_letter" "Road.do_letter" zdC f fd)(b:Binds K fd ["self", "deed", "k"] [])(m:Meth K (cl "Road") "do_letter" f)(T:Txt mg)(TC:TxC K cl)(cDONE:mg "DONE" = aa (.ref (cl "DONE")))(hRoadArrive:FnM P w K mg base cl "Road" "arrive" 8 3 zcm):FnM P w K mg base cl "Road" "do_letter" 9 3 za8 :=
 by walk_at "#q2_}Gnr^2sRu`!uVqVv?)u_wGwHs&$rTr]Qu`2qIAv?q'Cv?q-r}=v?sZ}Hs,qusQsYTs&$q0q_vTwMwNwOuiwPu`ko?"
theorem zkt:FnScope ["self", "deed", "k"] ["self", "deed", "k"] (zai zeS):=sco
theorem zjR(F:Fun K "do_word" "Road.do_word" zeS f fd)(b:Binds K fd ["self", "deed", "k"] [])(m:Meth K (cl "Road") "do_word" f)(T:Txt mg)(TC:TxC K cl)(cDONE:mg "DONE" = aa (.ref (cl "DONE")))(hPresserHeard:FnM P w K mg base cl "Presser" "heard" 3 2 zbH):FnM P w K mg base cl "Road" "do_word" 4 3 zcl :=
 by walk_at "#q2=}Inr^2sRua!uVs&$q0q_s'}Jq,v>vOq7ua2!qOTs&$q0q_vTwMwNwOuiwPuakou_wGwH"
theorem scRoadArrive:FnScope ["self", "number", "letter", "told"] ["self", "number", "letter"] (zai zeT):=sco
theorem zjS(F:Fun K "arrive" "Road.arrive" zeT f fd)(b:Binds K fd ["self", "number", "letter"] [])(m:Meth K (cl "Road") "arrive" f)(T:Txt mg)(TC:TxC K cl)(hReaderRead:FnM P w K mg base cl "Reader" "read" 7 2 zcn)(hRoadIsAhead:FnM P w K mg base cl "Road" "is_ahead" 4 3 zbU)(hRoadIsOvertaken:FnM P w K mg base cl "Road" "is_overtaken" 1 2 za6)(hWordOf:FnX P w K mg base cl "word_of" 1 1 zgn):FnM P w K mg base cl "Road" "arrive" 8 3 zcm :=
 by walk_at "#q2N}KqMvly$tL}Ls,uWy%tL}Ms,rNksYq.vbqV}NsZ}Oq,wFvRkqOuXtGq,tpq($sX*q,tphvetpuIuaF}Pr.=,+?"
theorem zf0:FnScope ["self", "number"] ["self", "number"] (zai zcC):=sco
theorem zfs(F:Fun K "is_overtaken" "Road.is_overtaken" zcC f fd)(b:Binds K fd ["self", "number"] [])(m:Meth K (cl "Road") "is_overtaken" f)(T:Txt mg)(TC:TxC K cl):FnM P w K mg base cl "Road" "is_overtaken" 1 2 za6 :=
 by walk_at "#rC}Qt=qqtIq,tpq(sOs%Kq,tp$r#q,wQr3;"
theorem zjs:FnScope ["self", "number", "letter"] ["self", "number", "letter"] (zai zd2):=sco
theorem ziq(F:Fun K "is_ahead" "Road.is_ahead" zd2 f fd)(b:Binds K fd ["self", "number", "letter"] [])(m:Meth K (cl "Road") "is_ahead" f)(T:Txt mg)(TC:TxC K cl)(hRoadTop:FnM P w K mg base cl "Road" "top" 2 1 zeu)(hSortTold:FnX P w K mg base cl "sort_told" 3 2 zb5):FnM P w K mg base cl "Road" "is_ahead" 4 3 zbU :=
 by walk_at "#q2=}RqMvly$vY6xgIq,wQkq(y%vYq<y&s,q(uFqqs%K$q<y&s,Wr#q,wQr3-;"
theorem scLawBox:FnScope ["_law_script", "_law_seed", "_law_own", "_law_far", "_law_cell"] ["_law_script"] (zai zme):=sco
theorem zqX(F:Fun K "_law_box" "_law_box" zme f fd)(b:Binds K fd ["_law_script"] [])(m:mg "_law_box" = aa (.ref f))(T:Txt mg)(TC:TxC K cl):FnX P w K mg base cl "_law_box" 1 1 zh5 :=
 by walk_at "#e}St<tquH^tq)sd!qVtq)q/vAvBq/vAvBq/vAvBq/vAvBs-s-s-s-s-uDrJVsguMrMAtq)t<tq)s!Wpq*qaXs-r3sUr^q1y'y(Dy)y*r[s-q_u!2*qaq1y'y(Dy)y*r[?!o}TwR2wR$wR-}U}VtS"
theorem scLawNext:FnScope ["_law_box_here", "_law_many", "_law_digit", "_law_turn", "_law_mixed"] ["_law_box_here", "_law_many"] (zai zjB):=sco
theorem zoU(F:Fun K "_law_next" "_law_next" zjB f fd)(b:Binds K fd ["_law_box_here", "_law_many"] [])(m:mg "_law_next" = aa (.ref f))(T:Txt mg)(TC:TxC K cl):FnX P w K mg base cl "_law_next" 1 2 zaC :=
 by walk_at "#e}Wq!xVufuzvisMrkrEub;uErPQrEr3q_vTwMwNwOuiwPrEqvs&rEub;^tr)qaQrE-$r]q/wSwTQrE-$}XrE-+2Tq!xyxzqJVq0WrE-5qVtr)rErBtrq}WrEpp?s#ps#rBtr)qapXr3rBtr)qapXWqaXr3-+qaq/wSwTX-$"
theorem zu2:FnScope ["_law_box_here", "_law_some"] ["_law_box_here", "_law_some"] (zai zp1):=sco
theorem ztw(F:Fun K "_law_of" "_law_of" zp1 f fd)(b:Binds K fd ["_law_box_here", "_law_some"] [])(m:mg "_law_of" = aa (.ref f))(T:Txt mg)(TC:TxC K cl)(hLawNext:FnX P w K mg base cl "_law_next" 1 2 zaC):FnX P w K mg base cl "_law_of" 2 2 zaK :=
 by walk_at "#rZ}Y+Q$6ucqQrN,"
theorem scLawValue:FnScope ["_law_box_here", "_law_breadth", "_law_some"] ["_law_box_here", "_law_breadth"] (zai zhp):=sco
theorem zmv(F:Fun K "_law_value" "_law_value" zhp f fd)(b:Binds K fd ["_law_box_here", "_law_breadth"] [])(m:mg "_law_value" = aa (.ref f))(T:Txt mg)(TC:TxC K cl)(hLawNext:FnX P w K mg base cl "_law_next" 1 2 zaC):FnX P w K mg base cl "_law_value" 2 2 zbI :=
 by walk_at "#rZ}Z^}[)ugrh*KqHq*FucqH$,+qauNtOqH$"
theorem scLawKind:FnScope ["_law_box_here", "_law_place", "_law_breadth", "_law_way_here", "_law_many", "_law_first", "_law_step_here", "_law_times"] ["_law_box_here", "_law_place", "_law_breadth"] (zai zjC):=sco
theorem zoV(F:Fun K "_law_kind" "_law_kind" zjC f fd)(b:Binds K fd ["_law_box_here", "_law_place", "_law_breadth"] [])(m:mg "_law_kind" = aa (.ref f))(T:Txt mg)(TC:TxC K cl)(hLawNext:FnX P w K mg base cl "_law_next" 1 2 zaC)(hLawOf:FnX P w K mg base cl "_law_of" 2 2 zaK)(hLawValue:FnX P w K mg base cl "_law_value" 2 2 zbI):FnX P w K mg base cl "_law_kind" 3 3 zem :=
 by walk_at "#qg}]qVtsfswqvnqfs#;u[nqfs#;qCFwUYb,Tr5s#;rBts)q1v55v6Dv7v8*tFtO*qH2!r]qWFucqH2!*Wp-tOs$qICtstJs6>tstJ5vhqC*tKy+r-y,y-y.vCy/y0y1qFvDqRuZr[qG_qp}^r-y,y-y.vCy/y0y1vDt#s!qspq]uOqH2,TqMsMqfs#;uEs%q*;tDts)ugrh*vEvFvG-rh*vEvFvG-*KtOs$qCFswhFwnYsP,TqC!"
theorem scLawShape:FnScope ["_law_box_here", "_law_most", "_law_letters", "_law_first", "_law_fields", "_law_place", "_law_breadth", "_law_name"] ["_law_box_here", "_law_most"] (zai zhq):=sco
theorem zmw(F:Fun K "_law_shape" "_law_shape" zhq f fd)(b:Binds K fd ["_law_box_here", "_law_most"] [])(m:mg "_law_shape" = aa (.ref f))(T:Txt mg)(TC:TxC K cl)(hLawKind:FnX P w K mg base cl "_law_kind" 3 3 zem)(hLawNext:FnX P w K mg base cl "_law_next" 1 2 zaC)(hLawOf:FnX P w K mg base cl "_law_of" 2 2 zaK):FnX P w K mg base cl "_law_shape" 4 2 zdu :=
 by walk_at "#tA}_^tt)q0q!y2ud=y3A5ttsptSspFswqv*sd,5rnuZ*tFt|rN,rMCtt)sTttftzw_,tDtt)puNs!?p-s8tFs!?s8q.u!Xs|sPs{F}`Ys9s{tPrO*vZr[tQr?s-tP"
theorem scLawWay:FnScope ["_law_box_here", "_law_breadth", "_law_way_here", "_law_width"] ["_law_box_here", "_law_breadth"] (zai zmd):=sco
theorem zqW(F:Fun K "_law_way" "_law_way" zmd f fd)(b:Binds K fd ["_law_box_here", "_law_breadth"] [])(m:mg "_law_way" = aa (.ref f))(T:Txt mg)(TC:TxC K cl)(hLawNext:FnX P w K mg base cl "_law_next" 1 2 zaC)(hLawValue:FnX P w K mg base cl "_law_value" 2 2 zbI):FnX P w K mg base cl "_law_way" 3 2 zfF :=
 by walk_at "#qg}a^y4fswqvnqfq|;u[r5q|;u[qVy4q}-t|hqCcFwUYc,"
theorem scLawForm:FnScope ["_law_box_here", "_law_shape_here", "_law_ways"] ["_law_box_here", "_law_shape_here"] (zai zjD):=sco
theorem zoW(F:Fun K "_law_form" "_law_form" zjD f fd)(b:Binds K fd ["_law_box_here", "_law_shape_here"] [])(m:mg "_law_form" = aa (.ref f))(T:Txt mg)(TC:TxC K cl)(hLawOf:FnX P w K mg base cl "_law_of" 2 2 zaK)(hLawWay:FnX P w K mg base cl "_law_way" 3 2 zfF):FnX P w K mg base cl "_law_form" 4 2 zdv :=
 by walk_at "#tA}b^}c)tKq>r-rgvHqFsmt?uKqGuRr-rgvHsmu^}dvNQs#,rOtQs+wdw_s+k"
theorem scLawRoad:FnScope ["_law_box_here", "_law_skips", "_law_gap"] ["_law_box_here"] (zai zjz):=sco
theorem zoS(F:Fun K "_law_road" "_law_road" zjz f fd)(b:Binds K fd ["_law_box_here"] [])(m:mg "_law_road" = aa (.ref f))(T:Txt mg)(TC:TxC K cl)(hLawOf:FnX P w K mg base cl "_law_of" 2 2 zaK):FnX P w K mg base cl "_law_road" 3 1 zfI :=
 by walk_at "#qg}et<y5ftzrhs+^y5q}$6tzs+rOrNbtQ,tQs+!"
theorem scLawPact:FnScope ["_law_box_here", "_law_most", "_law_shape_here", "_law_forms"] ["_law_box_here", "_law_most"] (zai zjA):=sco
theorem zoT(F:Fun K "_law_pact" "_law_pact" zjA f fd)(b:Binds K fd ["_law_box_here", "_law_most"] [])(m:mg "_law_pact" = aa (.ref f))(T:Txt mg)(TC:TxC K cl)(hLawForm:FnX P w K mg base cl "_law_form" 4 2 zdv)(hLawOf:FnX P w K mg base cl "_law_of" 2 2 zaK)(hLawRoad:FnX P w K mg base cl "_law_road" 3 1 zfI)(hLawShape:FnX P w K mg base cl "_law_shape" 4 2 zdu):FnX P w K mg base cl "_law_pact" 5 2 zev :=
 by walk_at "#qmA}f^y6tJ56}guSqVy6)tKurr-y7rgvIqFvDqRuZtQtPqGAqpvpr-y7rgvIvDu^}hYb,rObwd,cF}iY,"
theorem zkw:FnScope ["_law_box_here", "_law_shape_here"] ["_law_box_here", "_law_shape_here"] (zai zeZ):=sco
theorem zjY(F:Fun K "_law_any_head" "_law_any_head" zeZ f fd)(b:Binds K fd ["_law_box_here", "_law_shape_here"] [])(m:mg "_law_any_head" = aa (.ref f))(T:Txt mg)(TC:TxC K cl)(hLawValue:FnX P w K mg base cl "_law_value" 2 2 zbI):FnX P w K mg base cl "_law_any_head" 3 2 zc0 :=
 by walk_at "#qg}j+tKr,r-rgqFsmt?uKqGuGq>r-rgsmu^wUvNQq|,"
theorem scLawExpected:FnScope ["_law_shape_here", "_law_place", "_law_former", "_law_ahead", "_law_more", "_law_kind_here", "_law_was"] ["_law_shape_here", "_law_place", "_law_former", "_law_ahead", "_law_more"] (zai zd9):=sco
theorem zix(F:Fun K "_law_expected" "_law_expected" zd9 f fd)(b:Binds K fd ["_law_shape_here", "_law_place", "_law_former", "_law_ahead", "_law_more"] [])(m:mg "_law_expected" = aa (.ref f))(T:Txt mg)(TC:TxC K cl):FnX P w K mg base cl "_law_expected" 1 5 zb7 :=
 by walk_at "#e}kq!y2udCy3>5vJsptSspq7uLq*q72$!5r5r_q0tM>vJq}q]pr_XrmsMrPr_rTuEwCqJwDq]r_5r}>vJ)r#s8s!x^r_tHXqQq7s8!sUrPr_q0tM>vJq}q]pr_KQ?r_uNr_oqaq]qHr#]q*"
theorem scLawNextHead:FnScope ["_law_box_here", "_law_shape_here", "_law_former", "_law_calm", "_law_head", "_law_place", "_law_field", "_law_value_here"] ["_law_box_here", "_law_shape_here", "_law_former", "_law_calm"] (zai zd8):=sco
theorem ziw(F:Fun K "_law_next_head" "_law_next_head" zd8 f fd)(b:Binds K fd ["_law_box_here", "_law_shape_here", "_law_former", "_law_calm"] [])(m:mg "_law_next_head" = aa (.ref f))(T:Txt mg)(TC:TxC K cl)(hLawExpected:FnX P w K mg base cl "_law_expected" 1 5 zb7)(hLawNext:FnX P w K mg base cl "_law_next" 1 2 zaC)(hLawOf:FnX P w K mg base cl "_law_of" 2 2 zaK):FnX P w K mg base cl "_law_next_head" 3 4 zcz :=
 by walk_at "#qg}lrBsn)qW!rnuPuKqICsnq'>snq-tDsnf}mr!s9bquqvr5t|rU-tMNsn)s!r~6sur?vEvFvG-r?vEvFvG-FucqHrAtPqHrATr}Asnq}XqWsP!+X"
theorem scLawFitWay:FnScope ["_law_box_here", "_law_field", "_law_width"] ["_law_box_here", "_law_field"] (zai zf8):=sco
theorem zkT(F:Fun K "_law_fit_way" "_law_fit_way" zf8 f fd)(b:Binds K fd ["_law_box_here", "_law_field"] [])(m:mg "_law_fit_way" = aa (.ref f))(T:Txt mg)(TC:TxC K cl)(hLawNext:FnX P w K mg base cl "_law_next" 1 2 zaC)(hLawOf:FnX P w K mg base cl "_law_of" 2 2 zaK):FnX P w K mg base cl "_law_fit_way" 3 2 zcL :=
 by walk_at "#qg}nr5r#q*-rTu[^}o)q1v55v6Dv7v8sW*tFt|s+q~sutE!tE!tEb*q/wSwTqHq|tP"
theorem scLawRoadPact:FnScope ["_law_box_here", "_law_many", "_law_shape_here", "_law_wide", "_law_forms", "_law_road_here", "_law_some", "_law_reach", "_law_count", "_law_ways"] ["_law_box_here", "_law_many"] (zai zd7):=sco
theorem ziv(F:Fun K "_law_road_pact" "_law_road_pact" zd7 f fd)(b:Binds K fd ["_law_box_here", "_law_many"] [])(m:mg "_law_road_pact" = aa (.ref f))(T:Txt mg)(TC:TxC K cl)(hLawFitWay:FnX P w K mg base cl "_law_fit_way" 3 2 zcL)(hLawNext:FnX P w K mg base cl "_law_next" 1 2 zaC)(hLawOf:FnX P w K mg base cl "_law_of" 2 2 zaK)(hLawPact:FnX P w K mg base cl "_law_pact" 5 2 zev):FnX P w K mg base cl "_law_road_pact" 6 2 zcy :=
 by walk_at "#qmC}pr]6}qYqvtvAs6HrLq'=rLtCrLq'CrLq-sTrL)sd!uD}rXsgr)$tv=s6NrLq'_rLq'qXrLq-ns%tO-tMqXrL)tK}sr-vCrgy8vIy9y:y;y<vHqFsmt?Qq|qGrcqp}tr-vCrgy8vIy9y:y;y<vHsmu^}uYqYrc,Tq.u!q]s|sP*q1v55v6Dv7v8r?WuO6surhs+!qYqX,rObc*vZtHsQ"
theorem scLawMayCome:FnScope ["_law_pact_here", "_law_came", "_law_number", "_law_skips", "_law_gap", "_law_late", "_law_anew"] ["_law_pact_here", "_law_came", "_law_number"] (zai zeY):=sco
theorem zjX(F:Fun K "_law_may_come" "_law_may_come" zeY f fd)(b:Binds K fd ["_law_pact_here", "_law_came", "_law_number"] [])(m:mg "_law_may_come" = aa (.ref f))(T:Txt mg)(TC:TxC K cl):FnX P w K mg base cl "_law_may_come" 1 3 zcp :=
 by walk_at "#e}vr]]tvAs6=vKtJs6AvKq'CvKq'>vKq-qMsMrk$ub;uEqf2Kq1}w5}xyRhqs;uFwEqqt>2?;sOrkxsst}yy=y>y?yAyByCyDqFyEqRxu$qGNqpy+y=y>y?yAyByCyDyEtwv=}zt>qfKKq|?r~2q)r~ub;"
theorem scLawComes:FnScope ["_law_box_here", "_law_pact_here", "_law_road_here", "_law_came", "_law_k", "_law_number", "_law_told", "_law_due"] ["_law_box_here", "_law_pact_here", "_law_road_here", "_law_came", "_law_k"] (zai zhr):=sco
theorem zmx(F:Fun K "_law_comes" "_law_comes" zhr f fd)(b:Binds K fd ["_law_box_here", "_law_pact_here", "_law_road_here", "_law_came", "_law_k"] [])(m:mg "_law_comes" = aa (.ref f))(T:Txt mg)(TC:TxC K cl)(hRoadDo:FnM P w K mg base cl "Road" "do" 11 2 zaY)(hRoadHeads:FnM P w K mg base cl "Road" "heads" 1 1 zbF)(hRoadLetters:FnM P w K mg base cl "Road" "letters" 1 1 zaV)(hLawMayCome:FnX P w K mg base cl "_law_may_come" 1 3 zcp)(hLawOf:FnX P w K mg base cl "_law_of" 2 2 zaK):FnX P w K mg base cl "_law_comes" 12 5 zdw :=
 by walk_at "#qmx.}{uUwV)r#q<yFr`X-sLqh}|r!csQq!s'vLr`tEqu,qOv`TsTwVsZvLr`s|Fsummm,qu,qOtDwV)vqqkwCqJwDqs?5qWmsQqWms9q7q<}}r`qs!uI?sQ+qqrPq]r~;"
theorem scLawStep:FnScope ["_law_box_here", "_law_pact_here", "_law_road_here", "_law_came", "_law_more", "_law_many", "_law_k"] ["_law_box_here", "_law_pact_here", "_law_road_here", "_law_came"] (zai zjy):=sco
theorem zoR(F:Fun K "_law_step" "_law_step" zjy f fd)(b:Binds K fd ["_law_box_here", "_law_pact_here", "_law_road_here", "_law_came"] [])(m:mg "_law_step" = aa (.ref f))(T:Txt mg)(TC:TxC K cl)(hRoadDo:FnM P w K mg base cl "Road" "do" 11 2 zaY)(hRoadLetters:FnM P w K mg base cl "Road" "letters" 1 1 zaV)(hRoadWords:FnM P w K mg base cl "Road" "words" 1 1 zbE)(hLawComes:FnX P w K mg base cl "_law_comes" 12 5 zdw)(hLawNext:FnX P w K mg base cl "_law_next" 1 2 zaC)(hLawOf:FnX P w K mg base cl "_law_of" 2 2 zaK):FnX P w K mg base cl "_law_step" 13 4 zfG :=
 by walk_at "#qmtb}~rnuZtQtPrMAwW)uUwW)sRq<yFr`!sUs%s8;sTwW)sXr?KKs86tzFsws9,,sUrPtO-q_s'vLr`tEs{,qOrmvnqh~!uTbctHv`TTs&q<yGr`ubq_s'vLr`s|Fsummm,FucsRq<yGr`,,qOovk"
theorem scLaw:FnScope ["_law_script", "_law_box_here", "_law_turn", "_law_pact_here", "_law_road_here", "_law_head", "_law_came", "_law_more"] ["_law_script"] (zai sLaw):=sco
theorem ok_Law(F:Fun K "law" "law" sLaw f fd)(b:Binds K fd ["_law_script"] [])(m:mg "law" = aa (.ref f))(T:Txt mg)(t:TxC K cl)(e:FnC P w K mg base cl "Road" 3 2 zei)(l:FnM P w K mg base cl "Road" "do" 11 2 zaY)(d:FnX P w K mg base cl "_law_any_head" 3 2 zc0)(n:FnX P w K mg base cl "_law_box" 1 1 zh5)(c:FnX P w K mg base cl "_law_next_head" 3 4 zcz)(o:FnX P w K mg base cl "_law_of" 2 2 zaK)(a:FnX P w K mg base cl "_law_road_pact" 6 2 zcy)(g:FnX P w K mg base cl "_law_step" 13 4 zfG):FnOk P w K mg base CX0 14 f fd ["_law_script"] (spD K cl X0 1 zn8) :=
 have h:=fnO (P:=P) (w:=w) (mg:=mg) (base:=base) (cl:=cl) (k:=13) F scLaw rfl fun cdv A outer s H E hr=>
  (zag (zan (i:=1) scLaw.nd rfl (ybc rfl) (qfn n hr (zaa (zab 0) zaf)))
  (zag (zc9 PassesOwn.never rfl (ze2 (by rfl) T.range (zaa zae zaf)) (zap (i:=2) scLaw.nd rfl (ybc rfl))
  (zag (zan (i:=3) scLaw.nd rfl (ybc rfl) (qfn a hr (zaa (zab 1) (zaa zae zaf))))
  (zag (zvc (i:=4) (j:=5) (k:=6) rfl scLaw.nd rfl rfl rfl (by decide) (by decide) (by decide) rfl rfl rfl (zaa (zmm e rfl (hr.mono (by decide)) rfl (zaa (zab 3) zaf) (aCons_len aNil_len)) (zaa (qfn d hr (zaa (zab 1) (zaa (qxi hr (zab 3) zae) zaf))) (zaa (zdh zaf) zaf))) rfl)
  (zah (zc9 PassesOwn.never rfl (ze2 (by rfl) T.range (zaa (qfn o hr (zaa (zab 1) (zaa (zbn (zaa zae (zaa zae (zaa zae zaf)))) zaf))) zaf)) (zap (i:=7) scLaw.nd rfl (ybc rfl))
  (zag (za4 (zbe l (zab 4) t.cRoad rfl (hr.mono (by decide)) (zaa (zaF (zaa zat (zaa (zab 5) zaf))) zaf) (aCons_len aNil_len)))
  (zag (zan (i:=5) scLaw.nd rfl (ybc rfl) (qfn c hr (zaa (zab 1) (zaa (qxi hr (zab 3) zae) (zaa (zab 5) (zaa zae zaf))))))
  (zah (zaG (zeG (zbJ (qfn g hr (zaa (zab 1) (zaa (zab 3) (zaa (zab 4) (zaa (zab 6) zaf)))))))
  (zah (zak zgV))
  zao)))))))))
  (zah (zak zgV))))
 h
end
end K61
namespace K61
open PySem L2 MD
theorem zrt{ns:List Int}(h:ns.length<=63):∃a m,zn8 [.scr (ns.map D.int)] [] = .ok a m/\a = .bl ac:=zmL h
end K61
namespace K61
open PySem PyProof.Rows L2 MD PySem.W.Fast
variable{α β γ δ : Type}{f f' g:α -> β -> γ -> δ}{x:α}{y : β}
theorem trH{g':α -> β -> γ -> δ}(a:f=f')(c:g=g'){w : γ}(b:f' x y w=g' x y w):f x y w=g x y w:=by rw[a,c];exact b
theorem trL(a:f=f'){w : γ}(b:f' x y w=g x y w):f x y w=g x y w:=by rw[a];exact b
theorem hm8(w:al):hl8 nms pw w=hr8 nms pw w:=trL te17495219738850224792 (hlq8 w)
theorem hm9(w:al):hl9 f9 pw w=hr9 f9 pw w:=trL te2726591205689996960 (hlq9 w)
theorem hm10(w:al):hl10 rw0 pw w=hr10 rw0 pw w:=trL te4636159222459416559 (hlq10 w)
theorem hm11(w:al):hl11 rw0 pw w=hr11 rw0 pw w:=trL te17183613848514626865 (hlq11 w)
theorem hm12(w:al):hl12 rw0 pw w=hr12 rw0 pw w:=trL te15891296914842120544 (hlq12 w)
theorem hm13(w:al):hl13 rw0 pw w=hr13 rw0 pw w:=trL te15234666797896824903 (hlq13 w)
theorem hm14(w:al):hl14 rw0 pw w=hr14 rw0 pw w:=trL te6268427496644537144 (hlq14 w)
theorem hm15(w:al):hl15 rw0 pw w=hr15 rw0 pw w:=trL te15446270011240247514 (hlq15 w)
theorem hl:PySem.W.LeftO pw vw [] xt (fun s=>obs (Kof 802 s.heap)) (fun _=>expd) 10996:=fun w=>zr5 (f:=fun s=>ydI vw [] (b9 pw.main.body) xt ac s) (g:=obs) (n:=802) (both (parts4 35 (trH te16140211473283771311 te17269855166828163270 (hlq0 w)) (trH te3589369121551157240 te7793024481227461866 (hlq1 w)) (trH te4545215133047887641 te14921157785286241721 (hlq2 w)) (trH te5788585514313087585 te2749951675126454118 (hlq3 w)) (trH te12246697952509298280 te11235457928483082905 (hlq4 w)) (trH te5455563757325711857 te12425348200049251486 (hlq5 w)) (trH te14751662287860672495 te3854048243533498601 (hlq6 w)) (trH te5489965531829110051 te16615192363285228656 (hlq7 w))) (both4 (hm8 w) (hm9 w) (zrC (zrC (zrC (zrC (zrC (hm10 w) (hm11 w)) (hm12 w)) (hm13 w)) (hm14 w)) (hm15 w))))
theorem all_mk{l:yb8}{w:al}{K:ye}{h:ax}{mg:ae->Option af}{fa:ad}(y:obs K=expd)(X:K.In h)(G:h.Ns aD mg)(hfa:mg "law" = aa (.ref fa)) : ∃fd:aH,(∀(s:aj)(v:af),bC s fd ⟨[v],[]⟩ [("_law_script", v)])/\∀base:ax,K.In base->base.Ns aD mg->FnOk l.prog w K mg base CX0 14 fa fd ["_law_script"] (spLaw K):=by
 have Y:nms.map (yca K aD)=nmsE:=congrArg (fun x=>x.1) y;have S:fnd.map (fun p=>yam K (.ref p.1) p.2)=fndE:=congrArg (fun x=>x.2.1) y;have y3:fns.map (fnV K)=fnsE:=congrArg (fun x=>x.2.2.1) y;have y4:bls K=blsE:=congrArg (fun x=>x.2.2.2) y;have n:∀(i:Nat){x:ae}{v:af},nms[i]?=aa x->nmsE[i]?=aa (aa (aa v))->mg x=aa v:=fun i _ _ a b=>yaT X G (ziO Y i a b);have o:∀(i:Nat){x:ae},nms[i]?=aa x->nmsE[i]?=aa (aa ab)->mg x=ab:=fun i _ a b=>PySem.W.mg_none_of X G (ziO Y i a b);have u:∀(st:am)(i:Nat){a:ad}{x q:ae},fns[i]?=aa a->fnsE[i]?=aa (fnE x q st)->∃fd,Fun K x q st a fd:=fun st i _ _ _ a b=>fun_of (st:=st) (ziO y3 i a b);have e:=hfa.symm.trans (n 55 rfl rfl);cases e;have T:Txt mg:=⟨o 62 rfl rfl,o 63 rfl rfl,o 64 rfl rfl,o 65 rfl rfl,o 66 rfl rfl,o 67 rfl rfl,o 68 rfl rfl,o 69 rfl rfl,o 70 rfl rfl,o 71 rfl rfl,o 72 rfl rfl,o 73 rfl rfl,o 74 rfl rfl,o 75 rfl rfl,o 76 rfl rfl,o 77 rfl rfl,o 78 rfl rfl,o 79 rfl rfl,o 80 rfl rfl,o 81 rfl rfl⟩;obtain⟨cl,c,f,k,m,E,d⟩:∃cl:ae->ad,cl "Presser" = 455/\cl "Reader" = 556/\cl "Road" = 676/\cl "DONE" = 563/\cl "LETTER_DEEDS" = 561/\cl "WORD_DEEDS" = 562:=⟨fun x=>if x = "Presser" then 455 else if x = "Reader" then 556 else if x = "Road" then 676 else if x = "DONE" then 563 else if x = "LETTER_DEEDS" then 561 else if x = "WORD_DEEDS" then 562 else 0,if_pos rfl,(if_neg (by decide)).trans (if_pos rfl),(if_neg (by decide)).trans ((if_neg (by decide)).trans (if_pos rfl)),(if_neg (by decide)).trans ((if_neg (by decide)).trans ((if_neg (by decide)).trans (if_pos rfl))),(if_neg (by decide)).trans ((if_neg (by decide)).trans ((if_neg (by decide)).trans ((if_neg (by decide)).trans (if_pos rfl)))),(if_neg (by decide)).trans ((if_neg (by decide)).trans ((if_neg (by decide)).trans ((if_neg (by decide)).trans ((if_neg (by decide)).trans (if_pos rfl)))))⟩;have L:∀(i:Nat)(b:Bool),(bls K)[i]?=aa b->b=ac:=fun i b hb=>by
  rw[y4]at hb;exact ycq.mp (yai (show (yn 40 ac)[i]?=aa b from hb)) |>.2
 have cPresser:∀(i:Nat){x:ae}{v:Option (Option af)},fnd[i]?=aa (455,x)->fndE[i]?=aa v->yam K (.ref (cl "Presser")) x=v:=fun i _ _ a b=>by rw[c];exact ziO S i a b
 have Q:=L 0 _ rfl;simp only[yac]at Q;obtain⟨⟨⟨⟨z,H⟩,P⟩,M⟩,A⟩:=Q;have cReader:∀(i:Nat){x:ae}{v:Option (Option af)},fnd[i]?=aa (556,x)->fndE[i]?=aa v->yam K (.ref (cl "Reader")) x=v:=fun i _ _ a b=>by rw[f];exact ziO S i a b
 have r:=L 1 _ rfl;simp only[yac]at r;obtain⟨⟨⟨⟨C,I⟩,B⟩,D⟩,F⟩:=r;have cRoad:∀(i:Nat){x:ae}{v:Option (Option af)},fnd[i]?=aa (676,x)->fndE[i]?=aa v->yam K (.ref (cl "Road")) x=v:=fun i _ _ a b=>by rw[k];exact ziO S i a b
 have N:=L 2 _ rfl;simp only[yac]at N;obtain⟨⟨⟨⟨V,hdRoad⟩,U⟩,W⟩,Z⟩:=N;have t:TxC K cl:=⟨(by rw[c];exact⟨z,H,P,(ziO S 0 rfl rfl)⟩),(by rw[f];exact⟨C,I,B,(ziO S 1 rfl rfl)⟩),(by rw[k];exact⟨V,hdRoad,U,(ziO S 2 rfl rfl)⟩),cPresser 3 rfl rfl,cPresser 4 rfl rfl,cPresser 5 rfl rfl,cPresser 6 rfl rfl,cPresser 7 rfl rfl,cReader 8 rfl rfl,cReader 9 rfl rfl,cReader 10 rfl rfl,cRoad 11 rfl rfl,cRoad 12 rfl rfl,cRoad 13 rfl rfl,cRoad 14 rfl rfl,cRoad 15 rfl rfl,cRoad 16 rfl rfl,(by rw[m];exact zsh (L 37 _ rfl)),(by rw[E];exact zsh (L 38 _ rfl)),(by rw[d];exact zsh (L 39 _ rfl))⟩;have ⟨_,F89⟩:=u sLaw 89 rfl rfl;have Fx:=F89;obtain⟨oc,od,kV,doc,pm,an,cdv,ct,osl,rfl,lk,hcd⟩:=Fx.ex;refine⟨ybp "law" "law" (zgq sLaw) (zcs sLaw) (zai sLaw) .none kV doc pm an cdv ct,fun s v=>.of_eq rfl,fun base _ _=>?_⟩;have ⟨_,F34⟩:=u zd6 34 rfl rfl;have g34:=ziu l.prog w base F34 F34.bindA (by rw[c];exact yaT X G (ziO Y 56 rfl rfl)) (by rw[c];exact⟨M,(ziO S 17 rfl rfl),L 3 _ rfl,A⟩) T t;have ⟨_,F48⟩:=u zeW 48 rfl rfl;have g48:=zjV l.prog w base F48 F48.bindA (by rw[f];exact yaT X G (ziO Y 57 rfl rfl)) (by rw[f];exact⟨D,(ziO S 29 rfl rfl),L 15 _ rfl,F⟩) T t;have ⟨_,F59⟩:=u zhm 59 rfl rfl;have g59:=zms l.prog w base F59 F59.bindA (by rw[k];exact yaT X G (ziO Y 58 rfl rfl)) (by rw[k];exact⟨W,(ziO S 39 rfl rfl),L 25 _ rfl,Z⟩) T t g34 g48;have ⟨_,F50⟩:=u zdE 50 rfl rfl;have g50:=zhE l.prog w base F50 F50.bindA ⟨cReader 31 rfl rfl,L 17 _ rfl,F50.kp⟩ T t;have ⟨_,F54⟩:=u zdf 54 rfl rfl;have g54:=zgW l.prog w base F54 F54.bindA ⟨cReader 35 rfl rfl,L 21 _ rfl,F54.kp⟩ T t;have ⟨_,F13⟩:=u zhv 13 rfl rfl;have g13:=zmB l.prog w base F13 F13.bindA (n 13 rfl rfl) T t;have ⟨_,F24⟩:=u zmg 24 rfl rfl;have O:=zqZ l.prog w base F24 F24.bindA (n 24 rfl rfl) T t;have ⟨_,F2⟩:=u zhn 2 rfl rfl;have g2:=zmt l.prog w base F2 F2.bindA (n 2 rfl rfl) T t;have ⟨_,F3⟩:=u zf7 3 rfl rfl;have g3:=zkS l.prog w base F3 F3.bindA (n 3 rfl rfl) T t g2;have ⟨_,F10⟩:=u zl9 10 rfl rfl;have R:=zqS l.prog w base F10 F10.bindA (n 10 rfl rfl) T t;have ⟨_,F16⟩:=u zl6 16 rfl rfl;have g16:=zqP l.prog w base F16 F16.bindA (n 16 rfl rfl) T t;have ⟨_,F15⟩:=u zhu 15 rfl rfl;have g15:=zmA l.prog w base F15 F15.bindA (n 15 rfl rfl) T t R g16;have ⟨_,F11⟩:=u zhh 11 rfl rfl;have g11:=zmo l.prog w base F11 F11.bindA (n 11 rfl rfl) T t R;have ⟨_,F12⟩:=u zmj 12 rfl rfl;have g12:=zq1 l.prog w base F12 F12.bindA (n 12 rfl rfl) T t R g11;have ⟨_,F23⟩:=u zf1 23 rfl rfl;have g23:=zkM l.prog w base F23 F23.bindA (n 23 rfl rfl) T t g12;have ⟨_,F18⟩:=u zjw 18 rfl rfl;have g18:=zoP l.prog w base F18 F18.bindA (n 18 rfl rfl) T t;have ⟨_,F19⟩:=u zl5 19 rfl rfl;have g19:=zqO l.prog w base F19 F19.bindA (n 19 rfl rfl) T t g13 g18;have ⟨_,F22⟩:=u zmc 22 rfl rfl;have g22:=zqV l.prog w base F22 F22.bindA (n 22 rfl rfl) T t g15 g3 g23 g19;have ⟨_,F56⟩:=u zcN 56 rfl rfl;have g56:=zge l.prog w base F56 F56.bindA ⟨cReader 37 rfl rfl,L 23 _ rfl,F56.kp⟩ T t g54 g13 O g3 g22;have ⟨_,F55⟩:=u zd4 55 rfl rfl;have g55:=zis l.prog w base F55 F55.bindA ⟨cReader 36 rfl rfl,L 22 _ rfl,F55.kp⟩ T t g54;have ⟨_,F52⟩:=u zd3 52 rfl rfl;have g52:=zir l.prog w base F52 F52.bindA ⟨cReader 33 rfl rfl,L 19 _ rfl,F52.kp⟩ T t;have ⟨_,F53⟩:=u zdD 53 rfl rfl;have g53:=zhD l.prog w base F53 F53.bindA ⟨cReader 34 rfl rfl,L 20 _ rfl,F53.kp⟩ T t g52;have ⟨_,F47⟩:=u zf2 47 rfl rfl;have g47:=zkN l.prog w base F47 F47.bindA (n 35 rfl rfl) T t;have ⟨_,F57⟩:=u zeU 57 rfl rfl;have g57:=zjT l.prog w base F57 F57.bindA ⟨cReader 38 rfl rfl,L 24 _ rfl,F57.kp⟩ T t g52 g47;have ⟨_,F17⟩:=u zjG 17 rfl rfl;have g17:=zoZ l.prog w base F17 F17.bindA (n 17 rfl rfl) T t;have ⟨_,F0⟩:=u zjH 0 rfl rfl;have g0:=zo0 l.prog w base F0 F0.bindA (n 0 rfl rfl) T t;have ⟨_,F4⟩:=u zhi 4 rfl rfl;have g4:=zmp l.prog w base F4 F4.bindA (n 4 rfl rfl) T t;have ⟨_,F26⟩:=u ze1 26 rfl rfl;have g26:=zj0 l.prog w base F26 F26.bindA (n 26 rfl rfl) T t g4;have ⟨_,F21⟩:=u zl7 21 rfl rfl;have g21:=zqQ l.prog w base F21 F21.bindA (n 21 rfl rfl) T t g19;have ⟨_,F25⟩:=u zf3 25 rfl rfl;have g25:=zkO l.prog w base F25 F25.bindA (n 25 rfl rfl) T t g4;have ⟨_,F27⟩:=u zeX 27 rfl rfl;have g27:=zjW l.prog w base F27 F27.bindA (n 27 rfl rfl) T t g26 O g21 g25;have ⟨_,F29⟩:=u zhk 29 rfl rfl;have g29:=zmq l.prog w base F29 F29.bindA (n 29 rfl rfl) T t g2 g25;have ⟨_,F30⟩:=u zmb 30 rfl rfl;have g30:=zqU l.prog w base F30 F30.bindA (n 30 rfl rfl) T t g0 g26 O g27 g2 g29 g25;have ⟨_,F49⟩:=u zeV 49 rfl rfl;have g49:=zjU l.prog w base F49 F49.bindA ⟨cReader 30 rfl rfl,L 16 _ rfl,F49.kp⟩ T t g56 g55 g53 g52 g57 g17 O g30 g11;have ⟨_,F51⟩:=u zf6 51 rfl rfl;have g51:=zkR l.prog w base F51 F51.bindA ⟨cReader 32 rfl rfl,L 18 _ rfl,F51.kp⟩ T t;have ⟨_,F64⟩:=u zjx 64 rfl rfl;have g64:=zoQ l.prog w base F64 F64.bindA ⟨cRoad 44 rfl rfl,L 30 _ rfl,F64.kp⟩ T t g51;have ⟨_,F70⟩:=u zd2 70 rfl rfl;have g70:=ziq l.prog w base F70 F70.bindA ⟨cRoad 50 rfl rfl,L 36 _ rfl,F70.kp⟩ T t g64 g29;have ⟨_,F69⟩:=u zcC 69 rfl rfl;have g69:=zfs l.prog w base F69 F69.bindA ⟨cRoad 49 rfl rfl,L 35 _ rfl,F69.kp⟩ T t;have ⟨_,F46⟩:=u zl4 46 rfl rfl;have g46:=zqN l.prog w base F46 F46.bindA (n 34 rfl rfl) T t;have ⟨_,F68⟩:=u zeT 68 rfl rfl;have g68:=zjS l.prog w base F68 F68.bindA ⟨cRoad 48 rfl rfl,L 34 _ rfl,F68.kp⟩ T t g49 g70 g69 g46;have ⟨_,F66⟩:=u zdC 66 rfl rfl;have g66:=zhC l.prog w base F66 F66.bindA ⟨cRoad 46 rfl rfl,L 32 _ rfl,F66.kp⟩ T t (by rw[m];exact yaT X G (ziO Y 59 rfl rfl)) g68;have ⟨_,F41⟩:=u zcO 41 rfl rfl;have g41:=zgf l.prog w base F41 F41.bindA ⟨cPresser 24 rfl rfl,L 10 _ rfl,F41.kp⟩ T t;have ⟨_,F37⟩:=u zd5 37 rfl rfl;have J:=zit l.prog w base F37 F37.bindA ⟨cPresser 20 rfl rfl,L 6 _ rfl,F37.kp⟩ T t;have ⟨_,F5⟩:=u zjE 5 rfl rfl;have g5:=zoX l.prog w base F5 F5.bindA (n 5 rfl rfl) T t;have ⟨_,F6⟩:=u zf9 6 rfl rfl;have g6:=zkU l.prog w base F6 F6.bindA (n 6 rfl rfl) T t g5;have ⟨_,F8⟩:=u zp2 8 rfl rfl;have g8:=ztx l.prog w base F8 F8.bindA (n 8 rfl rfl) T t;have ⟨_,F9⟩:=u zhs 9 rfl rfl;have g9:=zmy l.prog w base F9 F9.bindA (n 9 rfl rfl) T t g8;have ⟨_,F36⟩:=u zdG 36 rfl rfl;have g36:=zhG l.prog w base F36 F36.bindA ⟨cPresser 19 rfl rfl,L 5 _ rfl,F36.kp⟩ T t g41 J g6 g9;have ⟨_,F67⟩:=u zeS 67 rfl rfl;have g67:=zjR l.prog w base F67 F67.bindA ⟨cRoad 47 rfl rfl,L 33 _ rfl,F67.kp⟩ T t (by rw[m];exact yaT X G (ziO Y 59 rfl rfl)) g36;have ⟨_,F7⟩:=u zjF 7 rfl rfl;have g7:=zoY l.prog w base F7 F7.bindA (n 7 rfl rfl) T t g6;have ⟨_,F14⟩:=u zmf 14 rfl rfl;have g14:=zqY l.prog w base F14 F14.bindA (n 14 rfl rfl) T t g13 g8 g7;have ⟨_,F39⟩:=u zcQ 39 rfl rfl;have g39:=zgh l.prog w base F39 F39.bindA ⟨cPresser 22 rfl rfl,L 8 _ rfl,F39.kp⟩ T t g14;have ⟨_,F33⟩:=u zea 33 rfl rfl;have g33:=ziy l.prog w base F33 F33.bindA (n 33 rfl rfl) T t;have ⟨_,F38⟩:=u zcP 38 rfl rfl;have g38:=zgg l.prog w base F38 F38.bindA ⟨cPresser 21 rfl rfl,L 7 _ rfl,F38.kp⟩ T t g33;have ⟨_,F45⟩:=u zcg 45 rfl rfl;have g45:=ze4 l.prog w base F45 F45.bindA ⟨cPresser 28 rfl rfl,L 14 _ rfl,F45.kp⟩ T t J;have ⟨_,F44⟩:=u zcE 44 rfl rfl;have g44:=zfu l.prog w base F44 F44.bindA ⟨cPresser 27 rfl rfl,L 13 _ rfl,F44.kp⟩ T t J;have ⟨_,F43⟩:=u zbX 43 rfl rfl;have g43:=zey l.prog w base F43 F43.bindA ⟨cPresser 26 rfl rfl,L 12 _ rfl,F43.kp⟩ T t J;have ⟨_,F32⟩:=u ze0 32 rfl rfl;have g32:=zjZ l.prog w base F32 F32.bindA (n 32 rfl rfl) T t;have ⟨_,F1⟩:=u zmh 1 rfl rfl;have g1:=zq0 l.prog w base F1 F1.bindA (n 1 rfl rfl) T t;have ⟨_,F20⟩:=u zma 20 rfl rfl;have g20:=zqT l.prog w base F20 F20.bindA (n 20 rfl rfl) T t g1 R g19;have ⟨_,F31⟩:=u zp3 31 rfl rfl;have g31:=zty l.prog w base F31 F31.bindA (n 31 rfl rfl) T t g32 g22 g20;have ⟨_,F40⟩:=u zch 40 rfl rfl;have g40:=ze5 l.prog w base F40 F40.bindA ⟨cPresser 23 rfl rfl,L 9 _ rfl,F40.kp⟩ T t g38 g45 g44 g43 g31;have ⟨_,F42⟩:=u zcD 42 rfl rfl;have g42:=zft l.prog w base F42 F42.bindA ⟨cPresser 25 rfl rfl,L 11 _ rfl,F42.kp⟩ T t g40 g27;have ⟨_,F28⟩:=u zho 28 rfl rfl;have g28:=zmu l.prog w base F28 F28.bindA (n 28 rfl rfl) T t g1 g17 g26 O g20 R g25;have ⟨_,F35⟩:=u zdF 35 rfl rfl;have g35:=zhF l.prog w base F35 F35.bindA ⟨cPresser 18 rfl rfl,L 4 _ rfl,F35.kp⟩ T t g39 J g42 g28;have ⟨_,F65⟩:=u zhl 65 rfl rfl;have g65:=zmr l.prog w base F65 F65.bindA ⟨cRoad 45 rfl rfl,L 31 _ rfl,F65.kp⟩ T t g35 J;have ⟨_,F58⟩:=u zht 58 rfl rfl;have g58:=zmz l.prog w base F58 F58.bindA (n 36 rfl rfl) T t g5 g9;have ⟨_,F60⟩:=u zl8 60 rfl rfl;have g60:=zqR l.prog w base F60 F60.bindA ⟨cRoad 40 rfl rfl,L 26 _ rfl,F60.kp⟩ T t (by rw[m];exact yaT X G (ziO Y 59 rfl rfl)) (by rw[E];exact yaT X G (ziO Y 60 rfl rfl)) (by rw[d];exact yaT X G (ziO Y 61 rfl rfl)) g50 g66 g67 g65 g58 g9;have ⟨_,F72⟩:=u zjB 72 rfl rfl;have j:=zoU l.prog w base F72 F72.bindA (n 38 rfl rfl) T t;have ⟨_,F74⟩:=u zhp 74 rfl rfl;have g74:=zmv l.prog w base F74 F74.bindA (n 40 rfl rfl) T t j;have ⟨_,F81⟩:=u zeZ 81 rfl rfl;have g81:=zjY l.prog w base F81 F81.bindA (n 47 rfl rfl) T t g74;have ⟨_,F71⟩:=u zme 71 rfl rfl;have g71:=zqX l.prog w base F71 F71.bindA (n 37 rfl rfl) T t;have ⟨_,F82⟩:=u zd9 82 rfl rfl;have g82:=zix l.prog w base F82 F82.bindA (n 48 rfl rfl) T t;have ⟨_,F73⟩:=u zp1 73 rfl rfl;have g:=ztw l.prog w base F73 F73.bindA (n 39 rfl rfl) T t j;have ⟨_,F83⟩:=u zd8 83 rfl rfl;have g83:=ziw l.prog w base F83 F83.bindA (n 49 rfl rfl) T t g82 j g;have ⟨_,F84⟩:=u zf8 84 rfl rfl;have g84:=zkT l.prog w base F84 F84.bindA (n 50 rfl rfl) T t j g;have ⟨_,F77⟩:=u zmd 77 rfl rfl;have g77:=zqW l.prog w base F77 F77.bindA (n 43 rfl rfl) T t j g74;have ⟨_,F78⟩:=u zjD 78 rfl rfl;have g78:=zoW l.prog w base F78 F78.bindA (n 44 rfl rfl) T t g g77;have ⟨_,F79⟩:=u zjz 79 rfl rfl;have g79:=zoS l.prog w base F79 F79.bindA (n 45 rfl rfl) T t g;have ⟨_,F75⟩:=u zjC 75 rfl rfl;have g75:=zoV l.prog w base F75 F75.bindA (n 41 rfl rfl) T t j g g74;have ⟨_,F76⟩:=u zhq 76 rfl rfl;have g76:=zmw l.prog w base F76 F76.bindA (n 42 rfl rfl) T t g75 j g;have ⟨_,F80⟩:=u zjA 80 rfl rfl;have g80:=zoT l.prog w base F80 F80.bindA (n 46 rfl rfl) T t g78 g g79 g76;have ⟨_,F85⟩:=u zd7 85 rfl rfl;have g85:=ziv l.prog w base F85 F85.bindA (n 51 rfl rfl) T t g84 j g g80;have ⟨_,F61⟩:=u zd1 61 rfl rfl;have g61:=zio l.prog w base F61 F61.bindA ⟨cRoad 41 rfl rfl,L 27 _ rfl,F61.kp⟩ T t;have ⟨_,F62⟩:=u zf4 62 rfl rfl;have g62:=zkP l.prog w base F62 F62.bindA ⟨cRoad 42 rfl rfl,L 28 _ rfl,F62.kp⟩ T t;have ⟨_,F63⟩:=u zf5 63 rfl rfl;have g63:=zkQ l.prog w base F63 F63.bindA ⟨cRoad 43 rfl rfl,L 29 _ rfl,F63.kp⟩ T t;have ⟨_,F86⟩:=u zeY 86 rfl rfl;have g86:=zjX l.prog w base F86 F86.bindA (n 52 rfl rfl) T t;have ⟨_,F87⟩:=u zhr 87 rfl rfl;have g87:=zmx l.prog w base F87 F87.bindA (n 53 rfl rfl) T t g60 g63 g61 g86 g;have ⟨_,F88⟩:=u zjy 88 rfl rfl;have g88:=zoR l.prog w base F88 F88.bindA (n 54 rfl rfl) T t g60 g61 g62 g87 j g;have g89:=ok_Law l.prog w base F89 F89.bindA (n 55 rfl rfl) T t g59 g60 g81 g71 g83 g g85 g88;exact MD.law_fn g89 fun _ h=>zrt h
theorem ws:yef ycb=ac:=by
 delta yef
 repeat' (first | with_reducible refine PySem.W.look_both ?_ ?_ | delta PySem.W.OpenRow.wellSaid | delta PySem.W.OpenRow.partSaid | delta PySem.W.looksOpen)
 all_goals decide +kernel
end K61
open PySem PySem.W PyProof.Rows
set_option maxRecDepth 100000 in
theorem PySem.Challenge.cw_shorthead_k61_whole_read_within_skips_holds : PySem.Challenge.rw_shorthead_k61_whole_read_within_skips.Holds := by
 w_on
 refine PySem.W.holds_law K61.ws fun said => ?_
 refine PySem.W.holds_openX (q := K61.vw) (loose := []) (Xt := K61.xt) (XP := PySem.W.XL K61.vw []) (Yf := fun s => K61.obs (MD.Kof 802 s.heap)) (Ya := fun _ => K61.expd) (N := 10996) K61.hl (fun s e => PySem.W.xl_of s (Bool.and_eq_true_iff.mp e).1) PySem.W.XL.keeps (by rfl) (by rfl) (by rfl) (fun s e => PySem.W.recFacts_of (Bool.and_eq_true_iff.mp e).2) (by rfl) (by first | assumption | decide +kernel) (by decide +kernel) ⟨rfl, rfl, rfl, rfl, rfl, by decide +kernel⟩ ?hw ?hc
 case hw => w_witness2
 case hc => exact MD.walk_ofY (l := PySem.Challenge.rw_shorthead_k61_whole_read_within_skips) (n := 63) (k := 14) (x := "_law_script") (CX := L2.CX0) (sp := MD.spLaw) rfl (by decide) rfl ⟨rfl, by decide, by decide, rfl⟩ (fun K y w mg fa h X G hmg => K61.all_mk y X G hmg) (fun _ _ a ns hl _ hS => ⟨a, ns, rfl, hS, hl, fun _ => rfl⟩) fun _ _ _ _ z => z
