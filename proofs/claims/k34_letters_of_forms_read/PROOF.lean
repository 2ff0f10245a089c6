import PyProof.Rows.All
import Wide.All
import OpenK.AllK
import Wide.FinOn
import Lean
import PyProof.EqAt
import PyProof.EqKinds
import PyProof.TupleCall
import PySem.Challenge.RW_shorthead_k34_letters_of_forms_read
open PyProof.Rows renaming envOfC->aH,AllBare->aW,assignInOrder_cons->bL,IntsAre->bT,assignInOrder_nil->cj,subscriptTail->cq
open PySem.W renaming Frag->yb,RowW->yA,findIn->yL,isFn->yW,kia_one->yac,nsIn->yaj,emptyDict->yav,keepIn->yaw,instObj->yaE,kitOne->yaF,fnOf->ya3,subIn->ya6,plainGet->ybg,mroIn->ybh,callWith_K->ybi,clsIn->ybn,excIn->ybo,lookIn->ybO,hasDictIn->ybP,methodCall_KW->ybQ,mg_of->yb8,methodObj->ych,plainGet_of->yck,plainOver->ycl,takerIn->ycm,makesIn->ycn,typeIn->yco,cellsFrom_some->ycr,codeIn->ycu,OpenLaw->ycE,handedIn->yc6,specialIn->yc7,takesIn->yc8,kitx_list->yc9,kitx_tuple->yda,kitx_dict->ydb,callWith_K0->yde,codeRec_of->ydg,WalkO->ydo,findObj->ydN,looks_subIn->ydO,ksm_same->ydQ,kdl_dict->ydR,keq_eq->ydS
open Nat renaming le_refl->yc,ne_of_lt->ym,zero_add->yq,le_trans->yx,lt_of_lt_of_le->yB,lt_irrefl->yO,zero_le->yZ,le_of_lt->yah,ne_of_gt->yai,le_of_not_lt->yaI,sub_self->yaM,lt_succ_self->yaS,le_succ->ya1,le_add_right->ybw,lt_or_ge->ybz,not_lt_zero->ybC,lt_of_le_of_lt->ybU,le_succ_of_le->yb4,le_of_eq->ycp,add_sub_cancel_left->ycW,lt_succ_of_lt->ydx,eq_of_beq_eq_true->ydT,pow_le_pow_right->ydV
open List renaming replicate->yd,getElem?_eq_some_iff->ye,length_map->yg,getElem?_eq_getElem->yh,length_append->yj,map_cons->yl,mem_cons->yn,size_toArray->yp,length_cons->yt,range->yw,getElem?_map->yz,mem_append_right->yC,mem_singleton->yE,not_mem_nil->yF,getElem?_append_left->yI,mem_append->yJ,mem_cons_of_mem->yK,mem_of_getElem?->yM,map_append->yN,mem_map->yR,getElem?_append_right->yT,append_assoc->yX,map_map->yY,append_nil->y6,replicate_succ->y7,set_cons_zero->y8,set_cons_succ->y9,length_set->yad,take_of_length_le->yae,getD_eq_getElem?_getD->yaf,mem_cons_self->yan,nodup_cons->yao,length_take->yap,mem_append_left->yau,map_nil->yaz,all_eq_true->yaA,getElem_mem->yaB,length->yaG,lookup_cons->yaJ,filter_cons->yaK,length_range->yaL,mem_filter->yaO,getElem?_set_self->yaQ,lookup->yaR,foldl_cons->yaT,zipWith->yaW,getElem?_set_ne->yaZ,length_replicate->ya2,flatten_cons->ya4,foldl->ya5,find?_cons->ya7,any_cons->ya8,drop_of_length_le->ya9,mem_map_of_mem->ybe,all_cons->ybm,range'->ybr,take_length->ybs,forIn_cons->ybt,nodup_append->ybu,drop_eq_getElem_cons->ybv,nil_append->ybx,mem_iff_getElem?->ybB,mem_replicate->ybD,getD->ybE,filter_sublist->ybF,mem_range->ybI,filterMap_cons->ybJ,getElem_inj->ybK,set_comm->ybL,of_mem_zip->ybR,length_eq_zero_iff->ybW,sum_append->ybY,mem_of_mem_take->ybZ,drop_zero->yb3,take_append_drop->yb9,length_pos_of_mem->yca,getElem?_range->ycb,take_left'->ycc,set_append_right->ycd,drop_left'->yce,mem_filterMap->ycj,getElem?_replicate->yct,range'_succ->ycG,take_add_one->ycH,forIn_nil->ycL,range_succ->ycO,mem_iff_getElem->ycP,take_append_of_le_length->ycY,getElem?_eq_none->ycZ,drop_drop->yc0,filter_append->yc1,take_succ->yc2,getElem?_take_of_lt->ydf,length_drop->ydi,range_succ_eq_map->ydp,range_eq_range'->ydq,length_filter_le->ydy,singleton_append->ydE,getElem_map->ydF,getElem_range->ydG,take_succ_cons->ydH,eraseIdx_eq_take_drop_succ->ydI,getElem_toArray->ydK,length_pos_iff->ydL,zipWith_cons_cons->ydW,mem_of_mem_drop->ydX,getElem?_cons_zero->ydY,drop_length->yd0,pairwise_map->yd2,filter_cons_of_pos->yd3,filter_cons_of_neg->yd4,map_replicate->yd5,ext_getElem?->yd7,perm_ext_iff_of_nodup->yd9
open PySem.Heap renaming get?_push_of_some->yf,lt_size->yi,get?_push_size->yr,size_push->yS,get?_update_ne->yal,get?_update_other->yay,SameBut->yaP,get?_update_self->ybl,dictOf_iff->ycU,IsTupleIter->ydv
open PySem renaming Spec->yk,Env->yP,mem_of_lookup->ybj,intText?->ybp,boot_len->ybG,call->ybT,Within->ycg,list_append->ydn,seqSlot_of->ydC,Addr->ad,Str->ae,Value->af,Shared->ai,wpAny_bind->aj,Expr->ak,World->al,model->am,Stmt->ao,starEach->ap,Program->aq,Obj->ar,Heap->au,wpAny_pure->av,Pos->aw,Around->ax,backTo->az,wpAny_mono->aA,compareOp->aB,cLine->aC,IsPair->aD,mainGlobals->aE,FuncData->aF,Env->aG,Scope->aI,wpAny_field->aJ,binaryOp->aK,backToKw->aL,keywordEach->aM,assign->aN,Builtin->aO,IsZip->aP,argBest->aQ,wpAny_newObj_type->aR,Keyword->aS,sysModules->aT,swapsWith->aU,assignEach->aV,standAt->aX,wpAny_holding->aY,IsPart->aZ,wpAny_seqItems->a9,bootBuiltins->ba,bindName->bb,foldedSetIterable->bc,valueAt->bd,pyNext->be,sizeLine_eq->bf,bindL->bg,bindC->bh,call_meets->bi,callerA->bj,relabel->bm,atKey->bn,wpAny_truthy_bool->bo,wpAny_standAt->bp,wpAny_rule->bq,attributeBase->br,BindsTo->bu,getItem->bv,wpAny_call_entry->bw,intItems->bz,setFlight->bA,wpAny_execs_nil->bC,swapsWithSole->bD,swappedStores->bE,wpAny_passesOwn->bF,Result->bG,codeAny_mono->bH,NameKind->bI,sliceBounds->bJ,noteFrame->bK,wpAny_pyIter_tuple->bM,behindInMarks->bN,wpAny_Call_Name_kw->bO,callWith->bQ,wpAny_callSpecial?_slot->bR,seqIndex?->bS,wpAny_setField->bU,wpAny_letGo->bW,tupleKind->bX,wpAny_execs_cons->bY,assignInOrder->bZ,wpAny_bindName->b5,letOwnedTupleGo->b6,cellsFrom->b7,typeIs_int->b8,seqItems?->b9,wpAny_setField_rec->ca,wpAny_tryCatch->cb,builtinsNs->cc,wpAny_pyIter_list->cd,wpAny_call->ce,wpAny_comprehension_free->cf,tupleKind_room_in1->cg,plainId_quiet->ci,noFill_tuple_add->cm,seq_tuple_add->cp,wpAny_onRaise->cr,wpAny_pyIter_enum->cu,wpAny_pyIter_zip->cv,codeAny_builtin->cw,wpAny_updateSeq->cx,wpAny_newFunctionEnv_cells->cy,wpAny_binaryOp_repeat_ref->cz
open PySem.Value renaming ref->yo,none->yab,type->yat,int->yaD,str->yaY,bool->ybf,float->ycf
open Bool renaming false_ne_true->yu,and_eq_true->yy,or_eq_true->ybq,false_eq_true->ybA,eq_iff_iff->ybM,false_or->ycK,or_eq_false_iff->ycT,and_eq_true_iff->yeb,true->ac,false->ag
open Or renaming inl->yD
open Option.some renaming inj->yG,injEq->yaq
open PySem.Str renaming ofString->yH,ofString_eq_toList->ydU
open Int renaming emod_nonneg->yQ,emod_lt_of_pos->yV,mul_comm->yas,toNat_natCast->yax,emod_eq_of_lt->yaN,mul_assoc->yaX,zero_add->ybc,pow_succ->ybd,le_refl->yb6,add_mul->ycI,zero_mul->ycX,mul_le_mul_of_nonneg_right->ydw,emod_add_mul_ediv->ydZ,mul_le_mul_of_nonneg_left->yd1,toNat_of_nonneg->yd6
open PySem.Builtin.Str renaming strSliceIndices->yU,occurrences->ybN
open Sum renaming inl->yaa,inr->yam
open Option renaming getD_some->yag,map_eq_some_iff->yak,bind_some->yar,map_some->yaC,bind_eq_some_iff->yby,isSome_map->yb0,isSome_iff_exists->ycs,isSome_some->ycJ,getD_none->ydj,isSome_none->yd8,some->aa
open PySem.Obj renaming mapSeq->yaH,mapFields->yaU,data_mapFields->ydt
open PySem.F renaming plain_max_loop->yaV,slot_tuple_iterator_next->ybX,slot_zip_next->yb1,slot_tuple_mul->yb2,slot_int_rmul->yb5,slot_tuple_add->ycv,entry_tuple_add->ycw,args_tuple_add_2->ycx,entry_max_loop->ycR,entry_list_append->ydl,args_list_append_2->ydm,entry_tuple_iterator_next->ydr,args_tuple_iterator_next_1->yds,slot_dict_pop->ydz,args_object_init_3->ydB,slot_tuple_index->ydJ
open Array renaming length_toList->ya0,getElem?_eq_some_iff->yb7,toList->yci,getElem?_toList->ycD,ext'->ycM,getElem?_setIfInBounds->ycQ
open Classical renaming choose->yba,choose_spec->ybb
open PySem.Builtin.Tuple renaming tupleExact->ybk,tupleItemsOf->ycz,tupleTooMany->ycN
open Sum.inl renaming inj->ybH
open PySem.Builtin.Slice renaming slicePlaces->ybS,sliceAdjust->ycy,sliceApplied->ydh
open PySem.Challenge renaming rw_shorthead_k34_letters_of_forms_read->ybV
open PySem.Around renaming under->ycq,under_plainId->ycS
open PySem.Calls renaming callWith_builtin->ycA,evalArgs_plain->ycB,Name_function_global->yc4,spliced_nil->ydc,spliced_cons->ydd
open PySem.Builtin.List renaming listTooLong->ycC
open PySem.Walks renaming list->ycF
open Prod.mk renaming injEq->ycV
open List.Perm renaming refl->yc3
open PySem.Builtin.Range renaming rangeSize->yc5,rangeFitsLong->ydD
open PySem.IsL renaming update->ydk
open PySem.Heap.SameBut renaming update->ydu
open PySem.Heap.DictOf renaming new->ydA
open PySem.Builtin.Int renaming intBits->ydM
open PySem.Builtin.Builtins renaming bindParams->ydP
open PySem.W.OpenLaw renaming wellSaid->yea
local macro_rules | `(tactic| walk_at $s:str) => do
  let c := s.getString
  if !c.startsWith "#" then Lean.Macro.throwUnsupported
  let J := fun (x : String) => Lean.mkIdent x.toName
  let tb := ("0zaj 0zaf !}_, 2eFn 0zae 2zac 2zaa !jA 06 !'% 0rfl !QA !Q> 04 !'I !j> !=% 05 1zaE !IA !jp !s=zE !!! 03 07 3qfn !j9 !Ys1 02 !## 01 !Q9 3eOp 0za0 08 09 !I> !sH( !v}z> !j/ 010 !gA 1gN !qz- !g9 !Qp 1zab !(Q !Ip !(; !j3 !Q/ !j* !CzU 2zan !Cz? !!M !gp !v}zL !!D !}czY 0!b2 !}`zJ !jE !0p !sgp 012 !'j !zAsH !$b 1zad 0zax !whC !CzH !}azR !wUt! 00 2zag !g> !s=z- !N> !}h& !Q* !zFzG !zMM !wU& 011 013 !v}zC !}dz] !lt% !$; !&s& 4zak 2zaA 5zat 0zc6 !sms2 !'Z !0A !}e5 !s1m !4% !u8t^ !#k !tlu9 1zai 1zaG !(& !sHR !CzS !MA !R> !R9 !$z. !sWxU 0hr 0isD !zKu( !til !g* !t!s& !tjR !t8s& !M> !M9 !'m !%wV 6zaF 1sPu 2!l2 !hQ !tDwT !zNu) !g/ !u6S !![ !tk& !-& !s2u; !}n, !QE !Q3 !zlzm !znv, 3sIf 3!m0 0!b0 1!nd 0scLawOpened.nd 0scLawOneRead.nd !%wi !qxh !CzP !tBA !}bzW !sKt$ !'tB !0/ !xSwW !N9 !sgA !sg> !wkxm !t#sJ !sW> !xZ& !}szu !(h !RE 0zap 1!f4 0eqD 0ltD 2!p2 0$number 5zcQ !gE !}fwT !Yu* !s4sp !M/ !'w$ !snm !L! !%uv !zvzw ![9 !gK !'sY !u<# !nb 0zaQ 0TC.cReader 0neD 0$least 1zbx 0$shape 0$_law_box_here 1j:= 0scLawLetter.nd !Zj !,, !4sl !tj( !zZl !Yur !qz0 !09 ![> !'sB !xjwZ !tB> !Ss+ !sZ[ !=m !lt$ !)5 !x^D !js) !#7 !hs( !}ww[ !Q: !sW9 !sNA !N/ !R* 0$kept 1zb9 1aIt 0zdY 0$turn 3!l3 3zgz 1zcs 3zf3 3!m2 0scLawRead.nd !Ysf !sAp !sWA !7s> !xTu: !g: !r! !tB* !j: !sZ! !g3 !u65 !=sl !0E !_sK !+tm !sftF !v-5 !{#u) !xSw] !x`s2 !wms2 !k7 !NA !$& !a{& !}ysh !z4v. 1i:= 0$Reader 3zgI 0$top 1zbn 0zc5 1zdx 6zbk 0zfx 0zcJ 4!l4 0TC.nReader_highest 0$_law_shape_here 0scLawNextHead.nd !tBp !s?s? !u6s+ !(t! !+v~ !zbzc !R/ !tCzg !/s' !u8xl !t+t` !4) !=sB !u6G ![3 !]L !]sL !uwt_ !urz5 !sKt: !+wV !titF !Yxq !03 !I9 !8! !xju> !jK !{(A !=sY !u-v0 !s1% !whsY !w`t* !Oxa !u8u+ !'w^ !t)! !t)w_ !v/s+ !!S !Ltn !tHu. !s=xh !}z{, !R3 !R: !&? !b& !&# !~!{1 !Tw! !v1wa !~#tC !?# !Twb !#, !Qs) 1zbU 0zaJ 0$held 1n:= 0zew 0zd1 1zde 0$read 0zdf 0$low 1zkS 0inD 0$late 0$far 0ziL 0scOpened.nd 0TC.nReader_held 0scLawBox.nd 0scLawNext.nd 0scLawKind.nd 0scLawShape.nd 0scLawPieces.nd !tC, !Pt9 !tB3 !&& !tB9 !1^ !;w! !Zso !$xo !RA !=S !41 !4sn !s7) !]! !xbA !Zs[ !)t_ !~$* !M: !tp5 !sqz6 !'sn !)% !wc{4 !z7! !u?S !<I !s]> ![/ !1! !xr+ !lwo !xc5 !wdtI !0{5 !sKsI !)^ !tixd ![* ![s) !sr/ ![F !jF !ux{6 !~%S !~'to !sX{7 !xez: !rO !~(wf !<W !sXuy !ti{9 !~)1 !tq^ !u+{: !t^{; !u+^ !s!A !7; !z2xg !q{< !v3N !v4# !(xf !~*{> !9si !~+wg !hs^ !(s( !-sO !z;, !z2{? !s&t# !{A{B !(s, !o& !{Cz< !qz= 1eC 0zcA 0hLawNext 0PassesOwn.never 3eSl 1zbS 0zkg 0za1 0zcL 0zt5 0$whole 0sBad 0zcm 0zbD 2zkA 0zaH 0zj1 0zcD 0$NoLetter 0zaI 0scNumbersOf.nd 8zoJ 0PySem.F.plainAttrs_list 0zjn 0scWidthFor.nd 0hRestOf 0scExpected.nd 0$bound 4zgM 0TC.nReader_pact 1zhZ 5zdz 0zo8 0zpl 0boot_max 0ziO 0zi0 0$_law_k 3znd 0zhP 0zhQ 0$_law_field 0scLawExpected.nd 0scLawBits.nd 0hLawBits 0scLawWhole.nd 0$_law_model 0$_law_late 0$_law_number_here 0$_law_last 0$_law_one !'s+ !sWp !wj] !ut6 !O! !s?# !>s' !,z. !zp6 !soS !gF !6wX !tjwY !x[u7 !}vI !s6x] !'xV !_Y !sM7 1tV 0zbg 0zaz 1xs:= 4zfy 1zcI 0zba 0gtD 0znG 0zbo 0$step 0$with 0$keep 0$ 0zja 0$1 030 0geD 3zeH 0zbu 099 016 0za8 3eIf 2zst 0$blank 0$is_late 0zbi 0$is_far 0zbp 0$head_told 0zaW 0zdc 1zhX 1zd8 0scNumberOf.nd 0zhq 0zqc 0T.int 0boot_int 1ziJ 0PySem.F.slot_list_append 0PySem.F.type_list_append 0zeN 0zeO 4ziH 0$head 0$place 0$value 5!l5 0$form 0$way 0$breadth 5zlg 9ziK 7zfK 1aCons_len 0aNil_len 2QPs.cons 0ziP 0zlx 5ziI 1zlL 0hLawValue 0scLawCheck.nd 0scLawNumber.nd 0hLawCheck 2zq3 1zml 0scLawTake.nd 0scLawParts.nd !zOu) !us] !3& !xSz/ !u,u7 !xktE !}jzf !sW* !}ou7 !0> !xYzo !zquu !w%xn !sL! !z}z~ !xp{! !z3% !tGsY !{$u= !{%t# 3zaN 0hr.units 2gT 0hLawOf 0$own 1!l1 2zdv 0zbV 2eUn 3zov 0zqB 0zrD 0zeg 0zcw 0zbY 0zeA 0zsJ 01000003 0absF 0$seed 0popM 026 020 0zbT 0$str 0$0 0true 0zcv 0zbq 0zaV 0zbI 4zqW 0zbN 0zaX 0zb0 2eOr 0$nearest 0za6 0zi4 0znC 2zrN 0zbO 0zbJ 4zna 0$HeadError 5yMth 0eqT 0zbv 0zcp 1puF 0zcW 0zcl 0zdU 0eqK 025 0$forget 0zbt 0zbZ 0zbP 0T.str 0boot_str 0$field 2zjG 1zkC 0zsp 0T.sum 0boot_sum 0hBreadths 0hWidths 0hNumbersOf 0hWidthFor 0hFormAt 0ztM 0ztW 2qe_or 2zjH 0hReaderLeast 0$self 0$other 0hReaderNearest 3ztb 1zkG 0zqb 0zmU 0zsq 0T.abs 0boot_abs 0$_law_place 0$_law_breadth 0$_law_way_here 0$_law_many 0$_law_first 0$_law_step 0$_law_times 0scLawWay.nd 0$_law_ways 0scLawRoad.nd 0scLawPact.nd 0$_law_most 0$_law_forms 1zo7 0ztV 0hLawExpected 0scLawWidth.nd 0hLawWidthOf @zoI 1k:= 0hLawWidth 0hLawPieces 0hLawNumber 0$_law_edge 0$_law_one' 0T.list 0$_law_pact_here 0$_law_at 0$_law_written 0$_law_told 0$_law_check_here 0$_law_top 0$_law_head 0$_law_below 0$_law_former 1zkF 0zqa 0hLawTake !zDu( !zTsJ !zd6 !}i, !}m, !$t# !zywh !}xz{ !wlz| !s[s+ !%v~ !%wn !Os5 !{){* !,{- !a{2 !{3u( 1.int 0ixD 3qxi 1Or.inl 1.str 5zal 1zam 1zaq 0_ 0zbb 0zas 0zaB 4zar 0.non 2zaC 5zcE 3zcy 0zdk 0zbc 0zbe 0zdO 2zay 0zdC 1zbd 0zb8 0za3 0zbB 2zci 0zbz 0zbA 0zgf 0$not 0zb6 0zb7 0zce 0zd0 0$pact 5zb5 1.bl 1N0:= 7!a7 0!b4 0!b1 1.inl 0zcC 0zeK 3zbL 0false 0$highest 3zcP 0zaY 0zcx 0T.len 0PySem.boot_len 2zmX 0zle 0zmo 1zf2 0zfM 0zfN 0zfp 0gL1 5zd3 0zn0 4zeq 9zdA 0zdw 0T.max 1hr.mono 5zcF 0$rise 0za5 1zeJ 0ziZ 1Or.inr 1zcY 0zid 0T.tuple 0boot_tuple 0T.range ;zgL 060 040 0!l0 0$twice 0$check 2zoc 0za9 0zaP 2zhY 3zgO 0T.enumerate 1zgN 0zc4 0zet 3zdy 0zjW 0zhd 2aZip 0zcj 0zho 0zdK 0zcS 0strF 041 063 02305843009213693951 018 2gI 07919 0104729 048271 02305843009213693921 069621 02305843009213693907 065537 0$still 0zrv 0199 0$drawn 0$abcdefghijklmnopqrstuvwxyz 0zdJ 0251 01000 0999983 0ze0 039 0361 0400 0zcV 0ze1 1zhI 0zfu 0zb4 0zcT 0zbH 6zqi 0zgq 0zhh 0zbM 0zfv 0dctF 0za7 1aPu 1gPu 0zbh 0mulL 0zpC 0zfw 0zdb 3eSlA 2mkM 0zbX 0zb1 0MD.inD 0zoF 0tkL 0lrF 0lrB 0o34e 0o34c 0o34d 0d33 0a34 0f34 0g34 0scAreBits 8zgP 0T.isi 0scAreBits.nd 0scNumberOf 3!m1 0scNumbersOf 0hNumberOf 0scWidthFor 0zqS 0zm8 0zqU 0hWindowed 0zm9 0scExpected 0hTurned 0zqQ 1zo3 0zro 0zos 0zoq 0zqP 4zr9 0T.zip 0hWidthOf 0zqR 0scOpened 0hExpected 0hValueTold 0zk1 0hAround 0zqT 0zk2 0zjz 0scLetterSize 0scLetterSize.nd 0hSortWidth 0hSizeOf 0hCheckWidth 0scThoseKept 0scThoseKept.nd :zq5 1zkE 0zrK 0T.sorted 0boot_sorted 0zhx 0zgi 0zit 0zhw 0zgt 0scReaderIsFar 0scReaderIsFar.nd 0scReaderHeadTold 0scReaderHeadTold.nd 0hOpened 0zju 0hThoseKept 0scLawBox 3zlh 0QPs.nil 0!b3 0scLawNext 0PySem.F.slot_list_pop 0PySem.F.type_list_pop 0zru 0md_pop 2zs8 0zsV 0scLawValue 0scLawValue.nd 0scLawKind 1zqs 0zup 0T.min 0boot_min 8!l8 9!l9 0scLawShape 0hLawKind 0scLawWay 0scLawForm 0scLawForm.nd 0hLawWay 0scLawRoad 0scLawPact 0hLawShape 0hLawForm 0hLawRoad 0zjy 0scLawExpected 0scLawNextHead 0scLawBits 0zkD 0fd_str 0scLawWidth 0scLawCheck 0scLawNumber 0zjx 0scLawPieces 0scLawLetter 0scLawOpened 0scLawWhole 0scLawTake 6!l6 1.inr 2!a2 7!l7 1znR 0zuq 0boot_list 3ztc 4!a4 0scLawNumbered 0scLawNumbered.nd 0scLawRead 0hLawNumbered 0hLawWhole =zq4 =!l13 >!l14 0hLawOpened 0scLawParts 0scLawOneRead 0ztJ 0ztU 6zta 0hLawLetter 0hLawStays 0hReaderRead.pure 0hLawParts 0hLawSame 0hLawRead 0hReaderTop.toM 1op_eqK 1hu65 0od_eqK 0hReaderKept.toM !,zB !s0zI !s0zQ !zVxi !s0zX !s0z[ !Cz^ !sXz_ !s0z` !}gza !zew# !4v} !zhzi !}kv+ !}lzj !z1zk !xXxW !sTzr !}pzs !}qa !}rzt !Czx !}tI !}uK !x_> !s0zz !,{' !{+xi !u/{. !}{, !}|{/ !}}a !}~{0 !tCsh !3s' !s5xV !z9z8 !~&we !t*{8 !v2G !{=a !t,s(".splitOn " ").toArray
  let v := fun (c : Char) => let n := c.toNat; if n > 92 then n - 36 else if n > 64 then n - 35 else if n > 34 then n - 34 else n - 33
  let rd := fun (cs : List Char) => Id.run do
    let mut o : Array Nat := #[]
    let mut p : Option Nat := none
    for c in cs do
      match p with
      | some q => o := o.push (79 + (q - 79) * 91 + v c); p := none
      | none => if v c < 79 then o := o.push (v c) else p := some (v c)
    return o.toList
  let mut td := rd (c.toList.drop 1)
  let mut o : List String := []
  while !td.isEmpty do
    let e := tb[td.head!]!
    if e.startsWith "!" then td := rd (e.toList.drop 1) ++ td.tail
    else o := e :: o; td := td.tail
  let mut st : List Lean.Term := []
  for e in o do
    let nm := ((e.drop 1).toString)
    let k := (e.toList.head!).toNat - 48
    let as := (st.take k).toArray
    st := st.drop k
    let r : Lean.Term ← (do
      if nm.endsWith ":=" then return ⟨Lean.Syntax.node .none ``Lean.Parser.Term.namedArgument #[Lean.mkAtom "(", J (nm.dropEnd 2).toString, Lean.mkAtom ":=", as[0]!, Lean.mkAtom ")"]⟩
      if nm == "_" then return ← `(_)
      if nm.startsWith "!" then
        match (nm.drop 1).toString with
        | "b0" => return ← `((by decide))
        | "b1" => return ← `((by repeat ( first | exact trivial | refine ⟨ rfl , ?_ ⟩ )))
        | "b2" => return ← `((by rfl))
        | "b3" => return ← `((by simp))
        | "b4" => return ← `((by with_unfolding_all rfl))
        | "nd" => return ← `((by decide +kernel : ($(as[0]!) : List $(J "Str")).Nodup))
        | "m0" => return ← `(have h := $(J "mkx") $(J "P") $(J "w") $(J "base") $(J "cl") $(as[0]!) $(J "F") $(J "b") $(J "m") $(as[1]!) fun $(J "cdv") $(J "A") $(J "outer") $(J "s") $(J "H") $(J "E") $(J "hr") => $(as[2]!); h)
        | "m1" => return ← `(have h := $(J "mkx") $(J "P") $(J "w") $(J "base") $(J "cl") $(as[0]!) $(J "F") $(J "b") $(J "m") $(as[1]!) fun $(J "cdv") $(J "A") $(J "outer") $(J "s") $(J "H") $(J "E") $(J "hr") => $(as[2]!); h.loc)
        | "m2" => return ← `(have h := $(J "mkm") $(J "P") $(J "w") $(J "base") $(J "cl") $(as[0]!) $(J "F") $(J "b") $(J "m") $(as[1]!) fun $(J "cdv") $(J "A") $(J "outer") $(J "s") $(J "H") $(J "E") $(J "hr") => $(as[2]!); h)
        | x => match x.toList.head! with
          | 'l' => return ← `([$as,*])
          | 'a' => return ← `(⟨$as,*⟩)
          | 'p' => if as.size == 2 then return ← `(($(as[0]!), $(as[1]!))) else return ← `(($(as[0]!), $(as[1]!), $(as[2]!)))
          | _ => if x == "f4" then return ← `(fun _ _ _ _ => $(as[0]!)) else if x == "f2" then return ← `(fun _ _ => $(as[0]!)) else if x == "f3" then return ← `(fun _ _ _ => $(as[0]!)) else return ← `(fun _ => $(as[0]!))
      let h : Lean.Term := if nm.startsWith "$" then Lean.Syntax.mkStrLit (nm.drop 1).toString else if (nm.toList.head!).isDigit then Lean.Syntax.mkNumLit nm else if nm.startsWith "." then ⟨Lean.Syntax.node .none ``Lean.Parser.Term.dotIdent #[Lean.mkAtom ".", J (nm.drop 1).toString]⟩ else J nm
      return if k == 0 then h else Lean.Syntax.mkApp h as : Lean.MacroM Lean.Term)
    st := r :: st
  `(tactic| exact $(st.head!))
local macro_rules | `(tactic| erw $s:rwRuleSeq) => `(tactic| (walk_at "w"; rw $s:rwRuleSeq))
local macro_rules | `(tactic| ac_nf) => `(tactic| walk_at "w")
set_option maxHeartbeats 16000000
noncomputable section
set_option Elab.async false
set_option linter.all false
set_option maxRecDepth 100000
namespace AutoP
theorem a0(h:True:=by first | exact .inl rfl | exact .inr rfl | assumption):True:=h
theorem a1(h:True:=by decide):True:=h
theorem a2(h:True:=by intro _;rfl):True:=h
theorem a3(h:True:=by rfl):True:=h
theorem a4(h:True:=by intro _ _ z;simp[*]at z):True:=h
theorem a5(h:True:=by with_unfolding_all rfl):True:=h
theorem a6(h:True:=by decide +kernel):True:=h
theorem a7(h:True:=by intro _ _;rfl):True:=h
theorem a8(h:True:=by repeat first | exact aNil_len | refine aCons_len ?_):True:=h
end AutoP
namespace L2
open PySem PySem.Spec PyProof.Rows
abbrev Key:=Sum Int ae
def zlG:Key->af->Bool
 |.inl k,v=>Value.isInt k v|.inr x,v=>Value.isStrOf x v
def keyH(w:al):Key->Int
 |.inl k=>hashInt k|.inr x=>hashStr w x
theorem za4:∀{k:Key}{v:af},zlG k v=ac->(∃i t,k=yaa i/\v=yaD i t)∨(∃x t,k=yam x/\v=yaY x t)
 |.inl i,v,h=>by
  obtain⟨t,e⟩:=Value.isInt_shape (k:=i) (v:=v) h;exact .inl ⟨i,t,rfl,e⟩
 |.inr x,v,h=>by
  obtain⟨t,e⟩:=Value.isStrOf_shape (x:=x) (v:=v) h;exact .inr ⟨x,t,rfl,e⟩
theorem zpQ(i:Int)(t:Tok):zlG (.inl i) (.int i t)=ac:=by simp[zlG,Value.isInt]
theorem zpP(x:ae)(t:Tok):zlG (.inr x) (.str x t)=ac:=by simp[zlG,Value.isStrOf]
theorem key_ll(a b:Int):decide ((yaa a:Key)=yaa b)=(a==b):=by
 by_cases e:a=b
 ·subst e;simp
 ·have h : ¬ (yaa a:Key)=yaa b:=fun q=>e (ybH q);rw[decide_eq_false h];exact(beq_eq_false_iff_ne.mpr e).symm
theorem key_rr(a b:ae):decide ((yam a:Key)=yam b)=decide (a=b):=by
 by_cases e:a=b
 ·subst e;simp
 ·have h : ¬ (yam a:Key)=yam b:=fun q=>e (Sum.inr.inj q);rw[decide_eq_false h,decide_eq_false e]
theorem key_lr(a:Int)(b:ae):decide ((yaa a:Key)=yam b)=ag:=decide_eq_false (fun q=>nomatch q)
theorem key_rl(a:ae)(b:Int):decide ((yam a:Key)=yaa b)=ag:=decide_eq_false (fun q=>nomatch q)
def zaK(prog:aq)(w:al):PySem.KeyKind prog w Key where
 is:=zlG
 hash:=keyH w
 inj:=fun v a b ha c=>by
  rcases za4 ha with⟨i,t,rfl,rfl⟩|⟨x,t,rfl,rfl⟩
  ·rcases za4 c with⟨j,u,rfl,e⟩|⟨y,u,rfl,e⟩
   ·injection e with e1 _;rw[e1]
   ·exact nomatch e
  ·rcases za4 c with⟨j,u,rfl,e⟩|⟨y,u,rfl,e⟩
   ·exact nomatch e
   ·injection e with e1 _;rw[e1]
 byValue:=fun k v h=>by
  rcases za4 h with⟨i,t,rfl,rfl⟩|⟨x,t,rfl,rfl⟩ <;> rfl
 pyHash:=fun H h=>by
  rcases za4 H with⟨i,t,rfl,rfl⟩|⟨x,t,rfl,rfl⟩
  ·exact wpAny_pyHash_int h
  ·exact wpAny_pyHash_str h
 eqBool:=fun d H h=>by
  rcases za4 d with⟨i,t,rfl,rfl⟩|⟨x,t,rfl,rfl⟩
  ·rcases za4 H with⟨j,u,rfl,rfl⟩|⟨y,u,rfl,rfl⟩
   ·rw[key_ll]at h;exact wpAny_eqBool_int h
   ·rw[key_lr]at h;exact SeqAt.EqAt.int_str i t y u _ _ _ _ h
  ·rcases za4 H with⟨j,u,rfl,rfl⟩|⟨y,u,rfl,rfl⟩
   ·rw[key_rl]at h;exact SeqAt.EqAt.str_int x t j u _ _ _ _ h
   ·rw[key_rr]at h;exact wpAny_eqBool_str h
 «strs» := fun k x t v h=>by
  rcases za4 h with⟨i,u,rfl,e⟩|⟨y,u,rfl,e⟩
  ·exact nomatch e
  ·injection e with e1 _
   subst e1
   cases v <;> rfl
theorem zlB(prog:aq)(w:al)(i:Int)(t:Tok):(zaK prog w).is (.inl i) (.int i t)=ac:=zpQ i t
theorem zlA(prog:aq)(w:al)(x:ae)(t:Tok):(zaK prog w).is (.inr x) (.str x t)=ac:=zpP x t
inductive V where
 |non | bl (b:Bool) | int (i:Int) | str (x:ae) | byt (b:Array UInt8) | flt (b:UInt64) | ref (a:ad) | ty (n:String)
 deriving DecidableEq
def RelV:V->af->Prop
 |.non,u=>u=yab|.bl b,u=>u=ybf b|.int i,u=>∃t,u=yaD i t|.str x,u=>∃t,u=yaY x t|.byt b,u=>∃t,u=Value.bytes b t|.flt b,u=>∃t,u=ycf b t|.ref a,u=>u=yo a|.ty n,u=>u=yat n
abbrev Vals:List V->List af->Prop:=Paired RelV
variable{xs:List V}{us:List af}
theorem Vals.length(r:Vals xs us):xs.length=us.length:=Paired.length r
theorem Vals.get:∀{xs:List V}{us:List af}{i:Nat}{x:V},Vals xs us->xs[i]?=aa x->∃u,us[i]?=aa u/\RelV x u
 |_,_,_,_,.nil,e=>by simp at e|_,_,0,_,.cons r _,e=>by simp at e;subst e;exact⟨_,rfl,r⟩|_,_,i+1,x,.cons _ t,e=>by
  obtain⟨u,h1,h2⟩:=Vals.get (i:=i) (x:=x) t (by simpa using e);exact⟨u,by simpa using h1,h2⟩
theorem Vals.set{x:V}{u:af}(r:RelV x u):∀{xs:List V}{us:List af}(i:Nat),Vals xs us->Vals (xs.set i x) (us.set i u)
 |_,_,_,.nil=>.nil|_,_,0,.cons _ t=>.cons r t|_,_,i+1,.cons q t=>.cons q (Vals.set r i t)
theorem Vals.append:∀{xs ys:List V}{us ws:List af},Vals xs us->Vals ys ws->Vals (xs++ys) (us++ws)
 |_,_,_,_,.nil,s=>s|_,_,_,_,.cons r t,s=>.cons r (Vals.append t s)
theorem Vals.take:∀{xs:List V}{us:List af}(n:Nat),Vals xs us->Vals (xs.take n) (us.take n)
 |_,_,0,_=>.nil|_,_,_+1,.nil=>.nil|_,_,n+1,.cons r t=>.cons r (Vals.take n t)
theorem Vals.drop:∀{xs:List V}{us:List af}(n:Nat),Vals xs us->Vals (xs.drop n) (us.drop n)
 |_,_,0,r=>r|_,_,_+1,.nil=>.nil|_,_,n+1,.cons _ t=>Vals.drop n t
def RelO:Option V->Option af->Prop
 |some v,aa u=>RelV v u|none,none=>True|_,_=>False
def KV{a : Type}:List (a × V)->List (a × af)->Prop:=Paired fun(p : a × V)(q : a × af)=>p.1=q.1/\RelV p.2 q.2
def kV:Key->V
 |.inl i=>.int i|.inr x=>.str x
inductive HO where
 |lst (xs:List V)
 |tup (xs:List V)
 |dK (kvs:List (Key×V)) | dT (kvs:List (List Key×V))
 |set (S:Int->Bool) (n:Nat)
 |ins (C dx:ad) (fs:List (ae×V))
 |own (x:ad)
 |xd (fs:List (ae×V))
 |met (f x:ad)
 |rng (lo hi:Int)
 |frz (o:ar) (u:HO)
 |tbl (ps:Array af)
 |ext (φ : au->Prop)
abbrev Hp:=ad->Option HO
def upd(H:Hp)(a:ad)(o:HO):Hp:=fun b=>if b=a then aa o else H b
variable{H:Hp}{a:ad}{o:HO}
theorem zaw:upd H a o a=aa o:=by unfold upd;rw[if_pos rfl]
variable{b:ad}
theorem zao(h:b≠a):upd H a o b=H b:=by unfold upd;rw[if_neg h]
theorem ne_of{u:HO}(h:H a=aa o)(h':H b=aa u)(d:o≠u):a≠b:=by
 intro e;subst e;rw[h]at h';exact d (yG h')
theorem zau(h:H a=aa o)(h':H b=none):a≠b:=by
 intro e;subst e;rw[h]at h';cases h'
section
variable(P:aq)(w:al)
def NoD(h:au)(a:ad):Prop:=∃o,h.get? a=aa o/\o.dict=none
def ObjOk(H:Hp)(h:au)(a:ad):HO->Prop
 |.lst xs=>xs.length<=sizeLine/\∃(its:List af)(n:Nat),Vals xs its/\h.get? a=aa { cls := .type "list", data := .seq its.toArray n }|.tup xs=>xs.length<=sizeLine/\∃its:List af,Vals xs its/\IsTup h a its.toArray/\NoD h a|.dK kvs=>kvs.length<=sizeLine/\(a==aT)=ag/\∃vs,KV kvs vs/\h.DictOf (zaK P w) a vs|.dT kvs=>kvs.length<=sizeLine/\(a==aT)=ag/\∃xs:List (List Key×ad×af),
   Paired (fun(p:List Key×V)(q:List Key×ad×af)=>p.1=q.1/\H q.2.1=aa (.tup (p.1.map kV))/\RelV p.2 q.2.2) kvs xs ∧
   ∃o es ep,h.get? a=aa o/\o.ExactDict/\o.data = .dict es ep/\es.toList=xs.map (entryOfKey (bX (zaK P w)))/\(xs.map (·.1)).Nodup
 |.set S n=>h.SetOf (intKind P w) a S n|.ins C dx fs=>H dx=aa (.own a)/\fs.length<=1000/\dx≠a/\h.get? a=aa (yaE C dx) ∧
   ∃mA,h.Ns1 dx mA/\(∀f,RelO (fs.lookup f) (mA f))/\ycg mA (fs.map (·.1))
 |.own _=>∃o,h.get? a=aa o|.xd fs=>∃mA,h.Ns1 a mA/\∀f,RelO (fs.lookup f) (mA f)|.rng lo hi=>∃t u v,h.get? a=aa { cls := .type "range", data := .fields #[.int lo t,.int hi u,.int 1 v] }|.frz o u=>h.get? a=aa o/\ObjOk H h a u|.tbl ps=>h.get? a=aa { cls := .none,data := .fields ps }|.met f x=>h.get? a=aa (ych (.ref f) (.ref x))|.ext φ=> φ h/\(∃o,h.get? a=aa o)/\∀h1 h2:au,φ h1->(∀o,h1.get? a=aa o->h2.get? a=aa o) -> φ h2
def HOk(H:Hp)(h:au):Prop:=∀a o,H a=aa o->ObjOk P w H h a o
end
variable{P:aq}{H':Hp}{h h':au}
section
variable{w:al}
theorem ObjOk.lt(x:ObjOk P w H h a o):a<h.objs.size:=by
 cases o with
 |lst xs=>obtain⟨_,_,_,_,e⟩:=x;exact yi e
 |tup xs=>obtain⟨_,_,_,p,_⟩:=x;exact p.lt
 |dK kvs=>obtain⟨_,_,_,_,o,_,_,e,_⟩:=x;exact yi e
 |dT kvs=>obtain⟨_,_,_,_,o,_,_,e,_⟩:=x;exact yi e
 |set S n=>obtain⟨o,_,_,_,e,_⟩:=x;exact yi e
 |ins C dx fs=>obtain⟨_,_,_,e,_⟩:=x;exact yi e
 |own y=>obtain⟨_,e⟩:=x;exact yi e
 |xd fs=>obtain⟨_,⟨_,_,_,e,_⟩,_⟩:=x;exact yi e
 |rng lo hi=>obtain⟨_,_,_,e⟩:=x;exact yi e
 |frz ob u=>obtain⟨e,_⟩:=x;exact yi e
 |tbl ps=>exact yi (show h.get? a=aa _ from x)|met f y=>exact yi (show h.get? a=aa _ from x)|ext φ=>obtain⟨_,⟨_,e⟩,_⟩:=x;exact yi e
theorem Paired.mapP{α β : Type}{F G:α -> β -> Prop}:∀{l₁ : List α}{l : List β},Paired F l₁ l -> (∀a b,F a b->G a b)->Paired G l₁ l
 |_,_,.nil,_=>.nil|_,_,.cons r t,f=>.cons (f _ _ r) (Paired.mapP t f)
theorem ObjOk.stay(x:ObjOk P w H h a o)(k:∀b u,(b=a∨H b=aa (.own a))->h.get? b=aa u->h'.get? b=aa u)(j:∀b,H b=aa (.own a)->H' b=aa (.own a))(g:∀b xs,H b=aa (.tup xs)->H' b=aa (.tup xs)):ObjOk P w H' h' a o:=by
 induction o with
 |lst xs=>obtain⟨z,its,n,r,e⟩:=x;exact⟨z,its,n,r,k _ _ (.inl rfl) e⟩
 |tup xs=>obtain⟨z,its,r,⟨ob,e,c⟩,od,E,D⟩:=x;exact⟨z,its,r,⟨ob,k _ _ (.inl rfl) e,c⟩,od,k _ _ (.inl rfl) E,D⟩
 |dK kvs=>obtain⟨z,y,vs,r,ob,es,ep,e,c⟩:=x;exact⟨z,y,vs,r,ob,es,ep,k _ _ (.inl rfl) e,c⟩
 |dT kvs=>
  obtain⟨z,y,xs,r,ob,es,ep,e,c⟩:=x;exact⟨z,y,xs,Paired.mapP r fun p q z=>⟨z.1,g _ _ z.2.1,z.2.2⟩,ob,es,ep,k _ _ (.inl rfl) e,c⟩
 |set S n=>obtain⟨ob,es,ep,t,e,c⟩:=x;exact⟨ob,es,ep,t,k _ _ (.inl rfl) e,c⟩
 |ins C dx fs=>
  obtain⟨d,z,ne,e,mA,⟨od,es,ep,l,c⟩,r⟩:=x;exact⟨j _ d,z,ne,k _ _ (.inl rfl) e,mA,⟨od,es,ep,k _ _ (.inr d) l,c⟩,r⟩
 |own y=>obtain⟨ob,e⟩:=x;exact⟨ob,k _ _ (.inl rfl) e⟩
 |xd fs=>obtain⟨mA,⟨od,es,ep,e,c⟩,r⟩:=x;exact⟨mA,⟨od,es,ep,k _ _ (.inl rfl) e,c⟩,r⟩
 |rng lo hi=>obtain⟨t,u,v,e⟩:=x;exact⟨t,u,v,k _ _ (.inl rfl) e⟩
 |frz ob u i=>obtain⟨e,q⟩:=x;exact⟨k _ _ (.inl rfl) e,i q⟩
 |tbl ps=>
  have e:h.get? a=aa { cls := .none,data := .fields ps }:=x;show h'.get? a=aa { cls := .none,data := .fields ps };exact k a _ (.inl rfl) e
 |met f y=>
  have e:h.get? a=aa (ych (.ref f) (.ref y)):=x;show h'.get? a=aa (ych (.ref f) (.ref y));exact k a _ (.inl rfl) e
 |ext φ=>obtain⟨p,⟨o,e⟩,st⟩:=x;exact⟨st _ _ p fun o q=>k _ _ (.inl rfl) q,⟨o,k _ _ (.inl rfl) e⟩,st⟩
theorem HOk.lt(x:HOk P w H h)(e:H a=aa o):a<h.objs.size:=(x a o e).lt
theorem HOk.fresh(x:HOk P w H h)(e:h.objs.size<=a):H a=none:=by
 cases q:H a with
 |none=>rfl|some u=>exact absurd (yB (x.lt q) e) (yO _)
theorem HOk.kept(x:HOk P w H h)(k:∀b u,h.get? b=aa u->h'.get? b=aa u):HOk P w H h':=fun a o e=>
 (x a o e).stay (fun b u _ q=>k b u q) (fun _ q=>q) fun _ _ q=>q
theorem HOk.laid(x:HOk P w H h)(k:∀b u,h.get? b=aa u->h'.get? b=aa u)(hp:h.objs.size<=a)(new:ObjOk P w (upd H a o) h' a o):HOk P w (upd H a o) h':=fun b u e=>by
 have hn:=x.fresh hp;by_cases d:b=a
 ·subst d;rw[zaw]at e;cases e;exact new
 ·rw[zao d]at e;exact(x b u e).stay (fun c v _ q=>k c v q) (fun c q=>by rw[zao (zau q hn)];exact q) fun c xs q=>by rw[zao (zau q hn)];exact q
end
def Rd(H:Hp)(a:ad)(u:HO):Prop:=H a=aa u∨∃o,H a=aa (.frz o u)
theorem Rd.ok{w:al}{u:HO}(r:Rd H a u)(x:HOk P w H h):ObjOk P w H h a u:=by
 rcases r with r|⟨o,r⟩
 ·exact x a u r
 ·obtain⟨_,q⟩:=x a _ r;exact q
def Mut:Option HO->Prop
 |some (.lst _)=>True|some (.dK _)=>True|some (.dT _)=>True|some (.set _ _)=>True|some (.ins _ _ _)=>True|some (.ext _)=>True|_=>False
section
variable{w:al}{x e:ad}{o':HO}
theorem HOk.write(ok:HOk P w H h)(m:Mut (H x))(i:e=x∨H e=aa (.own x))(k:∀b u,b≠e->h.get? b=aa u->h'.get? b=aa u)(g:∃u,h'.get? e=aa u)
  (new:ObjOk P w (upd H x o') h' x o'):HOk P w (upd H x o') h':=fun b u q=>by
 have n:∀c y,H c=aa (.own y)->c≠x:=fun c y r z=>by subst z;rw[r]at m;exact m
 have N:∀c xs,H c=aa (.tup xs)->c≠x:=fun c xs r z=>by subst z;rw[r]at m;exact m
 by_cases f:b=x
 ·subst f;rw[zaw]at q;cases q;exact new
 ·rw[zao f]at q;by_cases a:b=e
  ·have Q:H b=aa (.own x):=by
    rcases i with z|z
    ·exact absurd (a.trans z) f
    ·rw[a];exact z
   rw[q]at Q;cases Q;obtain⟨v,j⟩:=g;exact⟨v,by rw[a];exact j⟩
  ·refine(ok b u q).stay (fun c v d r=>k c v ?_ r) (fun c r=>by rw[zao (n c b r)];exact r) fun c xs r=>by rw[zao (N c xs r)];exact r
   rcases d with rfl|d
   ·exact a
   ·rintro rfl;rcases i with z|z
    ·exact n c b d z
    ·rw[d]at z;cases z;exact f rfl
end
structure Un(fs ex:List ad)(H H':Hp)(h h':au):Prop where
 keep:∀b o,h.get? b=aa o->H b=none->b∉fs->b∉ex->h'.get? b=aa o
 slot:∀b o,h.get? b=aa o->H b=none->b∈fs->b∉ex->∃sl,h'.get? b=aa { o with slots:=sl }
 free:∀b o,h.get? b=aa o->H b=none->b∉ex->H' b=none
 there:∀b o,h.get? b=aa o->b∉ex->∃o',h'.get? b=aa o'
 tups:∀b xs,H b=aa (.tup xs)->H' b=aa (.tup xs)
 frzs:∀b o u,H b=aa (.frz o u)->H' b=aa (.frz o u)
 tbls:∀b ps,H b=aa (.tbl ps)->∃more,H' b=aa (.tbl (ps++more))
section
variable{fs fs' ex ex':List ad}{H1 H2:Hp}{h1 h2:au}{x e:ad}
theorem Un.any(u:Un fs ex H H1 h h1){ob:ar}(q:h.get? b=aa ob)(n:H b=none)(a:b∉ex):∃sl,h1.get? b=aa { ob with slots:=sl }:=by
 by_cases c:b∈fs
 ·exact u.slot b ob q n c a
 ·exact⟨ob.slots,u.keep b ob q n c a⟩
theorem Un.kept(k:∀b u,h.get? b=aa u->h'.get? b=aa u):Un fs ex H H h h' :=
 ⟨fun b ob q _ _ _=>k b ob q,fun b ob q _ _ _=>⟨ob.slots,k b ob q⟩,fun _ _ _ n _=>n,fun b ob q _=>⟨ob,k b ob q⟩,fun _ _ q=>q,fun _ _ _ q=>q,fun _ ps q=>⟨#[],by rw[q];simp⟩⟩
theorem Un.refl:Un fs ex H H h h:=Un.kept fun _ _ q=>q
theorem Un.laid(k:∀b u,h.get? b=aa u->h'.get? b=aa u)(hp:h.objs.size<=a)(hn:H a=none):Un fs ex H (upd H a o) h h' where
 keep:=fun b u q _ _ _=>k b u q
 slot:=fun b u q _ _ _=>⟨u.slots,k b u q⟩
 free:=fun b u q n _=>by rw[zao (ym (yB (yi q) hp))];exact n
 there:=fun b u q _=>⟨u,k b u q⟩
 tups:=fun b xs q=>by rw[zao (zau q hn)];exact q
 frzs:=fun b u xs q=>by rw[zao (zau q hn)];exact q
 tbls:=fun b ps q=>⟨#[],by rw[zao (zau q hn),q];simp⟩
theorem Un.write(m:Mut (H x))(g:e=x∨H e=aa (.own x))(k:∀b u,b≠e->h.get? b=aa u->h'.get? b=aa u)(c:∃u,h'.get? e=aa u):Un fs ex H (upd H x o) h h':=by
 have d:∀b,H b=none->b≠x:=fun b n z=>by subst z;rw[n]at m;exact m
 have f:∀b,H b=none->b≠e:=fun b n z=>by
  subst z;rcases g with r|r
  ·exact d b n r
  ·rw[n]at r;cases r
 have hm:∀b u,H b=aa u -> ¬ Mut (aa u)->b≠x:=fun b u q nm z=>by subst z;rw[q]at m;exact nm m
 refine⟨fun b u q n _ _=>k b u (f b n) q,fun b u q n _ _=>⟨u.slots,k b u (f b n) q⟩,fun b u q n _=>by rw[zao (d b n)];exact n,fun b u q _=>?_,
  fun b xs q=>by rw[zao (hm b _ q fun z=>z)];exact q,fun b u xs q=>by rw[zao (hm b _ q fun z=>z)];exact q,fun b ps q=>⟨#[],by rw[zao (hm b _ q fun z=>z),q];simp⟩⟩
 by_cases a:b=e
 ·subst a;exact c
 ·exact⟨u,k b u a q⟩
end
def trk(h:au)(H:Hp):List ad:=(yw h.objs.size).filter fun a=>(H a).isSome
def zrF(h:au)(H:Hp):au:=PySem.W.hideAll h (trk h H)
theorem zpZ(h:au)(H:Hp):(zrF h H).objs.size=h.objs.size:=PySem.W.hideAll_size _ _
theorem zrE{o:ar}(e:h.get? b=aa o)(n:H b=none):(zrF h H).get? b=aa o :=
 PySem.W.hideAll_get _ e fun hm=>by
  have q:(H b).isSome=ac:=(yaO.mp hm).2;rw[n]at q;simp at q
theorem ztS{o:ar}(e:(zrF h H).get? b=aa o):h.get? b=aa o/\H b=none:=by
 have E:h.get? b=aa o:=PySem.W.of_hideAll (trk h H) e;refine⟨E,?_⟩;cases q:H b with
 |none=>rfl|some x=>
  have hm:b∈trk h H:=yaO.mpr ⟨ybI.mpr (yi E),by simp[q]⟩;have z:(zrF h H).get? b=none:=PySem.W.hideAll_none (trk h H) hm;rw[z]at e;cases e
structure Mod(K:yb)(mg:ae->Option af)(base:au):Prop where
 kin:K.In base
 glob:base.Ns aE mg
 blt:∃mb,base.Ns cc mb/\∀x:ae,x ≠ "__name__" -> mb x=ba x
 nolimit:base.NoLimit
structure Cx where
 prog:aq
 w:al
 K:yb
 mg:ae->Option af
 base:au
 A:ax
 N:List ae
 s₀ : ai
 H₀ : Hp
 env:aG
 outer:List aG
 stack:List aG
 ex:List ad
 fn:ae->Bool
 calm:Bool
 pn:List (ad×ar)
 xe:af->ai->Prop
def frs(l:List aG):List ad:=l.filterMap (·.frame)
abbrev Cx.fs(X:Cx):List ad:=frs X.outer
def Vis(sc:aI)(x:ae):Prop:=sc.names.lookup x=aa .local∨sc.names.lookup x=aa .cell∨sc.names.lookup x=aa .free
def Loc(sc:aI)(x:ae):Prop:=sc.names.lookup x=aa .local∨sc.names.lookup x=aa .cell
def Look(env:aG)(h:au)(m:ae->Option af)(x:ae)(u:af):Prop :=
 (env.kindOf x=aa .local/\m x=aa u)∨((env.kindOf x=aa .cell∨env.kindOf x=aa .free)/\∃c,env.cells.lookup x=aa c/\h.IsCell c (aa u))
structure Cx.Ok(X:Cx):Prop where
 mod:Mod X.K X.mg X.base
 kind:X.env.scope.kind = .function
 glob:X.env.globals=aE
 blt:X.env.builtins=cc
 above:X.s₀.heap.objs.size<=X.env.locals
 inj:∀x y c,X.env.cells.lookup x=aa c->X.env.cells.lookup y=aa c->x=y
 has:∀x,(X.env.kindOf x=aa .cell∨X.env.kindOf x=aa .free)->∃c,X.env.cells.lookup x=aa c
 cab:∀x c,X.fn x=ac->X.env.cells.lookup x=aa c->X.s₀.heap.objs.size<=c
 hd:X.calm=ac->X.A.handled=none
 frames:X.A.frames=aa X.stack
 stk:X.stack=X.outer∨(X.stack=X.env::X.outer/\X.env.frame=aa X.env.locals)
 exf:∀b∈X.ex,b≠X.env.locals/\∀x c,X.env.cells.lookup x=aa c->c≠b
 bs:∀b o,X.base.get? b=aa o->X.s₀.heap.get? b=aa o/\X.H₀ b=none
 bsz:X.base.objs.size<=X.s₀.heap.objs.size
 noex:∀b o,X.base.get? b=aa o->b∉X.ex
 exfs:∀b∈X.ex,b∉X.fs
 funs:X.s₀.heap.FunFrames X.base X.outer
 frf:∀b∈X.fs,X.H₀ b=none
structure Inv(X:Cx)(pins:List (ad×ar))(σ : List (Option V))(H:Hp)(s:ai):Prop where
 ok:X.Ok
 os:s.os=X.s₀.os
 bare:aW s.gens
 base:Un X.fs X.ex X.H₀ H X.s₀.heap s.heap
 loc:∃m,s.heap.Ns X.env.locals m/\∀(i:Nat)(x:ae)(v:V),X.N[i]?=aa x->σ[i]?=aa (aa v)->Vis X.env.scope x->∃u,RelV v u/\Look X.env s.heap m x u
 cell:∀x c,X.env.cells.lookup x=aa c->∃v,s.heap.IsCell c v
 free:H X.env.locals=none
 freeC:∀x c,X.env.cells.lookup x=aa c->H c=none
 pin:∀p∈X.pn++pins,s.heap.get? p.1=aa p.2/\H p.1=none/\p.1≠X.env.locals/\p.1∉X.fs/\∀v,p.2.data ≠ .cell v
 hok:HOk X.prog X.w H s.heap
 len:σ.length=X.N.length
variable{u:af}{x:ae}{X:Cx}{pins:List (ad×ar)}{s:ai}{g':Array GenState}{t':Nat}{d':Drawn}{ch:List ad}{it:ad}{N:List ae}{i j:Nat}{M:Model}{A:ax}{E:af->ai->Prop}{v:V}{s':ai}
section
variable{σ : List (Option V)}
theorem Cx.Ok.nofr(ok:X.Ok){o:ar}(e:X.base.get? b=aa o):b∉X.fs:=fun h=>by
 have:=(ok.funs.mem h).1;rw[e]at this;cases this
theorem Inv.bs(I:Inv X pins σ H s):∀b o,X.base.get? b=aa o->s.heap.get? b=aa o/\H b=none:=fun b o e=>
 ⟨I.base.keep b o (I.ok.bs b o e).1 (I.ok.bs b o e).2 (I.ok.nofr e) (I.ok.noex b o e),I.base.free b o (I.ok.bs b o e).1 (I.ok.bs b o e).2 (I.ok.noex b o e)⟩
theorem Inv.bk(I:Inv X pins σ H s):∀b o,X.base.get? b=aa o->s.heap.get? b=aa o:=fun b o e=>(I.bs b o e).1
theorem Inv.mod(I:Inv X pins σ H s):Mod X.K X.mg X.base:=I.ok.mod
theorem Inv.kIn(I:Inv X pins σ H s):X.K.In s.heap:=I.ok.mod.kin.keeps I.bk
theorem Inv.lt(I:Inv X pins σ H s):X.env.locals<s.heap.objs.size:=let ⟨_,hn,_⟩:=I.loc;hn.lt
theorem Inv.sz(I:Inv X pins σ H s):X.s₀.heap.objs.size<=s.heap.objs.size:=yx I.ok.above (yah I.lt)
theorem Inv.nofs(I:Inv X pins σ H s)(h:s.heap.objs.size<=a):a∉X.fs:=fun c=>by
 obtain⟨_,o,b,_⟩:=I.ok.funs.mem c;exact absurd (yB (yi b) (yx I.sz h)) (yO _)
theorem Inv.cne(I:Inv X pins σ H s):∀x c,X.env.cells.lookup x=aa c->c≠X.env.locals:=fun x c e z=>by
 obtain⟨v,o,b,hd⟩:=I.cell x c e;obtain⟨m,⟨o',es,ep,h,a,_⟩,_⟩:=I.loc;rw[z,h]at b;cases b;rw[a]at hd;cases hd
theorem Inv.funs(I:Inv X pins σ H s):s.heap.FunFrames X.base X.outer:=by
 have all:∀(l:List aG),(∀b∈frs l,b∈X.fs)->X.s₀.heap.FunFrames X.base l->s.heap.FunFrames X.base l:=by
  intro l;induction l with
  |nil=>intro _ _;trivial|cons env r i=>
   intro hs hl;obtain⟨f,⟨L,o,h,hn,d,hd⟩,hr⟩:=hl;have c:L∈X.fs:=hs L (by unfold frs;rw[ybJ,h];exact yan);obtain⟨sl,e⟩:=I.base.slot L o d (I.ok.frf L c) c fun z=>I.ok.exfs L z c;exact⟨f,⟨L,_,h,hn,e,hd⟩,i (fun b a=>hs b (by unfold frs;rw[ybJ,h];exact yK _ a)) hr⟩
 exact all X.outer (fun _ a=>a) I.ok.funs
theorem Inv.stack(I:Inv X pins σ H s):s.heap.FunFrames X.base X.stack:=by
 rcases I.ok.stk with e|⟨e,h⟩
 ·rw[e];exact I.funs
 ·rw[e];obtain⟨m,hn,_⟩:=I.loc;refine .cons (by rw[I.ok.kind];decide) h hn ?_ I.funs;exact Heap.get?_none_of_le (yx I.ok.bsz I.ok.above)
theorem Inv.stkSub(I:Inv X pins σ H s):∀b∈frs X.stack,b∈X.env.locals::X.fs:=fun b h=>by
 rcases I.ok.stk with e|⟨e,a⟩
 ·rw[e]at h;exact yK _ h
 ·rw[e]at h;unfold frs at h;rw[ybJ,a]at h;exact h
theorem Inv.stkFree(I:Inv X pins σ H s):∀b∈frs X.stack,H b=none:=fun b h=>by
 rcases yn.mp (I.stkSub b h) with e|h
 ·rw[e];exact I.free
 ·obtain⟨_,o,a,_⟩:=I.ok.funs.mem h;exact I.base.free b o a (I.ok.frf b h) fun z=>I.ok.exfs b z h
theorem Inv.step(I:Inv X pins σ H s)
  (a:∀b∈ch,(b∈X.ex∨X.s₀.heap.objs.size<=b)/\b≠X.env.locals/\(∀x c,X.env.cells.lookup x=aa c->c≠b)/\∀p∈X.pn++pins,p.1≠b)
  (keep:∀b o,b≠X.env.locals->b∉X.fs->b∉ch->s.heap.get? b=aa o->H b=none->h'.get? b=aa o)
  (slot:∀b o,b≠X.env.locals->b∈X.fs->b∉ch->s.heap.get? b=aa o->H b=none->∃sl,h'.get? b=aa { o with slots:=sl }) (free:∀b o,b∉ch->s.heap.get? b=aa o->H b=none->H' b=none)
  (there:∀b o,b∉ch->s.heap.get? b=aa o->∃o',h'.get? b=aa o')
  (tups:∀b xs,H b=aa (.tup xs)->H' b=aa (.tup xs)) (frzs:∀b o u,H b=aa (.frz o u)->H' b=aa (.frz o u)) (tbls:∀b ps,H b=aa (.tbl ps)->∃more,H' b=aa (.tbl (ps++more)))
  (ns:∀m,s.heap.Ns X.env.locals m->h'.Ns X.env.locals m) (hok:HOk X.prog X.w H' h') (B:aW g') :
  Inv X pins σ H' { s with heap:=h',gens:=g',drawn:=d',toks:=t' }:=by
 have t:∀b o,X.s₀.heap.get? b=aa o->b≠X.env.locals:=fun b o e=>ym (yB (yi e) I.ok.above);have f:∀b o,X.s₀.heap.get? b=aa o->b∉X.ex->b∉ch:=fun b o e h g=>by
  rcases (a b g).1 with z|z
  ·exact h z
  ·exact absurd (yB (yi e) z) (yO _)
 have C:∀x c,X.env.cells.lookup x=aa c->∀v,s.heap.IsCell c v->h'.IsCell c v:=fun x c e v ⟨o,j,hd⟩=>by
  have N:c∉ch:=fun z=>(a c z).2.2.1 x c e rfl;by_cases A:c∈X.fs
  ·obtain⟨sl,q⟩:=slot c o (I.cne x c e) A N j (I.freeC x c e);exact⟨_,q,hd⟩
  ·exact⟨o,keep c o (I.cne x c e) A N j (I.freeC x c e),hd⟩
 refine⟨I.ok,I.os,B,⟨fun b o e n g h=>?_,fun b o e n g h=>?_,fun b o e n h=>?_,fun b o e h=>?_,fun b xs e=>tups b xs (I.base.tups b xs e),fun b o xs e=>frzs b o xs (I.base.frzs b o xs e),fun b ps e=>?_⟩,?_,fun x c e=>?_,?_,fun x c e=>?_,fun p hp=>?_,hok,I.len⟩
 ·exact keep b o (t b o e) g (f b o e h) (I.base.keep b o e n g h) (I.base.free b o e n h)
 ·obtain⟨sl,E⟩:=I.base.slot b o e n g h;obtain⟨S,w⟩:=slot b _ (t b o e) g (f b o e h) E (I.base.free b o e n h);exact⟨S,w⟩
 ·obtain⟨o',E⟩:=I.base.there b o e h;exact free b o' (f b o e h) E (I.base.free b o e n h)
 ·obtain⟨o',E⟩:=I.base.there b o e h;exact there b o' (f b o e h) E
 ·obtain⟨m1,E⟩:=I.base.tbls b ps e;obtain⟨m2,w⟩:=tbls b _ E;exact⟨m1++m2,by rw[w,Array.append_assoc]⟩
 ·obtain⟨m,hn,hl⟩:=I.loc;refine⟨m,ns m hn,fun i x v E w D=>?_⟩;obtain⟨u,r,l⟩:=hl i x v E w D;refine⟨u,r,?_⟩;rcases l with l|⟨k,c,e,z⟩
  ·exact .inl l
  ·exact .inr ⟨k,c,e,C x c e _ z⟩
 ·obtain⟨v,z⟩:=I.cell x c e;exact⟨v,C x c e v z⟩
 ·obtain⟨m,⟨o,_,_,j,_⟩,_⟩:=I.loc;exact free _ o (fun z=>(a _ z).2.1 rfl) j I.free
 ·obtain⟨v,o,j,hd⟩:=I.cell x c e;exact free c o (fun z=>(a c z).2.2.1 x c e rfl) j (I.freeC x c e)
 ·obtain⟨e,n,ne,y,d⟩:=I.pin p hp;have N:p.1∉ch:=fun z=>(a p.1 z).2.2.2 p hp rfl;exact⟨keep p.1 p.2 ne y N e n,free p.1 p.2 N e n,ne,y,d⟩
theorem Inv.un(I:Inv X pins σ H s)(u:Un X.fs [] H H' s.heap h')(hok:HOk X.prog X.w H' h'):Inv X pins σ H' { s with heap:=h',toks:=t' }:=by
 obtain⟨m,⟨o,es,ep,d,r⟩,_⟩:=id I.loc;obtain⟨sl,f⟩:=u.any d I.free (by simp);exact I.step (g':=s.gens) (d':=s.drawn) (ch:=[]) (fun _ z=>nomatch z) (fun b o _ a _ e n=>u.keep b o e n a (by simp)) (fun b o _ a _ e n=>u.slot b o e n a (by simp)) (fun b o _ e n=>u.free b o e n (by simp)) (fun b o _ e=>u.there b o e (by simp)) u.tups u.frzs u.tbls (fun m' hm=>by
  obtain⟨o',E,c,h,R⟩:=hm;rw[d]at h;cases h;exact⟨_,E,c,f,R⟩) hok I.bare
theorem Inv.call(I:Inv X pins σ H s)(u:Un (frs X.stack) ch H H' s.heap h')(hok:HOk X.prog X.w H' h')(j:aW g')(d:∀b∈ch,(b∈X.ex∨X.s₀.heap.objs.size<=b)/\b≠X.env.locals/\(∀x c,X.env.cells.lookup x=aa c->c≠b)/\∀p∈X.pn++pins,p.1≠b) : Inv X pins σ H' { s with heap:=h',gens:=g',drawn:=d',toks:=t' }:=by
 obtain⟨m,⟨o,es,ep,i,r⟩,_⟩:=id I.loc;obtain⟨sl,f⟩:=u.any i I.free fun z=>(d _ z).2.1 rfl;exact I.step (ch:=ch) d (fun b o f k h e n=>u.keep b o e n (fun z=>(yn.mp (I.stkSub b z)).elim f k) h) (fun b o _ _ h e n=>u.any e n h) (fun b o h e n=>u.free b o e n h) (fun b o h e=>u.there b o e h) u.tups u.frzs u.tbls (fun m' hm=>by
  obtain⟨o',E,g,a,R⟩:=hm;rw[i]at a;cases a;exact⟨_,E,g,f,R⟩) hok j
theorem Inv.turned(I:Inv X pins σ H s)(k:∀b o,b≠it->s.heap.get? b=aa o->h'.get? b=aa o)(hn:H it=none)(a:it≠X.env.locals)(h1:it∈X.ex∨X.s₀.heap.objs.size<=it)(i:∀x c,X.env.cells.lookup x=aa c->c≠it)(g:∀p∈X.pn++pins,p.1≠it):Inv X pins σ H { s with heap:=h',toks:=t' }:=by
 have N:∀b u,H b=aa u->b≠it:=fun b u e z=>by rw[z,hn]at e;cases e
 refine I.step (g':=s.gens) (d':=s.drawn) (ch:=[it]) (fun b f=>?_) (fun b o _ _ h e _=>k b o (fun z=>h (by simp[z])) e) (fun b o _ _ h e _=>⟨o.slots,k b o (fun z=>h (by simp[z])) e⟩) (fun _ _ _ _ n=>n)
  (fun b o h e=>⟨o,k b o (fun z=>h (by simp[z])) e⟩) (fun _ _ e=>e) (fun _ _ _ e=>e) (fun b ps e=>⟨#[],by rw[e];simp⟩) (fun m hm=>?_) (fun b u e=>?_) I.bare
 ·have e:b=it:=by simpa using f
  subst e;exact⟨h1,a,i,g⟩
 ·obtain⟨o,es,ep,d,r⟩:=hm;exact⟨o,es,ep,k _ o (Ne.symm a) d,r⟩
 ·refine(I.hok b u e).stay (fun c v h q=>k c v ?_ q) (fun _ q=>q) fun _ _ q=>q;rcases h with z|z
  ·rw[z];exact N b u e
  ·exact N c _ z
theorem Inv.tok(I:Inv X pins σ H s)(t:Nat):Inv X pins σ H { s with toks:=t }:=I.un (h':=s.heap) (t':=t) Un.refl I.hok
theorem Inv.kept(I:Inv X pins σ H s)(k:∀b u,s.heap.get? b=aa u->h'.get? b=aa u):Inv X pins σ H { s with heap:=h',toks:=t' }:=I.un (Un.kept k) (I.hok.kept k)
theorem Inv.laid(I:Inv X pins σ H s)(k:∀b u,s.heap.get? b=aa u->h'.get? b=aa u)(hp:s.heap.objs.size<=a)(new:ObjOk X.prog X.w (upd H a o) h' a o) :
  Inv X pins σ (upd H a o) { s with heap:=h',toks:=t' }:=I.un (Un.laid k hp (I.hok.fresh hp)) (I.hok.laid k hp new)
theorem Inv.write{x e:ad}(I:Inv X pins σ H s)(m:Mut (H x))(a:e=x∨H e=aa (.own x))(k:∀b u,b≠e->s.heap.get? b=aa u->h'.get? b=aa u)(h:∃u,h'.get? e=aa u)
  (new:ObjOk X.prog X.w (upd H x o) h' x o):Inv X pins σ (upd H x o) { s with heap:=h',toks:=t' }:=I.un (Un.write m a k h) (I.hok.write m a k h new)
theorem Inv.pins_of{P:List (ad×ar)}(I:Inv X pins σ H s)(h:∀p∈P,s.heap.get? p.1=aa p.2/\H p.1=none/\p.1≠X.env.locals/\p.1∉X.fs/\∀v,p.2.data ≠ .cell v):Inv X P σ H s :=
 ⟨I.ok,I.os,I.bare,I.base,I.loc,I.cell,I.free,I.freeC,fun p hp=>(yJ.mp hp).elim (fun z=>I.pin p (yau _ z)) (h p),I.hok,I.len⟩
theorem zms(h:N.Nodup)(a:N[i]?=aa x)(b:N[j]?=aa x):i=j:=by
 obtain⟨h1,E⟩:=ye.mp a;obtain⟨H,e⟩:=ye.mp b;exact(ybK h).mp (E.trans e.symm)
theorem zoh{Q:Unit->ai->Prop}(I:Inv X pins σ H s)(hN:X.N.Nodup)(hi:X.N[i]?=aa x)(l:Loc X.env.scope x)(r:RelV v u)(h:∀s',Inv X pins (σ.set i (aa v)) H s'->(∃a,yaP a s.heap s'.heap/\(a=X.env.locals∨X.env.cells.lookup x=aa a))->Q () s')(hf:autoParam (X.fn x=ac∨X.env.scope.names.lookup x=aa .local) AutoP.a0._auto_1):wpAny M A (storeName X.env x u) Q E s:=by
 obtain⟨m,hn,hl⟩:=id I.loc;have N:(X.env.scope.kind == .class||(X.env.scope.kind == .module&&X.env.locals != X.env.globals))=ag:=by rw[I.ok.kind];rfl
 have D : i < σ.length:=by rw[I.len];exact(ye.mp hi).1
 have cne:=I.cne;have t:∀{a:ad}{h':au},(∃o,s.heap.get? a=aa o/\H a=none)->yaP a s.heap h'->HOk X.prog X.w H h':=fun {a h'} ha hs b ob e=>by
  obtain⟨_,_,w⟩:=ha;refine(I.hok b ob e).stay (fun c W g q=>(hs.2 c ?_).trans q) (fun _ q=>q) fun _ _ q=>q;rintro rfl;rcases g with rfl|g
  ·rw[w]at e;cases e
  ·rw[w]at g;cases g
 rcases l with C|C
 ·refine wpAny_storeName_local C hn (fun h' Y hs=>?_) N;obtain⟨oL,_,_,T,_⟩:=id hn;refine h _ ⟨I.ok,I.os,I.bare,⟨fun b o e n J l=>?_,fun b o e n J l=>?_,I.base.free,fun b o e l=>?_,I.base.tups,I.base.frzs,I.base.tbls⟩,⟨_,Y,fun j y V f B Z=>?_⟩,fun y c e=>?_,I.free,I.freeC,fun p hp=>?_,t ⟨oL,T,I.free⟩ hs,by simpa using I.len⟩ ⟨_,hs,.inl rfl⟩
  ·exact(hs.2 b (ym (yB (yi e) I.ok.above))).trans (I.base.keep b o e n J l)
  ·obtain⟨sl,f⟩:=I.base.slot b o e n J l;exact⟨sl,(hs.2 b (ym (yB (yi e) I.ok.above))).trans f⟩
  ·obtain⟨o',f⟩:=I.base.there b o e l;exact⟨o',(hs.2 b (ym (yB (yi e) I.ok.above))).trans f⟩
  ·by_cases F:j=i
   ·subst F;rw[hi]at f;cases f;rw[yaQ D]at B;cases B;exact⟨u,r,.inl ⟨C,by simp⟩⟩
   ·rw[yaZ (Ne.symm F)]at B;obtain⟨U,R,q⟩:=hl j y V f B Z;refine⟨U,R,?_⟩;rcases q with⟨k,e⟩|⟨k,c,e,z⟩
    ·refine .inl ⟨k,?_⟩;have:y≠x:=fun e=>F (zms hN f (e ▸ hi));simp[this,e]
    ·exact .inr ⟨k,c,e,z.sameBut hs (cne y c e)⟩
  ·obtain⟨W,z⟩:=I.cell y c e;exact⟨W,z.sameBut hs (cne y c e)⟩
  ·obtain⟨e,n,ne,S,d⟩:=I.pin p hp;exact⟨(hs.2 p.1 ne).trans e,n,ne,S,d⟩
 ·have G:X.fn x=ac:=by
   rcases hf with z|z
   ·exact z
   ·rw[z]at C;cases C
  obtain⟨c,g⟩:=I.ok.has x (.inl C);obtain⟨W,z⟩:=I.cell x c g;refine wpAny_storeName_cell I.ok.kind C g z (fun h' P hs=>?_);obtain⟨oc,L,K⟩:=id z;refine h { s with heap:=h' } ⟨I.ok,I.os,I.bare,⟨fun b o e n J l=>?_,fun b o e n J l=>?_,I.base.free,fun b o e l=>?_,I.base.tups,I.base.frzs,I.base.tbls⟩,⟨m,hn.sameBut hs (Ne.symm (cne x c g)),fun j y V f B Z=>?_⟩,fun y c' e=>?_,I.free,I.freeC,fun p hp=>?_,t ⟨oc,L,I.freeC x c g⟩ hs,by simpa using I.len⟩ ⟨c,hs,.inr g⟩
  ·exact(hs.2 b (ym (yB (yi e) (I.ok.cab x c G g)))).trans (I.base.keep b o e n J l)
  ·obtain⟨sl,f⟩:=I.base.slot b o e n J l;exact⟨sl,(hs.2 b (ym (yB (yi e) (I.ok.cab x c G g)))).trans f⟩
  ·obtain⟨o',f⟩:=I.base.there b o e l;exact⟨o',(hs.2 b (ym (yB (yi e) (I.ok.cab x c G g)))).trans f⟩
  ·by_cases F:j=i
   ·subst F;rw[hi]at f;cases f;rw[yaQ D]at B;cases B;exact⟨u,r,.inr ⟨.inl C,c,g,P⟩⟩
   ·rw[yaZ (Ne.symm F)]at B;obtain⟨U,R,q⟩:=hl j y V f B Z;refine⟨U,R,?_⟩;rcases q with q|⟨k,c',e,z'⟩
    ·exact .inl q
    ·refine .inr ⟨k,c',e,z'.sameBut hs ?_⟩;rintro rfl;exact F (zms hN f (I.ok.inj _ _ _ e g ▸ hi))
  ·by_cases O:c'=c
   ·subst O;exact⟨_,P⟩
   ·obtain⟨w2,z2⟩:=I.cell y c' e;exact⟨w2,z2.sameBut hs O⟩
  ·obtain⟨e,n,ne,S,d⟩:=I.pin p hp;refine⟨(hs.2 p.1 ?_).trans e,n,ne,S,d⟩;intro q;rw[q,L]at e;have q':oc=p.2:=yG e;exact d W (by rw[<- q'];exact K)
theorem zcB{Q:Unit->ai->Prop}(I:Inv X pins σ H s)(c:X.N.Nodup)(hi:X.N[i]?=aa x)(a:Loc X.env.scope x)(r:RelV v u)(h:∀s',Inv X pins (σ.set i (aa v)) H s'->Q () s')(b:autoParam (X.fn x=ac∨X.env.scope.names.lookup x=aa .local) AutoP.a0._auto_1):wpAny M A (storeName X.env x u) Q E s :=
 zoh I c hi a r (fun s' d _=>h s' d) b
theorem Inv.call'(I:Inv X pins σ H s)(a:s'.os=s.os)(u:Un (frs X.stack) ch H H' s.heap s'.heap)(hok:HOk X.prog X.w H' s'.heap)(d:aW s'.gens)(h:∀b∈ch,(b∈X.ex∨X.s₀.heap.objs.size<=b)/\b≠X.env.locals/\(∀x c,X.env.cells.lookup x=aa c->c≠b)/\∀p∈X.pn++pins,p.1≠b):Inv X pins σ H' s':=by
 obtain⟨h',g',d',t',o'⟩:=s';have e:o'=s.os:=a;subst e;exact I.call (g':=g') (t':=t') (d':=d') u hok d h
end
abbrev XK:=af->Option ad->Hp->Prop
abbrev St:=List (Option V)
abbrev VK:=V->Hp->Prop
abbrev TE:=St->Hp->VK->Prop
abbrev TT:=St->Hp->(Bool->Hp->Prop)->Prop
abbrev TA:=St->Hp->(List V->Hp->Prop)->Prop
structure Ends where
 nx:St->Hp->Prop
 rt:VK
 bk:St->Hp->Prop:=fun _ _=>False
 ct:St->Hp->Prop:=fun _ _=>False
abbrev TS:=Ends->St->Hp->Prop
def EP(X:Cx)(pins:List (ad×ar))(σ : St)(Q:VK)(u:af)(s':ai):Prop:=∃v H',Inv X pins σ H' s'/\RelV v u/\Q v H'
def TP(X:Cx)(pins:List (ad×ar))(σ : St)(Q:Bool->Hp->Prop)(b:Bool)(s':ai):Prop:=∃H',Inv X pins σ H' s'/\Q b H'
def AP(X:Cx)(pins:List (ad×ar))(σ : St)(Q:List V->Hp->Prop)(us:List af)(s':ai):Prop:=∃vs H',Inv X pins σ H' s'/\Vals vs us/\Q vs H'
def SP(X:Cx)(pins:List (ad×ar))(D:Ends)(f:Flow)(s':ai):Prop :=
 match f with
 |.next=>∃σ' H',Inv X pins σ' H' s'/\D.nx σ' H'|.brk=>∃σ' H',Inv X pins σ' H' s'/\D.bk σ' H'|.cont=>∃σ' H',Inv X pins σ' H' s'/\D.ct σ' H'|.ret u=>∃v σ' H',Inv X pins σ' H' s'/\RelV v u/\D.rt v H'
def PE(X:Cx)(e:ak)(t:TE):Prop :=
 ∀(pins:List (ad×ar))(s:ai)(σ : St)(H:Hp)(Q:VK),Inv X pins σ H s->t σ H Q->wpAny (am X.prog X.w) X.A (eval e X.env) (EP X pins σ Q) X.xe s
def PT(X:Cx)(e:ak)(t:TT):Prop :=
 ∀(pins:List (ad×ar))(s:ai)(σ : St)(H:Hp)(Q:Bool->Hp->Prop),Inv X pins σ H s->t σ H Q->wpAny (am X.prog X.w) X.A (isTrue e X.env (eval e X.env)) (TP X pins σ Q) X.xe s
def PW(X:Cx)(e:ak)(t:TT):Prop :=
 ∀(whole:Sem af)(pins:List (ad×ar))(s:ai)(σ : St)(H:Hp)(Q:Bool->Hp->Prop),Inv X pins σ H s->t σ H Q->wpAny (am X.prog X.w) X.A (isTrue e X.env whole) (TP X pins σ Q) X.xe s
theorem PW.pt{e:ak}{t:TT}(h:PW X e t):PT X e t:=h _
def PA(X:Cx)(es:List ak)(t:TA):Prop :=
 ∀(pos:aw)(pins:List (ad×ar))(s:ai)(σ : St)(H:Hp)(Q:List V->Hp->Prop),Inv X pins σ H s->t σ H Q->wpAny (am X.prog X.w) X.A (spliced (az pos (ap es X.env))) (AP X pins σ Q) X.xe s
def PS(X:Cx)(st:ao)(t:TS):Prop :=
 ∀(pins:List (ad×ar))(s:ai)(σ : St)(H:Hp)(D:Ends),Inv X pins σ H s->t D σ H->wpAny (am X.prog X.w) X.A (exec st X.env) (SP X pins D) X.xe s
def PSs(X:Cx)(st:List ao)(t:TS):Prop :=
 ∀(pins:List (ad×ar))(s:ai)(σ : St)(H:Hp)(D:Ends),Inv X pins σ H s->t D σ H->wpAny (am X.prog X.w) X.A (execs st X.env) (SP X pins D) X.xe s
theorem thn{α : Type}{t:Sem α}{Q q:α -> ai->Prop}(h:wpAny M A t Q E s)(hQ:∀a s,Q a s->q a s):wpAny M A t q E s:=aA h hQ fun _ _ x=>x
variable{Q:af->ai->Prop}{pos:aw}{σ : St}{ta tb:TE}{c:ak}
section
def tVar(i:Nat):TE:=fun σ H Q=>∃v,σ[i]?=aa (aa v)/\Q v H
def tC(v:V):TE:=fun _ H Q=>Q v H
theorem pe_var(k:X.N[i]?=aa x)(j:Vis X.env.scope x)(hd:autoParam ((x==("__debug__" : ae))=ag) AutoP.a1._auto_1)(d:autoParam ((x==("__classdict__" : ae))=ag) AutoP.a1._auto_1):PE X (.Name x pos) (tVar i):=by
 intro pins s σ H Q I h;obtain⟨v,e,h⟩:=h;obtain⟨m,hn,hl⟩:=I.loc;obtain⟨u,r,l⟩:=hl i x v k e j;have f:EP X pins σ Q u s:=⟨v,H,I,r,h⟩;rcases l with⟨b,hm⟩|⟨b,c,g,a⟩
 ·exact wpAny_Name (wpAny_loadName_local I.ok.kind b hn hm f) hd
 ·rcases b with b|b
  ·exact wpAny_Name (wpAny_loadName_cell I.ok.kind b g a f) hd
  ·exact wpAny_Name (wpAny_loadName_free I.ok.kind b g a f d) hd
theorem pe_int {i j pos}:PE X (.Constant (.int i) j pos) (tC (.int i)):=fun _ _ _ H _ I h=>wpAny_Constant_int ⟨.int i,H,I.tok _,⟨_,rfl⟩,h⟩
theorem pe_bl {b j pos}:PE X (.Constant (.bool b) j pos) (tC (.bl b)):=fun _ _ _ H _ I h=>Constant_bool ⟨.bl b,H,I,rfl,h⟩
theorem pe_non {j pos}:PE X (.Constant .none j pos) (tC .non):=fun _ _ _ H _ I h=>Constant_none ⟨.non,H,I,rfl,h⟩
theorem zsa {x j pos}:PE X (.Constant (.str x) j pos) (tC (.str x)):=fun _ _ _ H _ I h=>Calls.Constant_str ⟨.str x,H,I.tok _,⟨_,rfl⟩,h⟩
def Gl(X:Cx)(x:ae):Prop:=X.env.kindOf x=aa .globalImplicit
theorem zg5(I:Inv X pins σ H s)(a:Gl X x)(hm:X.mg x=aa u)(h:Q u s)(hd:autoParam ((x==("__debug__" : ae))=ag) AutoP.a1._auto_1):wpAny (am X.prog X.w) X.A (eval (.Name x pos) X.env) Q E s :=
 yc4 I.ok.kind a (Calls.loadGlobal_global (by rw[I.ok.glob];exact I.mod.glob.keeps I.bk) hm h) hd
theorem zeR(I:Inv X pins σ H s)(b:Gl X x)(hm:X.mg x=none)(a:ba x=aa u)(h:Q u s)(hn:autoParam (x ≠ "__name__") AutoP.a1._auto_1)(hd:autoParam ((x==("__debug__" : ae))=ag) AutoP.a1._auto_1):wpAny (am X.prog X.w) X.A (eval (.Name x pos) X.env) Q E s:=by
 obtain⟨mb,h1,c⟩:=I.mod.blt;exact yc4 I.ok.kind b (Calls.loadGlobal_builtin (by rw[I.ok.glob];exact I.mod.glob.keeps I.bk) hm (by rw[I.ok.blt];exact h1.keeps I.bk) ((c x hn).trans a) h) hd
theorem ztE(b:Gl X x)(hm:X.mg x=none)(a:ba x=aa u)(r:RelV v u)(hn:autoParam (x ≠ "__name__") AutoP.a1._auto_1)(hd:autoParam ((x==("__debug__" : ae))=ag) AutoP.a1._auto_1):PE X (.Name x pos) (tC v) :=
 fun _ _ _ H _ I h=>zeR I b hm a ⟨v,H,I,r,h⟩ hn hd
variable{a b:ak}
def tB(t:TE):TT:=fun σ H Q=>t σ H fun x H1=>∃c,x = .bl c/\Q c H1
theorem pt_val{e:ak}{t:TE}(h:PE X e t)(c:autoParam (∀whole,isTrue e X.env whole=(do let v <- whole;aX e.pos;holding [v] (truthy v))) AutoP.a2._auto_1):PT X e (tB t):=by
 intro pins s σ H Q I b
 refine isTrue_plain (thn (h pins s σ H _ I b) fun v s1 ⟨x,f,i,r,a⟩=>?_) (c _)
 obtain⟨d,rfl,q⟩:=a
 cases r
 exact bo ⟨f,i,q⟩
variable{tA tB':TT}{rest:List ak}
def tAnd(t u:TT):TT:=fun σ H Q=>t σ H fun c H1=>if c=ac then u σ H1 Q else Q ag H1
def tOr(t u:TT):TT:=fun σ H Q=>t σ H fun c H1=>if c=ac then Q ac H1 else u σ H1 Q
def tNot(t:TT):TT:=fun σ H Q=>t σ H fun c H1=>Q (!c) H1
theorem zte(ha:PT X a tA):PW X (.BoolOp .And [a] pos) tA:=by
 intro w pins s σ H Q I h;refine isTrue_and (thn (ha pins s σ H Q I h) fun c s1 e=>?_);cases c with
 |true=>exact isTrue_and_nil e|false=>exact e
theorem pw_or1(ha:PT X a tA):PW X (.BoolOp .Or [a] pos) tA:=by
 intro w pins s σ H Q I h;refine isTrue_or (thn (ha pins s σ H Q I h) fun c s1 e=>?_);cases c with
 |false=>exact isTrue_or_nil e|true=>exact e
theorem pw_and(ha:PT X a tA)(e:PW X (.BoolOp .And (b::rest) pos) tB'):PW X (.BoolOp .And (a::b::rest) pos) (tAnd tA tB'):=by
 intro w pins s σ H Q I h;refine isTrue_and (thn (ha pins s σ H _ I h) ?_);rintro c s1 ⟨d,i,q⟩;cases c with
 |true=>exact e w pins s1 σ d Q i q|false=>exact⟨d,i,q⟩
theorem pw_or(ha:PT X a tA)(e:PW X (.BoolOp .Or (b::rest) pos) tB'):PW X (.BoolOp .Or (a::b::rest) pos) (tOr tA tB'):=by
 intro w pins s σ H Q I h;refine isTrue_or (thn (ha pins s σ H _ I h) ?_);rintro c s1 ⟨d,i,q⟩;cases c with
 |true=>exact⟨d,i,q⟩|false=>exact e w pins s1 σ d Q i q
theorem pt_not(ha:PT X a tA):PT X (.UnaryOp .Not a pos) (tNot tA):=by
 intro pins s σ H Q I h;exact isTrue_not (ha pins s σ H (fun c b=>Q (!c) b) I h)
def tAndV(t tb:TE):TE:=fun σ H Q=>t σ H fun x H1=>∃c,x = .bl c/\if c=ac then tb σ H1 Q else Q (.bl ag) H1
def tOrV(t tb:TE):TE:=fun σ H Q=>t σ H fun x H1=>∃c,x = .bl c/\if c=ac then Q (.bl ac) H1 else tb σ H1 Q
def tNotV(t:TE):TE:=fun σ H Q=>t σ H fun x H1=>∃c,x = .bl c/\Q (.bl (!c)) H1
theorem pe_one {op} {t:TE} (h:PE X a t):PE X (.BoolOp op [a] pos) t:=fun pins s σ H Q I b=>BoolOp_one (h pins s σ H Q I b)
theorem pe_and(ha:PE X a ta)(e:PE X (.BoolOp .And (b::rest) pos) tb):PE X (.BoolOp .And (a::b::rest) pos) (tAndV ta tb):=by
 intro pins s σ H Q I h;refine BoolOp_and (thn (ha pins s σ H _ I h) ?_);rintro v s1 ⟨x,d,i,r,q⟩;obtain⟨c,rfl,q⟩:=q;cases r;refine bo ?_;cases c with
 |true=>exact e pins s1 σ d Q i q|false=>exact⟨.bl ag,d,i,rfl,q⟩
theorem pe_or(ha:PE X a ta)(e:PE X (.BoolOp .Or (b::rest) pos) tb):PE X (.BoolOp .Or (a::b::rest) pos) (tOrV ta tb):=by
 intro pins s σ H Q I h;refine BoolOp_or (thn (ha pins s σ H _ I h) ?_);rintro v s1 ⟨x,d,i,r,q⟩;obtain⟨c,rfl,q⟩:=q;cases r;refine bo ?_;cases c with
 |false=>exact e pins s1 σ d Q i q|true=>exact⟨.bl ac,d,i,rfl,q⟩
theorem pe_not(ha:PE X a ta):PE X (.UnaryOp .Not a pos) (tNotV ta):=by
 intro pins s σ H Q I h;refine UnaryOp_ (thn (ha pins s σ H _ I h) ?_);rintro v s1 ⟨x,b,i,r,q⟩;obtain⟨c,rfl,q⟩:=q;cases r;exact not_of (bo ⟨.bl (!c),b,i,rfl,q⟩)
def tIf(t:TT)(T tb:TE):TE:=fun σ H Q=>t σ H fun c H1=>if c=ac then T σ H1 Q else tb σ H1 Q
theorem zre(f:PT X c tA)(ha:PE X a ta)(g:PE X b tb):PE X (.IfExp c a b pos) (tIf tA ta tb):=by
 intro pins s σ H Q I h;refine wpAny_IfExp (thn (f pins s σ H _ I h) ?_);rintro d s1 ⟨e,i,q⟩;cases d with
 |true=>exact ha pins s1 σ e Q i q|false=>exact g pins s1 σ e Q i q
end
def SqL(K:yb)(H:Hp)(a:ad)(xs:List V):Prop :=
 Rd H a (.lst xs) ∨
  ∃(o:ar)(its:Array af)(n:Nat),K.lookup a=aa o/\o.cls = .type "list" /\ o.dict=none/\o.data = .seq its n/\its.size<=sizeLine/\Vals xs its.toList
def SqT(K:yb)(H:Hp)(a:ad)(xs:List V):Prop :=
 Rd H a (.tup xs) ∨
  ∃(o:ar)(its:Array af)(n:Nat),K.lookup a=aa o/\o.cls = .type "tuple" /\ o.data = .seq its n/\its.size<=sizeLine/\Vals xs its.toList
def absV:af->Option V
 |.none=>aa .non|.bool b=>aa (.bl b)|.int i _=>aa (.int i)|.str x _=>aa (.str x)|.bytes b _=>aa (.byt b)|.float b _=>aa (.flt b)|.ref a=>aa (.ref a)|.type n=>aa (.ty n)|_=>none
theorem RelV.abs{x:V}(r:RelV x u):absV u=aa x:=by
 cases x with
 |non=>cases r;rfl|bl _=>cases r;rfl|int _=>obtain⟨t,rfl⟩:=r;rfl
 |str _=>obtain⟨t,rfl⟩:=r;rfl
 |byt _=>obtain⟨t,rfl⟩:=r;rfl
 |flt _=>obtain⟨t,rfl⟩:=r;rfl
 |ref _=>cases r;rfl|ty _=>cases r;rfl
variable{y:V}
theorem RelV.inj{x:V}(r:RelV x u)(q:RelV y u):x=y:=yG (r.abs.symm.trans q.abs)
theorem Vals.inj:∀{xs ys:List V}{us:List af},Vals xs us->Vals ys us->xs=ys
 |_,_,_,.nil,.nil=>rfl|_,_,_,.cons r t,.cons R t'=>by rw[r.inj R,Vals.inj t t']
variable{K:yb}
section
variable{ys:List V}
theorem SqL.of(h:H a=aa (.lst xs)):SqL K H a xs := .inl (.inl h)
theorem SqT.of(h:H a=aa (.tup xs)):SqT K H a xs := .inl (.inl h)
theorem Inv.list(I:Inv X pins σ H s)(h:SqL X.K H a xs):∃its:List af,Vals xs its/\PlainL s.heap a its.toArray/\xs.length<=sizeLine:=by
 rcases h with h|⟨o,its,n,b,c,hd,hs,d,r⟩
 ·obtain⟨z,its,n,r,e⟩:=h.ok I.hok;exact⟨its,r,⟨_,n,e,rfl,rfl,rfl⟩,z⟩
 ·refine⟨its.toList,r,⟨o,n,I.kIn a o b,c,hd,by simpa using hs⟩,?_⟩;have e:=r.length;simp only[ya0]at e;omega
theorem Inv.tuple(I:Inv X pins σ H s)(h:SqT X.K H a xs):∃its:List af,Vals xs its/\IsTup s.heap a its.toArray/\xs.length<=sizeLine:=by
 rcases h with h|⟨o,its,n,b,c,hs,d,r⟩
 ·obtain⟨z,its,r,p,_⟩:=h.ok I.hok;exact⟨its,r,p,z⟩
 ·refine⟨its.toList,r,⟨o,I.kIn a o b,c,n,by simpa using hs⟩,?_⟩;have e:=r.length;simp only[ya0]at e;omega
theorem Inv.list_inj(I:Inv X pins σ H s)(h:SqL X.K H a xs)(h':SqL X.K H a ys):xs=ys:=by
 obtain⟨its,r,⟨o,n,e,_,_,d⟩,_⟩:=I.list h;obtain⟨its',R,⟨o',N,E,_,_,d'⟩,_⟩:=I.list h';rw[e]at E;cases E;rw[d]at d';injection d' with D _
 have:its=its':=by simpa using congrArg yci D
 subst this;exact r.inj R
theorem Inv.tuple_inj(I:Inv X pins σ H s)(h:SqT X.K H a xs)(h':SqT X.K H a ys):xs=ys:=by
 obtain⟨its,r,⟨o,e,_,n,d⟩,_⟩:=I.tuple h;obtain⟨its',R,⟨o',E,_,N,d'⟩,_⟩:=I.tuple h';rw[e]at E;cases E;rw[d]at d';injection d' with D _
 have:its=its':=by simpa using congrArg yci D
 subst this;exact r.inj R
end
abbrev Cx.wish(X:Cx)(E:af->ai->Prop):Cx:={ X with xe:=E }
abbrev Cx.nox(X:Cx):Cx:=X.wish fun _ _=>False
theorem Cx.Ok.wish(ok:X.Ok)(E:af->ai->Prop):(X.wish E).Ok :=
 ⟨ok.mod,ok.kind,ok.glob,ok.blt,ok.above,ok.inj,ok.has,ok.cab,ok.hd,ok.frames,ok.stk,ok.exf,ok.bs,ok.bsz,ok.noex,ok.exfs,ok.funs,ok.frf⟩
theorem Cx.Ok.unwish(ok:(X.wish E).Ok):X.Ok :=
 ⟨ok.mod,ok.kind,ok.glob,ok.blt,ok.above,ok.inj,ok.has,ok.cab,ok.hd,ok.frames,ok.stk,ok.exf,ok.bs,ok.bsz,ok.noex,ok.exfs,ok.funs,ok.frf⟩
section
theorem Inv.wish(I:Inv X pins σ H s)(E:af->ai->Prop):Inv (X.wish E) pins σ H s:=⟨I.ok.wish E,I.os,I.bare,I.base,I.loc,I.cell,I.free,I.freeC,I.pin,I.hok,I.len⟩
theorem Inv.unwish(I:Inv (X.wish E) pins σ H s):Inv X pins σ H s:=⟨I.ok.unwish,I.os,I.bare,I.base,I.loc,I.cell,I.free,I.freeC,I.pin,I.hok,I.len⟩
theorem SP.unwish{D:Ends}{f:Flow}(h:SP (X.wish E) pins D f s'):SP X pins D f s':=by
 cases f with
 |next=>obtain⟨a,H',I,q⟩:=h;exact⟨a,H',I.unwish,q⟩
 |brk=>obtain⟨a,H',I,q⟩:=h;exact⟨a,H',I.unwish,q⟩
 |cont=>obtain⟨a,H',I,q⟩:=h;exact⟨a,H',I.unwish,q⟩
 |ret u=>obtain⟨v,a,H',I,r,q⟩:=h;exact⟨v,a,H',I.unwish,r,q⟩
theorem PSs.nox{st:List ao}{t:TS}(h:PSs X.nox st t):PSs X st t:=fun pins s σ H D I a=>
 aA (h pins s σ H D (I.wish _) a) (fun _ _ q=>q.unwish) fun _ _ z=>False.elim z
end
variable{te:TE}{tc:TT}
section
variable{st:ao}{rest:List ao}{t u:TS}{e:ak}
def tNext:TS:=fun D σ H=>D.nx σ H
def tSeq(t u:TS):TS:=fun D σ H=>t { D with nx:=u D } σ H
theorem zth:PSs X [] tNext:=fun _ _ σ H _ I h=>bC ⟨σ,H,I,h⟩
theorem zq6(h1:PS X st t)(b:PSs X rest u):PSs X (st::rest) (tSeq t u):=by
 intro pins s σ H D I h;refine bY (thn (h1 pins s σ H { D with nx:=u D } I h) fun f s1 q=>?_);cases f with
 |next=>
  obtain⟨a,H',i,q⟩:=q;exact b pins s1 a H' D i q
 |ret v=>exact q|brk=>exact q|cont=>exact q
theorem zoK(h1:PS X st t):PSs X [st] t:=by
 intro pins s σ H D I h;refine bY (thn (h1 pins s σ H D I h) fun f s1 q=>?_);cases f with
 |next=>exact bC q|ret v=>exact q|brk=>exact q|cont=>exact q
theorem Inv.quiet(I:Inv X pins σ H s):interactive X.env=ag:=by simp[interactive,I.ok.kind]
def tDrop(te:TE):TS:=fun D σ H=>te σ H fun _ H1=>D.nx σ H1
theorem ztj(a:PE X e te)(hs:autoParam (aU e none pos.line X.env=pure ag) AutoP.a3._auto_1):PS X (.Expr e pos) (tDrop te):=by
 intro pins s σ H D I h;exact wpAny_Expr_any (thn (a pins s σ H _ I h) fun v s1 ⟨x,b,i,r,q⟩=>⟨σ,b,i,q⟩) I.quiet hs
def tRet(te:TE):TS:=fun D σ H=>te σ H D.rt
theorem ps_ret(a:PE X e te):PS X (.Return (aa e) pos) (tRet te):=by
 intro pins s σ H D I h;refine wpAny_Return_some (thn (a pins s σ H _ I h) ?_);rintro v s1 ⟨x,b,i,r,q⟩;exact⟨x,σ,b,i,r,q⟩
def tIfS(c:TT)(t u:TS):TS:=fun D σ H=>c σ H fun b H1=>if b=ac then t D σ H1 else u D σ H1
theorem ps_if{a b:List ao}(f:PT X c tc)(ha:PSs X a t)(g:PSs X b u):PS X (.If c a b pos) (tIfS tc t u):=by
 intro pins s σ H D I h;refine wpAny_If (thn (f pins s σ H _ I h) ?_);rintro d s1 ⟨e,i,q⟩;cases d with
 |true=>exact ha pins s1 σ e D i q|false=>exact g pins s1 σ e D i q
end
abbrev TG:=V->St->Hp->(St->Hp->Prop)->Prop
abbrev TGs:=List V->St->Hp->(St->Hp->Prop)->Prop
def PG(X:Cx)(T:ak)(t:TG):Prop :=
 ∀(pins:List (ad×ar))(s:ai)(σ : St)(H:Hp)(v:V)(u:af)(Q:St->Hp->Prop),Inv X pins σ H s->RelV v u->t v σ H Q →
  wpAny (am X.prog X.w) X.A (aN T X.env u) (fun _ s'=>∃σ' H',Inv X pins σ' H' s'/\Q σ' H') X.xe s
def PGs(X:Cx)(ts:List ak)(t:TGs):Prop :=
 ∀(pins:List (ad×ar))(s:ai)(σ : St)(H:Hp)(vs:List V)(us:List af)(Q:St->Hp->Prop),Inv X pins σ H s->Vals vs us->t vs σ H Q →
  wpAny (am X.prog X.w) X.A (bZ ((aV ts X.env).map (·.2)) us) (fun _ s'=>∃σ' H',Inv X pins σ' H' s'/\Q σ' H') X.xe s
abbrev TSet:=V->V->V->Hp->(Hp->Prop)->Prop
def PSet(X:Cx)(t:TSet):Prop :=
 ∀(pins:List (ad×ar))(s:ai)(σ : St)(H:Hp)(o i v:V)(O I u:af)(Q:Hp->Prop),Inv X pins σ H s->RelV o O->RelV i I->RelV v u->t o i v H Q →
  wpAny (am X.prog X.w) X.A (setItem O I u) (fun _ s'=>∃H',Inv X pins σ H' s'/\Q H') X.xe s
variable{es:List ak}{n:Nat}{tg:ak}{pos':aw}
section
def gName(i:Nat):TG:=fun v σ H Q=>Q (σ.set i (aa v)) H
theorem zoU(c:X.N.Nodup)(hi:X.N[i]?=aa x)(a:Loc X.env.scope x)(b:autoParam (X.fn x=ac∨X.env.scope.names.lookup x=aa .local) AutoP.a0._auto_1):PG X (.Name x pos) (gName i):=by
 intro pins s σ H v u Q I r h;exact wpAny_assign_Name (zcB I c hi a r (fun s' d=>⟨_,H,d,h⟩) b)
def gNil:TGs:=fun vs σ H Q=>vs=[]/\Q σ H
def gCons(t:TG)(u:TGs):TGs:=fun vs σ H Q=>∃v r,vs=v::r/\t v σ H fun σ' H'=>u r σ' H' Q
theorem ztx:PGs X [] gNil:=by
 intro pins s σ H vs us Q I r h;obtain⟨e,h⟩:=h;subst e;cases r;exact cj ⟨σ,H,I,h⟩
theorem zrc{e:ak}{t:TG}{u:TGs}(h1:PG X e t)(b:PGs X es u)(hs:autoParam ((aV (e::es) X.env).map (·.2)=aN e X.env::(aV es X.env).map (·.2)) AutoP.a3._auto_1):PGs X (e::es) (gCons t u):=by
 intro pins s σ H vs us Q I r h;obtain⟨v,V,E,h⟩:=h;subst E;cases r with
 |cons r rr=>
  rw[hs];refine bL (thn (h1 pins s σ H _ _ _ I r h) ?_);rintro _ s1 ⟨a,c,i,q⟩;exact b pins s1 a c _ _ Q i rr q
def zbg(K:yb)(n:Nat)(t:TGs):TG:=fun v σ H Q=>∃a xs,v = .ref a/\SqT K H a xs/\xs.length=n/\t xs σ H Q
theorem pg_tup{k:Nat}{t:TGs}(i:X.calm=ac)(h:PGs X es t)(hn:autoParam ((aV es X.env).length=n) AutoP.a3._auto_1)(d:autoParam ((aV es X.env).findIdx? (·.1)=none) AutoP.a3._auto_1):PG X (.Tuple es k pos) (zbg X.K n t):=by
 intro pins s σ H v u Q I r c;obtain⟨a,xs,E,hq,hl,c⟩:=c;subst E;cases r;obtain⟨its,R,g,l⟩:=I.tuple hq;refine assign_Tuple_tuple (I.ok.hd i) g (by simp[hn,<- hl,R.length]) d fun h' f=>?_;have j:Inv X pins σ H { s with heap:=h' }:=I.kept (t':=s.toks) fun b o e=>f b o (ym (yi e)) e;exact h pins _ σ H xs _ Q j (by simpa using R) c
def gSub(T ti:TE)(t:TSet):TG:=fun v σ H Q=>T σ H fun o H1=>ti σ H1 fun i H2=>t o i v H2 fun h=>Q σ h
theorem pg_sub{o i:ak}{T ti:TE}{t:TSet}(e:PE X o T)(hi:PE X i ti)(hs:PSet X t)
  (ha:autoParam (∀v,aN (.Subscript o i pos) X.env v=(do
   let O <- holding [v] (eval o X.env)
   let a <- holding [v,O] (eval i X.env)
   aX pos
   holding [v,O,a] (setItem O a v)
   release [v,O,a] [])) AutoP.a2._auto_1):PG X (.Subscript o i pos) (gSub T ti t):=by
 intro pins s σ H v u Q I r h
 rw[ha]
 refine aj (aY (thn (e pins s σ H _ I h) ?_))
 rintro O s1 ⟨x,m,j,b,d⟩
 refine aj (aY (thn (hi pins s1 σ m _ j d) ?_))
 rintro a s2 ⟨y,l,g,R,c⟩
 refine aj (bp (aj (aY (thn (hs pins s2 σ l x y v O a u _ g b R r c) ?_))))
 rintro _ S ⟨k,f,q⟩
 exact wpAny_release ⟨σ,k,f,q⟩
def tAsg(te:TE)(g:TG):TS:=fun D σ H=>te σ H fun x H1=>g x σ H1 D.nx
theorem ps_asg{e:ak}{g:TG}(c:PE X e te)(b:PG X tg g)(hs:autoParam (bD [tg] e pos.line X.env=pure ag) AutoP.a3._auto_1)(a:autoParam (bE [tg] e X.env=pure none) AutoP.a3._auto_1)(h1:autoParam ((aV [tg] X.env).map (·.2)=[aN tg X.env]) AutoP.a3._auto_1):PS X (.Assign [tg] e pos) (tAsg te g):=by
 intro pins s σ H D I h;refine wpAny_Assign_stores (thn (c pins s σ H _ I h) fun v s1 ⟨x,d,i,r,Q⟩=>?_) hs a;rw[h1];exact thn (b pins s1 σ d x v _ i r Q) fun _ s2 q=>q
theorem ps_set{e:ak}(d:X.N.Nodup)(hi:X.N[i]?=aa x)(a:Loc X.env.scope x)(c:PE X e te)(hs:autoParam (aU e (aa (.Name x pos')) pos.line X.env=pure ag) AutoP.a3._auto_1)(b:autoParam (X.fn x=ac∨X.env.scope.names.lookup x=aa .local) AutoP.a0._auto_1) : PS X (.Assign [.Name x pos'] e pos) (tAsg te (gName i)):=by
 intro pins s σ H D I h;refine wpAny_Assign_Name (thn (c pins s σ H _ I h) fun v s1 ⟨y,j,g,r,q⟩=>?_) hs;exact zcB g d hi a r (fun s2 f=>⟨_,j,f,q⟩) b
def tPar(i j:Nat)(t:TA):TS:=fun D σ H=>t σ H fun vs H1=>∃v w,vs=[v,w]/\D.nx ((σ.set i (aa v)).set j (aa w)) H1
theorem ps_par{y:ae}{a b:ak}{t:TA}{P py pt:aw} {kt k2 pt2} (E:X.calm=ac) (k:X.N.Nodup) (hi:X.N[i]?=aa x) (C:X.N[j]?=aa y) (d:i≠j) (g:X.env.scope.names.lookup x=aa .local) (f:X.env.scope.names.lookup y=aa .local) (ha:PA X [a,b] t) (B:bE [.Tuple [.Name x P,.Name y py] kt pt] (.Tuple [a,b] k2 pt2) X.env=pure (aa [x,y])) (hs:autoParam (bD [.Tuple [.Name x P,.Name y py] kt pt] (.Tuple [a,b] k2 pt2) pos.line X.env=pure ag) AutoP.a3._auto_1) : PS X (.Assign [.Tuple [.Name x P,.Name y py] kt pt] (.Tuple [a,b] k2 pt2) pos) (tPar i j t):=by
 intro pins s σ H D I h
 rw[exec_Assign_arm]
 refine aj (bp ?_)
 rw[hs]
 refine aj (av ?_)
 rw[if_neg (by decide)]
 refine aj (Tuple_ (thn (ha _ pins s σ H _ I h) ?_))
 rintro us s1 ⟨vs,m,L,n,Q⟩
 obtain⟨v,w,F,Q⟩:=Q
 subst F
 obtain⟨U,u,rfl,R,r⟩:∃U u,us=[U,u]/\RelV v U/\RelV w u:=by
  cases n with
  |cons p q=>
   cases q with
   |cons A z=>
    cases z
    exact⟨_,_,rfl,p,A⟩
 refine aR ?_ (by show 2<=sizeLine;decide)
 have K:Inv X pins σ m { s1 with heap:=s1.heap.push { cls := .type "tuple", data := .seq [U,u].toArray } }:=L.kept (t':=s1.toks) fun b o e=>yf _ e
 rw[B]
 refine aj (av ?_)
 show wpAny (am X.prog X.w) X.A (do rule "assign.swapped-stores"; let items <- unpackItems (.ref s1.heap.objs.size) 2 none;bZ [fun v=>bb X.env y v,fun v=>bb X.env x v] items.reverse;pure Flow.next) _ _ _
 refine aj (bq (aj (unpackItems_tuple (items := #[U,u]) (I.ok.hd E) (IsTup.new s1.heap _) fun h' c=>?_)))
 have J:=K.kept (h':=h') (t':=s1.toks) fun b o e=>c b o (ym (yi e)) e
 show wpAny _ _ (bZ [fun v=>bb X.env y v,fun v=>bb X.env x v] [u,U] >>= fun _=>pure Flow.next) _ _ _
 refine aj (bL (b5 (zcB J k C (.inl f) r (fun s2 G=>?_) (.inr f))))
 refine bL (b5 (zcB G k hi (.inl g) R (fun S l=>cj (av ?_)) (.inr g)))
 rw[ybL _ _ (Ne.symm d)]at l
 exact⟨_,m,l,Q⟩
end
variable{body:List ao}
section
def tWhile(c:TT)(tb:TS):TS:=fun D σ H=>∃W:Nat->St->Hp->Prop,(∃m,W m σ H)/\∀m σ H,W m σ H →
 c σ H fun b H1=>if b=ac then ∃N:St->Hp->Prop,(∀σ' H',N σ' H'->∃m',m'<m/\W m' σ' H')/\tb { D with nx:=N,ct:=N,bk:=D.nx } σ H1 else D.nx σ H1
theorem zq7{tb:TS}(hp:PassesOwn (am X.prog X.w) X.A X.env X.xe)(o:PT X c tc)(p:PSs X body tb):PS X (.While c body [] pos) (tWhile tc tb):=by
 intro pins s σ H D I h;obtain⟨W,⟨m0,w0⟩,turn⟩:=h;refine wpAny_While (codeAny_whileLoop (fun n s'=>∃σ' H',Inv X pins σ' H' s'/\W n σ' H') ?_ m0 ⟨σ,H,I,w0⟩);rintro n s1 ⟨d,m,r,w1⟩;refine bF hp (thn (o pins s1 d m _ r (turn n d m w1)) ?_);rintro b s2 ⟨l,k,Q⟩;cases b with
 |true=>
  obtain⟨N,j,Q⟩:=Q;rw[if_pos rfl];refine bF hp (thn (p pins s2 d l _ k Q) fun f S q=>?_);cases f with
  |next=>
   obtain⟨a,e,i,g⟩:=q;obtain⟨m',hm,w⟩:=j a e g;exact⟨m',hm,a,e,i,w⟩
  |cont=>
   obtain⟨a,e,i,g⟩:=q;obtain⟨m',hm,w⟩:=j a e g;exact⟨m',hm,a,e,i,w⟩
  |brk=>exact q|ret v=>exact q
 |false=>
  rw[if_neg yu];exact bC ⟨d,l,k,Q⟩
end
structure It where
 go:Nat->Hp->Prop
 yld:Nat->Hp->V->Hp->Prop
 stop:Nat->Hp->Prop
def ze9(X:Cx)(pins:List (ad×ar))(H:Hp)(b:ad):Prop :=
 H b=none/\b≠X.env.locals/\b∉X.fs/\(b∈X.ex∨X.s₀.heap.objs.size<=b)/\(∀x c,X.env.cells.lookup x=aa c->c≠b)/\∀p∈X.pn++pins,p.1≠b
theorem Inv.fpOk(I:Inv X pins σ H s)(h:s.heap.objs.size<=b)(hn:H' b=none):ze9 X pins H' b:=by
 refine⟨hn,yai (yB I.lt h),I.nofs h,.inr (yx I.sz h),fun x c e z=>?_,fun p hp z=>?_⟩
 ·obtain⟨v,q⟩:=I.cell x c e;exact absurd (yB q.lt (by rw[z];exact h)) (yO _)
 ·exact absurd (yB (yi (I.pin p hp).1) (by rw[z];exact h)) (yO _)
structure Turn(P:aq)(w:al)(K:yb)(tg:ak)(J:It)(fp:List ad)(it:ad)(tn:Nat->au->Prop):Prop where
 mem:it∈fp
 obj:∀i h,tn i h->∀b∈fp,∃o,h.get? b=aa o/\∀v,o.data ≠ .cell v
 keep:∀i h h',tn i h->(∀b∈fp,∀o,h.get? b=aa o->h'.get? b=aa o)->tn i h'
 item:∀(X:Cx),X.prog=P->X.w=w->X.K=K->X.calm=ac->∀(i:Nat)(pins:List (ad×ar))(s:ai)(σ : St)(H:Hp)(E:af->ai->Prop),Inv X pins σ H s->(∀b∈fp,ze9 X pins H b)->tn i s.heap->J.go i H →
  wpAny (am P w) X.A (be (.ref it)) (fun r s1=>∃u,r=aa u ∧
   wpAny (am P w) X.A (b6 tg (.ref it) u) (fun _ s2=>∃x H',Inv X pins σ H' s2/\RelV x u/\J.yld i H x H'/\tn (i+1) s2.heap/\∀b∈fp,H' b=none) E s1) E s
 done:∀(X:Cx),X.prog=P->X.w=w->X.K=K->X.calm=ac->∀(i:Nat)(pins:List (ad×ar))(s:ai)(σ : St)(H:Hp)(E:af->ai->Prop),Inv X pins σ H s->(∀b∈fp,ze9 X pins H b)->tn i s.heap->J.stop i H →
  wpAny (am P w) X.A (be (.ref it)) (fun r s1=>r=none/\Inv X pins σ H s1) E s
 self:∀(A:ax)(i:Nat)(s:ai)(Q:af->ai->Prop)(E:af->ai->Prop),tn i s.heap->Q (.ref it) s->wpAny (am P w) A (pyIter (.ref it)) Q E s
abbrev TI:=St->Hp->(It->Hp->Prop)->Prop
def PIE(X:Cx)(pins:List (ad×ar))(σ : St)(tg:ak)(R:It->Hp->Prop)(i:af)(s2:ai):Prop :=
 ∃(it:ad)(fp:List ad)(tn:Nat->au->Prop)(J:It)(H':Hp),i = .ref it/\Inv X pins σ H' s2/\Turn X.prog X.w X.K tg J fp it tn/\tn 0 s2.heap/\(∀b∈fp,ze9 X pins H' b)/\R J H'
def PI(X:Cx)(tg iter:ak)(wi:TI):Prop :=
 ∀(pins:List (ad×ar))(s:ai)(σ : St)(H:Hp)(R:It->Hp->Prop),Inv X pins σ H s->wi σ H R →
  wpAny (am X.prog X.w) X.A (eval iter X.env) (fun v s1=>wpAny (am X.prog X.w) X.A (pyIter v) (PIE X pins σ tg R) X.xe s1) X.xe s
theorem zp1{o:ar}{n:String}{vs:Array af}{Q:Unit->ai->Prop}(H:s.heap.get? it=aa o)(a:o.cls = .type n)(hd:o.data = .fields vs)(hn:["enumerate", "zip", "dict_itemiterator", "dict_reverseitemiterator", "odict_iterator", "itertools.zip_longest", "itertools.pairwise"].contains n=ag)(hQ:Q () s):wpAny M A (b6 tg (.ref it) u) Q E s:=by
  unfold b6;cases tg <;> first
    |exact av hQ
    | (cases u <;> first
        |exact av hQ
        | (refine aj (wpAny_load H ?_)
           rw[a,hd];show wpAny M A (if (["enumerate", "zip", "dict_itemiterator", "dict_reverseitemiterator", "odict_iterator", "itertools.zip_longest", "itertools.pairwise"].contains n&&vs[0]? == aa (rawInt _))=ac then _ else _) Q E s;rw[if_neg (by intro h;rw[hn,Bool.false_and]at h;cases h)];exact av hQ))
def Itl(K:yb)(a:ad):It :=
 ⟨fun i H=>∃xs x,SqL K H a xs/\xs[i]?=aa x,fun i H x H'=>H'=H/\∀xs,SqL K H a xs->xs[i]?=aa x,fun i H=>∃xs,SqL K H a xs/\xs.length<=i⟩
def Itt(K:yb)(a:ad):It :=
 ⟨fun i H=>∃xs x,SqT K H a xs/\xs[i]?=aa x,fun i H x H'=>H'=H/\∀xs,SqT K H a xs->xs[i]?=aa x,fun i H=>∃xs,SqT K H a xs/\xs.length<=i⟩
def Itr(lo:Int)(n:Nat):It:=⟨fun i _=>i<n,fun i H x H'=>H'=H/\x = .int (lo+i),fun i _=>n<=i⟩
theorem zn7{w:al}(a it:ad):Turn P w K tg (Itl K a) [it] it (fun i h=>h.IsListIter it a i) where
 mem:=by simp
 obj:=fun i h st b f=>by
  have e:b=it:=by simpa using f
  subst e
  obtain⟨o,e,c,d⟩:=st
  exact⟨o,e,fun v z=>by rw[d]at z;cases z⟩
 keep:=fun i h h' st k=>st.at fun o e=>k it (by simp) o e
 item:=by
  intro X n l q t i pins s σ H E I g st m
  subst n l q
  obtain⟨xs,x,hq,j⟩:=m
  obtain⟨its,r,p,A⟩:=I.list hq
  obtain⟨u,C,R⟩:=r.get j
  obtain⟨f0,f1,f2,f3,f4,F⟩:=g it (by simp)
  refine wpAny_pyNext_list_item st p.isList (x:=u) (by simpa using C) fun h' S y=>?_
  have G:Inv X pins σ H { s with heap:=h' }:=I.turned (t':=s.toks) (fun b o f e=>(y.2 b f).trans e) f0 f1 f3 f4 F
  obtain⟨o,e,c,d⟩:=id S
  exact⟨u,rfl,zp1 (s:={ s with heap:=h' }) e c d (by decide) ⟨x,H,G,R,⟨rfl,fun ys B=>by rw[I.list_inj B hq];exact j⟩,S,fun b f=>(g b f).1⟩⟩
 done:=by
  intro X n l q t i pins s σ H E I g st m
  subst n l q
  obtain⟨xs,hq,j⟩:=m
  obtain⟨its,r,p,A⟩:=I.list hq
  obtain⟨f0,f1,f2,f3,f4,F⟩:=g it (by simp)
  have hl:=r.length
  exact wpAny_pyNext_list_end (I.ok.hd t) st p.isList (by simp;omega) fun h' D=>⟨rfl,I.turned (t':=s.toks) (fun b o f e=>D b o f e) f0 f1 f3 f4 F⟩
 self:=fun _ _ _ _ _ st h=>wpAny_pyIter_listiter st h
theorem zm0{w:al}(a it:ad):Turn P w K tg (Itt K a) [it] it (fun i h=>h.IsTupleIter it a i) where
 mem:=by simp
 obj:=fun i h st b f=>by
  have e:b=it:=by simpa using f
  subst e
  obtain⟨o,e,c,d⟩:=st
  exact⟨o,e,fun v z=>by rw[d]at z;cases z⟩
 keep:=fun i h h' st k=>st.at fun o e=>k it (by simp) o e
 item:=by
  intro X n l q t i pins s σ H E I g st m
  subst n l q
  obtain⟨xs,x,hq,j⟩:=m
  obtain⟨its,r,p,A⟩:=I.tuple hq
  obtain⟨u,C,R⟩:=r.get j
  obtain⟨f0,f1,f2,f3,f4,F⟩:=g it (by simp)
  refine wpAny_pyNext_tuple_item st (show s.heap.IsTuple a its.toArray from p) (x:=u) (by simpa using C) fun h' S y=>?_
  have G:Inv X pins σ H { s with heap:=h' }:=I.turned (t':=s.toks) (fun b o f e=>(y.2 b f).trans e) f0 f1 f3 f4 F
  obtain⟨o,e,c,d⟩:=id S
  exact⟨u,rfl,zp1 (s:={ s with heap:=h' }) e c d (by decide) ⟨x,H,G,R,⟨rfl,fun ys B=>by rw[I.tuple_inj B hq];exact j⟩,S,fun b f=>(g b f).1⟩⟩
 done:=by
  intro X n l q t i pins s σ H E I g st m
  subst n l q
  obtain⟨xs,hq,j⟩:=m
  obtain⟨its,r,p,A⟩:=I.tuple hq
  obtain⟨f0,f1,f2,f3,f4,F⟩:=g it (by simp)
  have hl:=r.length
  exact wpAny_pyNext_tuple_end (I.ok.hd t) st (show s.heap.IsTuple a its.toArray from p) (by simp;omega) fun h' D=>⟨rfl,I.turned (t':=s.toks) (fun b o f e=>D b o f e) f0 f1 f3 f4 F⟩
 self:=fun _ _ _ _ _ st h=>wpAny_pyIter_tupleiter st h
theorem zm1{w:al}(it:ad)(lo:Int)(n:Nat):Turn P w K tg (Itr lo n) [it] it (fun i h=>IsRangeIter h it (lo+(i:Nat)*1) ((n:Int)-(i:Nat)) 1) where
 mem:=by simp
 obj:=fun i h st b a=>by
  have e:b=it:=by simpa using a
  subst e
  exact⟨_,st,fun v z=>by
   have Z:Data.fields _=Data.cell v:=z
   cases Z⟩
 keep:=fun i h h' st k=>k it (by simp) _ st
 item:=by
  intro X j d l g i pins s σ H E I c st f
  subst j d l
  obtain⟨f0,f1,f2,f3,f4,F⟩:=c it (by simp)
  have W:=Walks.range (prog:=X.prog) (w:=X.w) (I.ok.hd g) it lo 1 n
  refine W.item i s _ _ f st fun v h' tk p S m=>?_
  obtain⟨t,rfl⟩:=p
  have r:Inv X pins σ H { s with heap:=h',toks:=tk }:=I.turned (fun b o a e=>m b o (by simpa using a) e) f0 f1 f3 f4 F
  refine⟨_,rfl,zp1 (s:={ s with heap:=h',toks:=tk }) (n := "range_iterator") S rfl rfl (by decide) ⟨.int (lo+i),H,r,⟨t,?_⟩,⟨rfl,rfl⟩,S,fun b a=>(c b a).1⟩⟩
  rw[Int.mul_one]
 done:=by
  intro X j d l g i pins s σ H E I c st f
  subst j d l
  obtain⟨f0,f1,f2,f3,f4,F⟩:=c it (by simp)
  exact wpAny_pyNext_range_end (I.ok.hd g) st (by have:n<=i:=f;omega) fun h' q=>⟨rfl,I.turned (t':=s.toks) (fun b o a e=>q b o a e) f0 f1 f3 f4 F⟩
 self:=fun _ _ _ _ _ st h=>wpAny_pyIter_rangeiter st h
variable{l:ak}{tl:TE}{p:aw}{fp:List ad}
section
def iList(K:yb)(t:TE):TI:=fun σ H R=>t σ H fun x H1=>∃a,x = .ref a/\(∃xs,SqL K H1 a xs)/\R (Itl K a) H1
def iTup(K:yb)(t:TE):TI:=fun σ H R=>t σ H fun x H1=>∃a,x = .ref a/\(∃xs,SqT K H1 a xs)/\R (Itt K a) H1
theorem ztw(hl:PE X l tl):PI X tg l (iList X.K tl):=by
 intro pins s σ H R I h;refine thn (hl pins s σ H _ I h) ?_;rintro v s1 ⟨x,d,i,r,Q⟩;obtain⟨a,e,⟨xs,hq⟩,q⟩:=Q;subst e;cases r;obtain⟨its,f,p,g⟩:=i.list hq;refine cd p.isList ?_;refine⟨s1.heap.objs.size,[s1.heap.objs.size],_,_,d,rfl,i.kept (t':=s1.toks) fun b o e=>yf _ e,zn7 a _,⟨_,yr _ rfl,rfl,rfl⟩,fun b c=>?_,q⟩;have e:b=s1.heap.objs.size:=by simpa using c
 subst e;exact i.fpOk (yc _) (i.hok.fresh (yc _))
theorem pi_tup(hl:PE X l tl):PI X tg l (iTup X.K tl):=by
 intro pins s σ H R I h;refine thn (hl pins s σ H _ I h) ?_;rintro v s1 ⟨x,d,i,r,Q⟩;obtain⟨a,e,⟨xs,hq⟩,q⟩:=Q;subst e;cases r;obtain⟨its,f,p,g⟩:=i.tuple hq;refine bM (show s1.heap.IsTuple a its.toArray from p) ?_;refine⟨s1.heap.objs.size,[s1.heap.objs.size],_,_,d,rfl,i.kept (t':=s1.toks) fun b o e=>yf _ e,zm0 a _,⟨_,yr _ rfl,rfl,rfl⟩,fun b c=>?_,q⟩;have e:b=s1.heap.objs.size:=by simpa using c
 subst e;exact i.fpOk (yc _) (i.hok.fresh (yc _))
theorem zq1{R:It->Hp->Prop}{lo hi:Int}{t u v:Tok}{tk:Nat}(I:Inv X pins σ H s)(h1 : -(2^62)<=lo)(d:lo<2^62)(c : -(2^62)<=hi)(a:hi<2^62)(q:R (Itr lo (hi-lo).toNat) H):wpAny (am X.prog X.w) X.A (pyIter (.ref s.heap.objs.size)) (PIE X pins σ tg R) E { s with heap:=s.heap.push { cls := .type "range", data := .fields #[.int lo t,.int hi u,.int 1 v] },toks:=tk }:=by
 refine wpAny_pyIter_range (IsRange.new ..) (small_one h1 d c a) ?_;have i:Inv X pins σ H { s with heap:=s.heap.push { cls := .type "range", data := .fields #[.int lo t,.int hi u,.int 1 v] },toks:=tk }:=I.kept fun b o e=>yf _ e;refine⟨(s.heap.push { cls := .type "range", data := .fields #[.int lo t,.int hi u,.int 1 v] }).objs.size,[(s.heap.push { cls := .type "range", data := .fields #[.int lo t,.int hi u,.int 1 v] }).objs.size],_,_,H,rfl,
  i.kept (t':=tk) fun b o e=>yf _ e,zm1 _ lo (hi-lo).toNat,?_,fun b h=>?_,q⟩
 ·have g:lo+((0:Nat):Int)*1=lo:=by simp
  have f:(((hi-lo).toNat:Nat):Int)-((0:Nat):Int)=yc5 lo hi 1:=by rw[rangeSize_one];split <;> omega
  show IsRangeIter _ _ (lo+((0:Nat):Int)*1) ((((hi-lo).toNat:Nat):Int)-((0:Nat):Int)) 1;rw[g,f];exact yr _ rfl
 ·have e:b=(s.heap.push { cls := .type "range", data := .fields #[.int lo t,.int hi u,.int 1 v] }).objs.size:=by simpa using h
  subst e;exact i.fpOk (yc _) (i.hok.fresh (yc _))
def iRng1(t:TA):TI:=fun σ H R=>t σ H fun vs H1=>∃j:Int,vs=[.int j] /\ -(2^62)<=j/\j<2^62/\R (Itr 0 j.toNat) H1
theorem zoQ{a:ak}{T:TA}(d:Gl X "range")(hm:X.mg "range" = none)(ha:PA X [a] T)(hs:autoParam (ap [a] X.env=[(ag,eval a X.env)]) AutoP.a3._auto_1):PI X tg (.Call (.Name "range" p) [a] [] pos) (iRng1 T):=by
 intro pins s σ H R I h;refine Call_ (zeR I d hm boot_range (PyProof.Rows.callWith_type1 (thn (ha pos pins s σ H _ I h) fun us s1 ⟨vs,f,i,b,Q⟩=>?_) hs rfl));obtain⟨j,e,Q,c,q⟩:=Q;subst e;cases b with
 |cons r rr=>
  cases rr;obtain⟨t,rfl⟩:=r;exact call_range_1 (zq1 i (by omega) (by omega) Q c (by simpa using q))
def tFor(wi:TI)(g:TG)(tb:TS):TS:=fun D σ H=>wi σ H fun J H1=>∃W:Nat->Nat->St->Hp->Prop,(∃m,W 0 m σ H1)/\∀i m σ H,W i m σ H →
 (J.stop i H/\D.nx σ H)∨(J.go i H/\∃N:St->Hp->Prop,(∀σ' H',N σ' H'->∃m',m'<m/\W (i+1) m' σ' H')/\∀x H',J.yld i H x H'->g x σ H' fun a H2=>tb { D with nx:=N,ct:=N,bk:=D.nx } a H2)
def zct(fp:List ad)(h:au):List (ad×ar):=fp.filterMap fun b=>(h.get? b).map fun o=>(b,o)
theorem zcn{o:ar}(H:b∈fp)(e:h.get? b=aa o):(b,o)∈zct fp h:=ycj.mpr ⟨b,H,by rw[e];rfl⟩
theorem zgX{p:ad×ar}(hp:p∈zct fp h):p.1∈fp/\h.get? p.1=aa p.2:=by
 obtain⟨b,H,e⟩:=ycj.mp hp;cases q:h.get? b with
 |none=>rw[q]at e;cases e|some o=>
  rw[q]at e;have E:(b,o)=p:=yG e;subst E;exact⟨H,q⟩
theorem Inv.pinned(I:Inv X pins σ H s)(c:∀b∈fp,ze9 X pins H b)(a:∀b∈fp,∃o,s.heap.get? b=aa o/\∀v,o.data ≠ .cell v):Inv X (pins++zct fp s.heap) σ H s :=
 I.pins_of fun p hp=>(yJ.mp hp).elim (fun z=>I.pin p (yC _ z)) fun z=>by
  obtain⟨h,e⟩:=zgX z;obtain⟨f0,f1,f2,_⟩:=c p.1 h;obtain⟨o,E,d⟩:=a p.1 h;rw[e]at E;cases E;exact⟨e,f0,f1,f2,d⟩
theorem Inv.unpinned{pl:List (ad×ar)}(I:Inv X (pins++pl) σ H s):Inv X pins σ H s:=I.pins_of fun p hp=>I.pin p (yC _ (yau _ hp))
theorem ps_for{iter:ak}{wi:TI}{g:TG}{tb:TS}(hp:PassesOwn (am X.prog X.w) X.A X.env X.xe)(K:X.calm=ac)(hi:PI X tg iter wi)(hg:PG X tg g)(j:PSs X body tb)(hs:autoParam (∀x,bc iter X.env x=pure x) AutoP.a2._auto_1):PS X (.For tg iter body [] pos) (tFor wi g tb):=by
 intro pins s σ H D I h;refine wpAny_For (thn (hi pins s σ H _ I h) fun v s1 h1=>thn h1 fun itv s2 h2=>?_) hs;obtain⟨it,fp,tn,J,H2,e,I2,T,A,f2,W,⟨m0,w0⟩,turn⟩:=h2;subst e;have S:∀{H':Hp},(∀b∈fp,H' b=none)->∀b∈fp,ze9 X pins H' b:=fun hn b j=>⟨hn b j,(f2 b j).2⟩;refine codeAny_forLoop_any (fun n s'=>∃i σ' H',Inv X pins σ' H' s'/\tn i s'.heap/\(∀b∈fp,H' b=none)/\W i n σ' H') ?_ m0 ⟨0,σ,H2,I2,A,fun b j=>(f2 b j).1,w0⟩;rintro n G ⟨i,c,y,L,t,F,P⟩;rcases turn i n c y P with⟨stop,Z⟩|⟨go,N,hN,step⟩
 ·refine bF hp (thn (T.done X rfl rfl rfl K i pins G c y X.xe L (S F) t stop) ?_);rintro r R ⟨hr,I4⟩;subst hr;exact bC ⟨c,y,I4,Z⟩
 ·refine bF hp (thn (T.item X rfl rfl rfl K i pins G c y X.xe L (S F) t go) ?_);rintro r R ⟨u,hr,h4⟩;subst hr;refine bF hp (thn h4 ?_);rintro _ E ⟨x,M,I5,V,Y,p,B⟩;have C:=I5.pinned (S B) (T.obj _ _ p);refine bF hp (thn (hg _ E c M x u _ C V (step x M Y)) ?_);rintro _ Q ⟨z,H6,I6,q6⟩;refine bF hp (thn (j _ Q z H6 _ I6 q6) fun f s7 q=>?_);have again:∀{a:St}{l:Hp},Inv X (pins++zct fp E.heap) a l s7->N a l->∃m,m<n/\∃i σ' H',Inv X pins σ' H' s7/\tn i s7.heap/\(∀b∈fp,H' b=none)/\W i m σ' H':=fun {a l} k w=>by
   obtain⟨m',hm,O⟩:=hN a l w;refine⟨m',hm,i+1,a,l,k.unpinned,T.keep _ _ _ p fun b j o e=>(k.pin (b,o) (yC _ (yC _ (zcn j e)))).1,fun b j=>?_,O⟩;obtain⟨o,e,d⟩:=T.obj _ _ p b j;exact(k.pin (b,o) (yC _ (yC _ (zcn j e)))).2.1
  cases f with
  |next=>obtain⟨a,l,k,w⟩:=q;exact again k w
  |cont=>obtain⟨a,l,k,w⟩:=q;exact again k w
  |brk=>obtain⟨a,l,k,q⟩:=q;exact⟨a,l,k.unpinned,q⟩
  |ret v=>obtain⟨x7,a,l,k,U,q⟩:=q;exact⟨x7,a,l,k.unpinned,U,q⟩
end
abbrev R2:=V->V->Hp->VK->Prop
def OpR(X:Cx)(f:af->af->Sem af)(r:R2):Prop :=
 ∀(pins:List (ad×ar))(s:ai)(σ : St)(H:Hp)(x y:V)(v u:af)(Q:VK),Inv X pins σ H s->RelV x v->RelV y u->r x y H Q →
  wpAny (am X.prog X.w) X.A (f v u) (EP X pins σ Q) X.xe s
def UnR(X:Cx)(f:af->Sem af)(r:V->Hp->VK->Prop):Prop :=
 ∀(pins:List (ad×ar))(s:ai)(σ : St)(H:Hp)(x:V)(v:af)(Q:VK),Inv X pins σ H s->RelV x v->r x H Q →
  wpAny (am X.prog X.w) X.A (f v) (EP X pins σ Q) X.xe s
def CallR(X:Cx)(f:af)(r:List V->Hp->VK->Prop):Prop :=
 ∀(pins:List (ad×ar))(s:ai)(σ : St)(H:Hp)(xs:List V)(us:List af)(Q:VK),Inv X pins σ H s->Vals xs us->r xs H Q →
  wpAny (am X.prog X.w) X.A (call f us) (EP X pins σ Q) X.xe s
def tOp(r:R2)(t tb:TE):TE:=fun σ H Q=>t σ H fun x H1=>tb σ H1 fun y H2=>r x y H2 Q
def tUn(r:V->Hp->VK->Prop)(t:TE):TE:=fun σ H Q=>t σ H fun x H1=>r x H1 Q
def rI(C:Int->Int->Prop)(g:Int->Int->V):R2:=fun x y H Q=>∃i j,x = .int i/\y = .int j/\C i j/\Q (g i j) H
def rI0(g:Int->Int->V):R2:=fun x y H Q=>∃i j,x = .int i/\y = .int j/\Q (g i j) H
def rU(g:Int->V):V->Hp->VK->Prop:=fun x H Q=>∃i,x = .int i/\Q (g i) H
variable{g:Int->Int->Int}{f:af->af->Sem af}{r:R2}
section
variable{a b:ak}{tc:TE}
theorem binT(ha:PE X a ta)(i:PE X b tb){R:V->V->Hp->Prop}(I:Inv X pins σ H s)(h:ta σ H fun x H1=>tb σ H1 fun y H2=>R x y H2)(g:∀v u s2 x y H2,Inv X pins σ H2 s2->RelV x v->RelV y u->R x y H2->wpAny (am X.prog X.w) X.A (f v u) Q X.xe s2) : wpAny (am X.prog X.w) X.A (eval a X.env) (fun v c=>wpAny (am X.prog X.w) X.A (eval b X.env) (fun u S=>wpAny (am X.prog X.w) X.A (f v u) Q X.xe S) X.xe c) X.xe s:=by
 refine thn (ha pins s σ H _ I h) ?_;rintro v s1 ⟨x,H1,k,d,e⟩;refine thn (i pins s1 σ H1 _ k e) ?_;rintro u s2 ⟨y,H2,j,r,q⟩;exact g v u s2 x y H2 j d r q
theorem pe_op{op:Operator}(d:OpR X (aK op) r)(ha:PE X a ta)(e:PE X b tb):PE X (.BinOp a op b pos) (tOp r ta tb):=by
 intro pins s σ H Q I h;exact wpAny_BinOp (binT ha e I h fun v u s2 x y f i c R q=>d pins s2 σ f x y v u Q i c R q)
theorem pe_un{op:UnaryOp}{r:V->Hp->VK->Prop}(b:UnR X (unaryOp op) r)(ha:PE X a ta):PE X (.UnaryOp op a pos) (tUn r ta):=by
 intro pins s σ H Q I h;refine UnaryOp_ (thn (ha pins s σ H _ I h) ?_);rintro v s1 ⟨x,c,i,R,q⟩;exact b pins s1 σ c x v Q i R q
theorem opI{C:Int->Int->Prop}
  (rule:∀(i j:Int)(t u:Tok)(s:ai)(Q:af->ai->Prop)(E:af->ai->Prop),C i j->Q (.int (g i j) s.toks) { s with toks:=s.toks+1 }->wpAny (am X.prog X.w) X.A (f (.int i t) (.int j u)) Q E s) :
  OpR X f (rI C fun i j=>.int (g i j)):=by
 intro pins s σ H x y v u Q I R r h;obtain⟨i,j,rfl,rfl,a,q⟩:=h;obtain⟨t,rfl⟩:=R;obtain⟨t',rfl⟩:=r;exact rule i j t t' s _ _ a ⟨.int (g i j),H,I.tok _,⟨_,rfl⟩,q⟩
theorem opI0
  (rule:∀(i j:Int)(t u:Tok)(s:ai)(Q:af->ai->Prop)(E:af->ai->Prop),Q (.int (g i j) s.toks) { s with toks:=s.toks+1 }->wpAny (am X.prog X.w) X.A (f (.int i t) (.int j u)) Q E s) :
  OpR X f (rI0 fun i j=>.int (g i j)):=by
 intro pins s σ H x y v u Q I R r h;obtain⟨i,j,rfl,rfl,q⟩:=h;obtain⟨t,rfl⟩:=R;obtain⟨t',rfl⟩:=r;exact rule i j t t' s _ _ ⟨.int (g i j),H,I.tok _,⟨_,rfl⟩,q⟩
theorem opB0{g:Int->Int->Bool}(rule:∀(i j:Int)(t u:Tok)(s:ai)(Q:af->ai->Prop)(E:af->ai->Prop),Q (.bool (g i j)) s->wpAny (am X.prog X.w) X.A (f (.int i t) (.int j u)) Q E s) : OpR X f (rI0 fun i j=>.bl (g i j)):=by
 intro pins s σ H x y v u Q I R r h;obtain⟨i,j,rfl,rfl,q⟩:=h;obtain⟨t,rfl⟩:=R;obtain⟨t',rfl⟩:=r;exact rule i j t t' s _ _ ⟨.bl (g i j),H,I,rfl,q⟩
def CPow(i j:Int):Prop:=0<=j/\j<=1000000/\i.natAbs<2^64
def CMul(i j:Int):Prop:=(-(2^64)<i/\i<2^64)∨(-(2^64)<j/\j<2^64)
theorem CMul.ok{i j:Int}(h:CMul i j):IntMulOk i j:=by
 rcases h with⟨h1,H⟩|⟨h1,H⟩
 ·exact .of_left (intBits_le_64 h1 H)
 ·exact .of_right (intBits_le_64 h1 H)
theorem op_add:OpR X (aK .Add) (rI0 fun i j=>.int (i+j)):=opI0 fun _ _ _ _ _ _ _ q=>add_int q
theorem zbz:OpR X (aK .Sub) (rI0 fun i j=>.int (i-j)):=opI0 fun _ _ _ _ _ _ _ q=>sub_int q
theorem op_mul:OpR X (aK .Mult) (rI CMul fun i j=>.int (i*j)):=opI fun _ _ _ _ _ _ _ h q=>mul_int q h.ok
theorem zbc:OpR X (aK .Mod) (rI (fun _ j=>0<j) fun i j=>.int (i%j)):=opI fun i j _ _ _ _ _ h q=>by
 have h1:(0:Int)<j:=h;exact mod_int' (by omega) (by rw[Int.fmod_eq_emod_of_nonneg i (by omega)];exact q)
theorem zfM:OpR X (aK .Pow) (rI CPow fun i j=>.int (i^j.toNat)):=opI fun _ _ _ _ _ _ _ h q=>pow_int_small h.1 h.2.1 h.2.2 q
theorem zb6:OpR X (aK .LShift) (rI CPow fun i j=>.int (i*2^j.toNat)):=opI fun _ _ _ _ _ _ _ h q=>lshift_int_small h.1 h.2.1 h.2.2 q
theorem unI{f:af->Sem af}{g:Int->Int}
  (rule:∀(i:Int)(t:Tok)(s:ai)(Q:af->ai->Prop)(E:af->ai->Prop),Q (.int (g i) s.toks) { s with toks:=s.toks+1 }->wpAny (am X.prog X.w) X.A (f (.int i t)) Q E s) :
  UnR X f (rU fun i=>.int (g i)):=by
 intro pins s σ H x v Q I r h;obtain⟨i,rfl,q⟩:=h;obtain⟨t,rfl⟩:=r;exact rule i t s _ _ ⟨.int (g i),H,I.tok _,⟨_,rfl⟩,q⟩
theorem zhP:UnR X (unaryOp .USub) (rU fun i=>.int (-i)):=unI fun _ _ _ _ _ q=>neg_int q
end
def scal:V->V->Bool
 |.non,.non=>ac | .non,.int _=>ac | .int _,.non=>ac | .non,.bl _=>ac | .bl _,.non=>ac | .non,.str _=>ac | .str _,.non=>ac|.int _,.int _=>ac | .bl _,.bl _=>ac | .str _,.str _=>ac | .byt _,.byt _=>ac|.int _,.str _=>ac | .str _,.int _=>ac | .bl _,.str _=>ac | .str _,.bl _=>ac|_,_=>ag
def rEq:R2:=fun x y H Q=>scal x y=ac/\Q (.bl (decide (x=y))) H
def rNe:R2:=fun x y H Q=>scal x y=ac/\Q (.bl (!decide (x=y))) H
theorem zqk{i j:Int}:decide (V.int i=V.int j)=(i==j):=by
 rw[ybM];simp
theorem zsu{i j:Bool}:decide (V.bl i=V.bl j)=(i==j):=by
 rw[ybM];simp
theorem zqj{i j:ae}:decide (V.str i=V.str j)=(i==j):=by
 rw[ybM];simp
theorem zql{i j:Array UInt8}:decide (V.byt i=V.byt j)=(i.toList==j.toList):=by
 rw[ybM];cases i;cases j;simp
variable{op:CmpOp}
section
variable{a b:ak}{tc:TE}
theorem zaO{Q:VK}{k K:Bool}(I:Inv X pins σ H s)(q:Q (.bl k) H)(e:k=K):EP X pins σ Q (.bool K) s:=by
 subst e;exact⟨.bl k,H,I,rfl,q⟩
theorem op_eq:OpR X (aB .Eq) rEq:=by
 intro pins s σ H x y v u Q I R r h;obtain⟨hs,q⟩:=h;cases x with
 |non=>
  cases R;cases y with
  |non=>cases r;exact PySem.EqNone.eq_none_none (zaO I q (by simp))|bl j=>cases r;exact PySem.EqNone.eq_none_bool (zaO I q (by simp))|int j=>obtain⟨t',rfl⟩:=r;exact PySem.EqNone.eq_none_int (zaO I q (by simp))
  |str j=>obtain⟨t',rfl⟩:=r;exact PySem.EqNone.eq_none_str (zaO I q (by simp))
  |_=>exact absurd (show ag=ac from hs) yu
 |bl i=>
  cases R;cases y with
  |non=>cases r;exact PySem.EqNone.eq_bool_none (zaO I q (by simp))|bl j=>cases r;exact eq_bool (zaO I q zsu)|str j=>obtain⟨t',rfl⟩:=r;exact PySem.EqMixed.eq_bool_str (zaO I q (by simp))
  |_=>exact absurd (show ag=ac from hs) yu
 |int i=>
  obtain⟨t,rfl⟩:=R;cases y with
  |non=>cases r;exact PySem.EqNone.eq_int_none (zaO I q (by simp))|int j=>obtain⟨t',rfl⟩:=r;exact eq_int (zaO I q zqk)
  |str j=>obtain⟨t',rfl⟩:=r;exact PySem.EqMixed.eq_int_str (zaO I q (by simp))
  |_=>exact absurd (show ag=ac from hs) yu
 |str i=>
  obtain⟨t,rfl⟩:=R;cases y with
  |non=>cases r;exact PySem.EqNone.eq_str_none (zaO I q (by simp))|bl j=>cases r;exact PySem.EqMixed.eq_str_bool (zaO I q (by simp))|int j=>obtain⟨t',rfl⟩:=r;exact PySem.EqMixed.eq_str_int (zaO I q (by simp))
  |str j=>obtain⟨t',rfl⟩:=r;exact eq_str (zaO I q zqj)
  |_=>exact absurd (show ag=ac from hs) yu
 |byt i=>
  obtain⟨t,rfl⟩:=R;cases y with
  |byt j=>obtain⟨t',rfl⟩:=r;exact PySem.W.eq_bytes (zaO I q zql)
  |_=>exact absurd (show ag=ac from hs) yu
 |_=>cases y <;> exact absurd (show ag=ac from hs) yu
theorem op_ne:OpR X (aB .NotEq) rNe:=by
 intro pins s σ H x y v u Q I R r h;obtain⟨hs,q⟩:=h;cases x with
 |non=>
  cases R;cases y with
  |non=>cases r;exact PySem.EqNone.ne_none_none (zaO I q (by simp))|bl j=>cases r;exact PySem.EqNone.ne_none_bool (zaO I q (by simp))|int j=>obtain⟨t',rfl⟩:=r;exact PySem.EqNone.ne_none_int (zaO I q (by simp))
  |str j=>obtain⟨t',rfl⟩:=r;exact PySem.EqNone.ne_none_str (zaO I q (by simp))
  |_=>exact absurd (show ag=ac from hs) yu
 |bl i=>
  cases R;cases y with
  |non=>cases r;exact PySem.EqNone.ne_bool_none (zaO I q (by simp))|bl j=>cases r;exact ne_bool (zaO I q (congrArg not zsu))|str j=>obtain⟨t',rfl⟩:=r;exact PySem.EqMixed.ne_bool_str (zaO I q (by simp))
  |_=>exact absurd (show ag=ac from hs) yu
 |int i=>
  obtain⟨t,rfl⟩:=R;cases y with
  |non=>cases r;exact PySem.EqNone.ne_int_none (zaO I q (by simp))|int j=>obtain⟨t',rfl⟩:=r;exact ne_int (zaO I q (congrArg not zqk))
  |str j=>obtain⟨t',rfl⟩:=r;exact PySem.EqMixed.ne_int_str (zaO I q (by simp))
  |_=>exact absurd (show ag=ac from hs) yu
 |str i=>
  obtain⟨t,rfl⟩:=R;cases y with
  |non=>cases r;exact PySem.EqNone.ne_str_none (zaO I q (by simp))|bl j=>cases r;exact PySem.EqMixed.ne_str_bool (zaO I q (by simp))|int j=>obtain⟨t',rfl⟩:=r;exact PySem.EqMixed.ne_str_int (zaO I q (by simp))
  |str j=>obtain⟨t',rfl⟩:=r;exact ne_str (zaO I q (congrArg not zqj))
  |_=>exact absurd (show ag=ac from hs) yu
 |byt i=>
  obtain⟨t,rfl⟩:=R;cases y with
  |byt j=>obtain⟨t',rfl⟩:=r;exact PySem.W.ne_bytes (zaO I q (congrArg not zql))
  |_=>exact absurd (show ag=ac from hs) yu
 |_=>cases y <;> exact absurd (show ag=ac from hs) yu
theorem op_lt:OpR X (aB .Lt) (rI0 fun i j=>.bl (decide (i<j))):=opB0 fun _ _ _ _ _ _ _ q=>lt_int q
theorem zo8:OpR X (aB .Gt) (rI0 fun i j=>.bl (decide (j<i))):=opB0 fun _ _ _ _ _ _ _ q=>gt_int q
theorem ztM:OpR X (aB .GtE) (rI0 fun i j=>.bl (decide (j<=i))):=opB0 fun _ _ _ _ _ _ _ q=>ge_int q
theorem zo5:OpR X (aB .Lt) (fun x y H Q=>∃i j,x = .str i/\y = .str j/\Q (.bl (decide (i.cps.toList<j.cps.toList))) H):=by
 intro pins s σ H x y v u Q I R r h;obtain⟨i,j,rfl,rfl,q⟩:=h;obtain⟨t,rfl⟩:=R;obtain⟨t',rfl⟩:=r;exact lt_str (zaO I q rfl)
theorem zo6:OpR X (aB .In) (fun x y H Q=>∃i j,x = .str i/\y = .str j/\Q (.bl (!(ybN j i 0 j.length 1).isEmpty)) H):=by
 intro pins s σ H x y v u Q I R r h;obtain⟨i,j,rfl,rfl,q⟩:=h;obtain⟨t,rfl⟩:=R;obtain⟨t',rfl⟩:=r;exact in_str (zaO I q rfl)
theorem op_isN:OpR X (aB .Is) (fun x y H Q=>y = .non/\Q (.bl (decide (x = .non))) H):=by
 intro pins s σ H x y v u Q I r R h;obtain⟨rfl,q⟩:=h;cases R;refine is_none_gen (zaO I q ?_);cases x <;> first
  | (cases r;rfl)
  | (obtain⟨t,rfl⟩:=r;rfl)
theorem ztK:OpR X (aB .IsNot) (fun x y H Q=>y = .non/\Q (.bl (!decide (x = .non))) H):=by
 intro pins s σ H x y v u Q I r R h;obtain⟨rfl,q⟩:=h;cases R;refine isnot_none_gen (zaO I q ?_);cases x <;> first
  | (cases r;rfl)
  | (obtain⟨t,rfl⟩:=r;rfl)
theorem zjJ:OpR X (aB .NotIn) (fun x y H Q=>∃i j,x = .str i/\y = .str j/\Q (.bl (!(!(ybN j i 0 j.length 1).isEmpty))) H):=by
 intro pins s σ H x y v u Q I R r h;obtain⟨i,j,rfl,rfl,q⟩:=h;obtain⟨t,rfl⟩:=R;obtain⟨t',rfl⟩:=r;exact notIn_str (zaO I q rfl)
theorem OpR.or{b:R2}(h:OpR X f r)(h':OpR X f b):OpR X f (fun x y H Q=>r x y H Q∨b x y H Q):=by
 intro pins s σ H x y v u Q I a R q;rcases q with q|q
 ·exact h pins s σ H x y v u Q I a R q
 ·exact h' pins s σ H x y v u Q I a R q
theorem zaq(b:ak)(h:autoParam (op ≠ .In) AutoP.a1._auto_1)(H:autoParam (op ≠ .NotIn) AutoP.a1._auto_1):bN op b=ag:=by
 have E:(op==CmpOp.In)=ag:=by cases op <;> first | rfl | exact absurd rfl h
 have e:(op==CmpOp.NotIn)=ag:=by cases op <;> first | rfl | exact absurd rfl H
 cases b <;> simp[bN,E,e]
theorem ztC(d:OpR X (aB op) r)(ha:PE X a ta)(e:PE X b tb)(hm:bN op b=ag):PE X (.Compare a [op] [b] pos) (tOp r ta tb):=by
 intro pins s σ H Q I h;exact wpAny_Compare1 (binT ha e I h fun v u s2 x y f i c R q=>d pins s2 σ f x y v u Q i c R q) hm
def tTest(t:TE):TT:=fun σ H Q=>t σ H fun x H'=>∃k,x = .bl k/\Q k H'
theorem ztg(j:OpR X (aB op) r)(ha:PE X a ta)(l:PE X b tb)(hm:bN op b=ag):PT X (.Compare a [op] [b] pos) (tTest (tOp r ta tb)):=by
 intro pins s σ H Q I h;refine wpAny_isTrue_Compare1 (thn (ha pins s σ H _ I h) fun v s1 ⟨x,w,o,f,i⟩=>thn (l pins s1 σ w _ o i) fun u s2 ⟨y,t,n,d,g⟩=>
  thn (j pins s2 σ t x y v u _ n f d g) fun c S ⟨z,p,m,R,k,e,q⟩=>?_) hm
 subst e;cases R;exact bo ⟨p,m,q⟩
theorem zh3:(sizeLine:Nat)<2^63:=by rw[bf];decide
theorem zni:OpR X (aK .Add) (fun x y H Q=>∃i j,x = .str i/\y = .str j/\i.length+j.length<=sizeLine/\Q (.str (i++j)) H):=by
 intro pins s σ H x y v u Q I R r h;obtain⟨i,j,rfl,rfl,a,q⟩:=h;obtain⟨t,rfl⟩:=R;obtain⟨t',rfl⟩:=r;exact add_str (fun t' tk=>⟨.str (i++j),H,I.tok _,⟨_,rfl⟩,q⟩) a
theorem zch{x:V}(r:Vals [x] us):∃u,us=[u]/\RelV x u:=by
 cases r with
 |cons a R=>cases R;exact⟨_,rfl,a⟩
theorem zjm{x:V}(r:Vals [x,y] us):∃u w',us=[u,w']/\RelV x u/\RelV y w':=by
 cases r with
 |cons c b=>
  cases b with
  |cons a R=>cases R;exact⟨_,_,rfl,c,a⟩
theorem zmU:CallR X (.builtin "abs") (fun xs H Q=>∃i,xs=[.int i]/\Q (.int (if i<0 then -i else i)) H):=by
 intro pins s σ H xs us Q I r h;obtain⟨i,rfl,q⟩:=h;obtain⟨u,rfl,t,rfl⟩:=zch r;exact call_abs_int fun u tk=>⟨.int (if i<0 then -i else i),H,I.tok _,⟨_,rfl⟩,q⟩
theorem zkG(b:X.calm=ac):CallR X (.builtin "max") (fun xs H Q=>∃i j,xs=[.int i,.int j]/\Q (.int (if j>i then j else i)) H):=by
 intro pins s σ H xs us Q I r h;obtain⟨i,j,rfl,q⟩:=h;obtain⟨u,w,rfl,⟨t,rfl⟩,⟨t',rfl⟩⟩:=zjm r;refine max_two_ints (I.ok.hd b) fun h' tk k=>⟨_,H,I.kept k,?_,q⟩;by_cases a:j>i
 ·rw[if_pos a,if_pos a];exact⟨_,rfl⟩
 ·rw[if_neg a,if_neg a];exact⟨_,rfl⟩
theorem zqs(b:X.calm=ac):CallR X (.builtin "min") (fun xs H Q=>∃i j,xs=[.int i,.int j]/\Q (.int (if j<i then j else i)) H):=by
 intro pins s σ H xs us Q I r h;obtain⟨i,j,rfl,q⟩:=h;obtain⟨u,w,rfl,⟨t,rfl⟩,⟨t',rfl⟩⟩:=zjm r;refine min_two_ints (I.ok.hd b) fun h' tk k=>⟨_,H,I.kept k,?_,q⟩;by_cases a:j<i
 ·rw[if_pos a,if_pos a];exact⟨_,rfl⟩
 ·rw[if_neg a,if_neg a];exact⟨_,rfl⟩
theorem zqw:CallR X (.type "int") (fun xs H Q=>(∃i,xs=[.int i]/\Q (.int i) H)∨∃k,xs=[.bl k]/\Q (.int (if k then 1 else 0)) H):=by
 intro pins s σ H xs us Q I r h;rcases h with⟨i,rfl,q⟩|⟨k,rfl,q⟩
 ·obtain⟨u,rfl,t,rfl⟩:=zch r;exact call_int_int ⟨.int i,H,I,⟨_,rfl⟩,q⟩
 ·obtain⟨u,rfl,R⟩:=zch r;cases R;exact call_int_bool ⟨.int (if k then 1 else 0),H,I.tok _,⟨_,rfl⟩,q⟩
theorem zkD:CallR X (.type "str") (fun xs H Q=>∃i,xs=[.int i]/\i.natAbs.log2<1920/\Q (.str (toString i)) H):=by
 intro pins s σ H xs us Q I r h;obtain⟨i,rfl,a,q⟩:=h;obtain⟨u,rfl,t,rfl⟩:=zch r;exact PySem.P.str_of_int a ⟨.str _,H,I.tok _,⟨_,rfl⟩,q⟩
end
structure ObjM(h:au)(x dx C:ad)(mA:ae->Option af):Prop where
 obj:h.get? x=aa (yaE C dx)
 ns:h.Ns1 dx mA
 ne:dx≠x
variable{dx:ad}{mA:ae->Option af}
theorem zpG(n:h.Ns1 dx mA):∃od,h.get? dx=aa od/\∀name,ybO name od=aa (mA name):=by
 obtain⟨o,es,ep,c,hd,d,_,hm⟩:=n;refine⟨o,c,fun name=>?_⟩;have e:=hm name;unfold nsFind findBy at e;rw[<- Array.find?_toList]at e;unfold ybO;rw[hd];dsimp only;split
 ·rename_i y q;rw[q]at e;exact congrArg aa e
 ·rename_i q;rw[q]at e;have a:es.toList.any (·.refKey)=ag:=by
   rw[List.any_eq_false];intro y b;obtain⟨z,t,H⟩:=d y (Array.mem_toList_iff.mp b);simp[DictEntry.refKey,H]
  have A : ¬ es.toList.any (·.refKey)=ac:=by rw[a];exact yu
  rw[if_neg A];exact congrArg aa e
variable{C:ad}
theorem ObjM.look{x:ad}(I:ObjM h x dx C mA):∃od,PySem.W.InstAt h x (yaE C dx) C (aa od)/\∀name,ybO name od=aa (mA name) :=
 let ⟨od,ho,hl⟩:=zpG I.ns
 ⟨od,⟨I.obj,rfl,rfl,ho⟩,hl⟩
variable{prog:aq}{name:ae}{pl:Sem Bool}{kw:List (ae×af)}
section
variable{w:al}{x f:ad}{v:af}
theorem zum{e:Bool}(X:K.In s.heap)(I:ObjM s.heap x dx C mA)(c:ybg K C name=ac)(b:ybP K C=ac)
  (ha:yL K (.ref C) name=aa none) (a:mA name=aa v) (H:yc6 v=ac) (h:Q v { s with toks:=s.toks+1 }) :
  wpAny (am prog w) A (getAttr (.ref x) name e) Q E s:=by
 obtain⟨od,J,hl⟩:=I.look;exact PySem.W.get_value X J (yck c).1 (PySem.W.findObj_own b ha rfl (by rw[hl,a])) H h
theorem zrH{Q:af×List af->ai->Prop}(X:K.In s.heap)(I:ObjM s.heap x dx C mA)(H:ybg K C name=ac)(c:yL K (.ref C) name=aa (aa (.ref f)))(b:yW K (.ref f)=ac)(a:mA name=none)(h:Q (.ref f,[.ref x]) s) : wpAny (am prog w) A (getMethod (.ref x) name pl) Q E s:=by
 obtain⟨od,J,hl⟩:=I.look;exact PySem.W.method_fn X J (yck H).1 (yck H).2 c (beq_iff_eq.mp b) (by show (ybO name od).map (·.isSome)=aa ag;rw[hl,a];rfl) h
theorem zsU{ns:List ae}{Q:Unit->ai->Prop}(X:K.In s.heap)(I:ObjM s.heap x dx C mA)
  (hs:yL K (.ref C) "__setattr__" = aa (aa (.builtin "object.__setattr__"))) (hp:ycl K C=ac) (k:ycm K C name=aa none) (l:ybP K C=ac)
  (j:ycg mA ns) (hsz:ns.length<=sizeLine)
  (h:∀h',ObjM h' x dx C (fun y=>if y=name then aa v else mA y)->yaP dx s.heap h'->Q () { s with heap:=h',toks:=s.toks+2 }) :
  wpAny (am prog w) A (setAttr (.ref x) name v) Q E s:=by
 obtain⟨od,J,hl⟩:=I.look;refine PySem.W.set_plain X J hs (PySem.W.osa_open (s:={ s with toks:=s.toks+1 }) (r:=none) X J hp k fun b=>?_);obtain⟨p,m,f⟩:=PySem.W.any_some l;have i:s.heap.get? x=aa ⟨.ref C,aa dx,.plain,#[]⟩:=I.obj;refine aj (av (aj (aj (wpAny_loadPart i (aj (PySem.W.Looks.here (s:={ s with toks:=s.toks+1 }) (PySem.W.looks_clsIn X m) ?_))))));rw[f];refine av (a:=aa dx) (aj (av (aj ?_)));refine wpAny_nsSet1 (s:={ s with toks:=s.toks+1 }) I.ns fun h' c H=>?_;obtain⟨O,n,o,d,e,g⟩:=c.count (PySem.Within.cons name v j);refine aj (wpAny_lookBehind d (by rw[e];exact pastItsLine_dict (yx g (by rw[yt];omega))) ?_);exact av (h _ ⟨(H.2 _ (Ne.symm I.ne)).trans I.obj,c,I.ne⟩ H)
theorem zrx{R:bG->ai->Prop}{vs:List af}(X:K.In s.heap)(hm:ycn K C=ac)
  (hi:yL K (.ref C) "__init__" = aa (aa (.ref f))) (H:yco K (.ref f)=aa (.type "function"))
  (h:codeAny (am prog w) (A.under (.builtin "type.__call__" ⟨.ref C::vs,kw⟩)) (.call (.ref f) ⟨.ref (s.heap.objs.size+1)::vs,kw⟩) (PySem.W.InitBack (s.heap.objs.size+1) R)
   { s with heap:=(s.heap.push yav).push (yaE C s.heap.objs.size) }) :
  codeAny (am prog w) A (.call (.ref C) ⟨vs,kw⟩) R s:=by
 obtain⟨a,g,d,t,os⟩:=s;exact PySem.W.make_core (PySem.W.makes_of X hm) (PySem.W.looks_findIn X hi) (fun self=>PySem.W.bind_fn X self H) (.inl rfl) h
end
def zhy(f:ae)(v:V):List (ae×V)->List (ae×V)
 |[]=>[(f,v)]| (g,x)::r=>if g=f then (g,v)::r else (g,x)::zhy f v r
theorem zg3(f g:ae)(v:V):∀fs:List (ae×V),(zhy f v fs).lookup g=if g=f then aa v else fs.lookup g
 |[]=>by
  show yaR g [(f,v)]=_;by_cases h:g=f
  ·have H:(g==f)=ac:=beq_iff_eq.mpr h;simp only[yaR,H,if_pos h]
  ·have H:(g==f)=ag:=beq_eq_false_iff_ne.mpr h;simp only[yaR,H,if_neg h]
 | (k,x)::r=>by
  have i:=zg3 f g v r;rw[show zhy f v ((k,x)::r)=(if k=f then (k,v)::r else (k,x)::zhy f v r) from rfl];by_cases a:k=f
  ·rw[if_pos a];by_cases h:g=k
   ·have H:(g==k)=ac:=beq_iff_eq.mpr h;simp only[yaR,H,if_pos (h.trans a)]
   ·have H:(g==k)=ag:=beq_eq_false_iff_ne.mpr h;simp only[yaR,H,if_neg (fun e:g=f=>h (e.trans a.symm))]
  ·rw[if_neg a];by_cases h:g=k
   ·have H:(g==k)=ac:=beq_iff_eq.mpr h;simp only[yaR,H,if_neg (fun e:g=f=>a (h.symm.trans e))]
   ·have H:(g==k)=ag:=beq_eq_false_iff_ne.mpr h;simp only[yaR,H];exact i
theorem zg7(f:ae)(v:V):∀fs:List (ae×V),f∈(zhy f v fs).map (·.1)/\∀g,g∈fs.map (·.1)->g∈(zhy f v fs).map (·.1)
 |[]=>⟨by simp[zhy],fun g h=>by simp at h⟩| (k,x)::r=>by
  obtain⟨i1,i2⟩:=zg7 f v r;rw[show zhy f v ((k,x)::r)=(if k=f then (k,v)::r else (k,x)::zhy f v r) from rfl];by_cases H:k=f
  ·rw[if_pos H];subst H;exact⟨by simp,fun g h=>by simpa using h⟩
  ·rw[if_neg H];refine⟨?_,fun g h=>?_⟩
   ·rw[yl];exact yK _ i1
   ·rw[yl]at h ⊢;rcases yn.mp h with e|e
    ·exact yn.mpr (.inl e)
    ·exact yK _ (i2 g e)
theorem zg4(f:ae)(v:V):∀fs:List (ae×V),(zhy f v fs).length<=fs.length+1
 |[]=>by simp[zhy]| (k,x)::r=>by
  have i:=zg4 f v r;rw[show zhy f v ((k,x)::r)=(if k=f then (k,v)::r else (k,x)::zhy f v r) from rfl];by_cases h:k=f
  ·rw[if_pos h,yt,yt];omega
  ·rw[if_neg h,yt,yt];omega
theorem RelO.some_of{o:Option af}(r:RelO (aa v) o):∃u,o=aa u/\RelV v u:=by
 cases o with
 |none=>exact(show False from r).elim|some u=>exact⟨u,rfl,r⟩
theorem RelO.none_of{o:Option af}(r:RelO none o):o=none:=by
 cases o with
 |none=>rfl|some u=>exact(show False from r).elim
theorem zp0(r:RelV v u):yc6 u=ac:=by
 cases v with
 |non=>cases (show u=yab from r);rfl|bl b=>cases (show u=ybf b from r);rfl|int i=>obtain⟨t,e⟩:=(show ∃t,u=yaD i t from r);cases e;rfl
 |str x=>obtain⟨t,e⟩:=(show ∃t,u=yaY x t from r);cases e;rfl
 |byt b=>obtain⟨t,e⟩:=(show ∃t,u=Value.bytes b t from r);cases e;rfl
 |flt b=>obtain⟨t,e⟩:=(show ∃t,u=ycf b t from r);cases e;rfl
 |ref a=>cases (show u=yo a from r);rfl|ty n=>cases (show u=yat n from r);rfl
section
variable{w:al}{fs fs':List (ae×V)}
theorem zi8(hok:HOk P w H h)(e:H a=aa (.ins C dx fs)):∃mA,ObjM h a dx C mA/\(∀f,RelO (fs.lookup f) (mA f))/\ycg mA (fs.map (·.1))/\fs.length<=1000/\H dx=aa (.own a):=by
 obtain⟨d,z,ne,ob,mA,n,r,q⟩:=(show ObjOk P w H h a (.ins C dx fs) from hok a _ e);exact⟨mA,⟨ob,n,ne⟩,r,q,z,d⟩
end
structure Cls(K:yb)(C:ad):Prop where
 pg:ybg K C Str.empty=ac
 hd:ybP K C=ac
 po:ycl K C=ac
 sa:yL K (.ref C) "__setattr__" = aa (aa (.builtin "object.__setattr__"))
theorem Cls.get(c:Cls K C)(f:ae):ybg K C f=ac:=c.pg
def NoAttr(K:yb)(C:ad)(f:ae):Prop:=yL K (.ref C) f=aa none
theorem NoAttr.taker{f:ae}(n:NoAttr K C f):ycm K C f=aa none:=by
 unfold ycm;rw[show yL K (.ref C) f=aa none from n];rfl
structure Meth(K:yb)(C:ad)(m:ae)(f:ad):Prop where
 at_:yL K (.ref C) m=aa (aa (.ref f))
 fn:yW K (.ref f)=ac
 kp:yaw K (.ref f)=ac
variable{m:ae}
section
variable{fs:List (ae×V)}{f:ae}
theorem znK{b:Bool}(I:Inv X pins σ H s)(e:H a=aa (.ins C dx fs))(c:Cls X.K C)(n:NoAttr X.K C f)(l:fs.lookup f=aa v)(h:∀u s',Inv X pins σ H s'->RelV v u->Q u s'):wpAny (am X.prog X.w) A (getAttr (.ref a) f b) Q E s:=by
 obtain⟨mA,O,r,_,_,_⟩:=zi8 I.hok e;obtain⟨u,d,R⟩:=RelO.some_of (v:=v) (o:=mA f) (by rw[<- l];exact r f);exact zum I.kIn O (c.get f) c.hd n d (zp0 R) (h u _ (I.tok _) R)
theorem zdT{g:ad}{Q:af×List af->ai->Prop}(I:Inv X pins σ H s)(e:H a=aa (.ins C dx fs))(c:Cls X.K C)(k:Meth X.K C m g)(l:fs.lookup m=none)(h:Q (.ref g,[.ref a]) s):wpAny (am X.prog X.w) A (getMethod (.ref a) m pl) Q E s:=by
 obtain⟨mA,O,r,_,_,_⟩:=zi8 I.hok e;have hn:mA m=none:=RelO.none_of (by rw[<- l];exact r m);exact zrH I.kIn O (c.get m) k.at_ k.fn hn h
theorem zm7{Q:Unit->ai->Prop}(I:Inv X pins σ H s)(e:H a=aa (.ins C dx fs))(c:Cls X.K C)(n:NoAttr X.K C f)(hl:fs.length<1000)(R:RelV y u)(h:∀s',Inv X pins σ (upd H a (.ins C dx (zhy f y fs))) s'->Q () s'):wpAny (am X.prog X.w) A (setAttr (.ref a) f u) Q E s:=by
 obtain⟨mA,O,r,wi,_,i⟩:=zi8 I.hok e;have j:(fs.map (·.1)).length<=sizeLine:=by rw[yg,bf];omega
 refine zsU I.kIn O c.sa c.po n.taker c.hd wi j fun h' d S=>h _ ?_;have hd:∃o,h'.get? dx=aa o:=let ⟨o,_,_,e',_⟩:=d.ns;⟨o,e'⟩;refine I.write (x:=a) (e:=dx) (by rw[e];exact True.intro) (.inr i) (fun b q l z=>(S.2 b l).trans z) hd ?_;refine⟨by rw[zao O.ne];exact i,?_,O.ne,d.obj,_,d.ns,fun g=>?_,fun g k=>?_⟩
 ·have:=zg4 f y fs;omega
 ·show RelO ((zhy f y fs).lookup g) (if g=f then aa u else mA g);rw[zg3];by_cases q:g=f
  ·rw[if_pos q,if_pos q];exact R
  ·rw[if_neg q,if_neg q];exact r g
 ·by_cases q:g=f
  ·rw[q];exact(zg7 f y fs).1
  ·refine(zg7 f y fs).2 g (wi g fun z=>k ?_);show (if g=f then aa u else mA g)=none;rw[if_neg q];exact z
theorem Inv.made(I:Inv X pins σ H s):Inv X pins σ (upd (upd H s.heap.objs.size (.own (s.heap.objs.size+1))) (s.heap.objs.size+1) (.ins C s.heap.objs.size [])) { s with heap:=(s.heap.push yav).push (yaE C s.heap.objs.size) }:=by
 have E:(s.heap.push yav).get? s.heap.objs.size=aa yav:=yr s.heap rfl;have f:((s.heap.push yav).push (yaE C s.heap.objs.size)).get? (s.heap.objs.size+1)=aa (yaE C s.heap.objs.size):=by
  have:=yr (s.heap.push yav) (o:=yaE C s.heap.objs.size) rfl
  rwa [yS]at this
 have d:(s.heap.push yav).Ns s.heap.objs.size (fun _=>none):=⟨yav,#[],_,E,rfl,(fun e c=>absurd c (by simp)),fun _=>rfl⟩;have i:=I.laid (a:=s.heap.objs.size) (o := .own (s.heap.objs.size+1)) (h':=s.heap.push yav) (t':=s.toks) (fun b u q=>yf _ q) (yc _) ⟨_,E⟩;refine i.laid (a:=s.heap.objs.size+1) (o := .ins C s.heap.objs.size []) (t':=s.toks) (fun b u q=>yf _ q) (ycp (yS _ _)) ?_;have ne:s.heap.objs.size≠s.heap.objs.size+1:=ym (yaS _);refine⟨by rw[zao ne,zaw],yZ _,ne,f,fun _=>none,(Heap.Ns1.of_empty d).at fun o q=>yf _ q,fun _=>True.intro,fun y h=>absurd rfl h⟩
theorem zuC{w:al}{env:aG}{e:ak}{f:ae}(H:br e f env (eval e env)=eval e env)(h:wpAny (am prog w) A (eval e env) (fun o S=>wpAny (am prog w) A (getAttr o f ac) Q E S) E s):wpAny (am prog w) A (eval (.Attribute e f pos) env) Q E s :=
 Attribute_any_ h (by rw[arm_eval_Attribute,H])
end
def tFld(K:yb)(t:TE)(f:ae):TE:=fun σ H Q=>t σ H fun x H1=>∃a C dx fs v,x = .ref a/\H1 a=aa (.ins C dx fs)/\Cls K C/\NoAttr K C f/\fs.lookup f=aa v/\Q v H1
def sFld(K:yb)(t tv:TE)(f:ae):TS:=fun D σ H=>tv σ H fun y H1=>t σ H1 fun x H2=>∃a C dx fs,x = .ref a/\H2 a=aa (.ins C dx fs)/\Cls K C/\NoAttr K C f/\fs.length<1000 ∧
 D.nx σ (upd H2 a (.ins C dx (zhy f y fs)))
section
variable{o e value:ak}{f:ae}{tpos:aw}{tv:TE}
theorem pe_fld(b:PE X e ta)(d:br e f X.env (eval e X.env)=eval e X.env):PE X (.Attribute e f pos) (tFld X.K ta f):=by
 intro pins s σ H Q I h;refine zuC d (thn (b pins s σ H _ I h) ?_);rintro u s1 ⟨x,j,g,r,a,C,dx,fs,v,ex,E,c,n,l,q⟩;subst ex;obtain rfl:u=yo a:=r;exact znK g E c n l fun U s2 i R=>⟨v,j,i,R,q⟩
theorem ps_fld(ha:PE X o ta)(b:PE X value tv)(hs:aU value (aa (.Attribute o f pos')) pos.line X.env=pure ag):PS X (.Assign [.Attribute o f pos'] value pos) (sFld X.K ta tv f):=by
 intro pins s σ H D I h;refine plainObj_wpAny_Assign_Attribute (thn (b pins s σ H _ I h) fun u s1 ⟨y,j,g,r,q⟩=>thn (ha pins s1 σ j _ g q) fun O s2 ⟨x,k,d,R,a,C,dx,fs,ex,e,c,n,l,Q⟩=>?_) hs;subst ex;obtain rfl:O=yo a:=R;exact zm7 d e c n l r fun S i=>⟨σ,_,i,Q⟩
end
section
variable{c:af}{b:Bool}
inductive TyOf(K:yb)(H:Hp):V->af->Prop where
 |non:TyOf K H .non (.type "NoneType")
 |bl (x:Bool):TyOf K H (.bl x) (.type "bool")
 |int (i:Int):TyOf K H (.int i) (.type "int")
 |str (x:ae):TyOf K H (.str x) (.type "str")
 |flt (x:UInt64):TyOf K H (.flt x) (.type "float")
 |lst {a:ad} {xs:List V} (e:H a=aa (.lst xs)):TyOf K H (.ref a) (.type "list")
 |frz {a:ad} {o:ar} {xs:List V} (e:H a=aa (.frz o (.lst xs))):TyOf K H (.ref a) (.type "list")
 |tup {a:ad} {xs:List V} (e:H a=aa (.tup xs)):TyOf K H (.ref a) (.type "tuple")
 |dK {a:ad} {kvs:List (Key×V)} (e:H a=aa (.dK kvs)):TyOf K H (.ref a) (.type "dict")
 |dT {a:ad} {kvs:List (List Key×V)} (e:H a=aa (.dT kvs)):TyOf K H (.ref a) (.type "dict")
 |ins {a C dx:ad} {fs:List (ae×V)} (e:H a=aa (.ins C dx fs)) (cl:Cls K C) (ha:yL K (.ref C) "__class__" = aa (aa (.builtin "object.__class__")))
   (hn:yc7 K (.builtin "object.__class__") "__get__" = aa (aa (.builtin "getset_descriptor.__get__"))) (htk:yc8 K (.builtin "object.__class__")=aa ac)
   (hm:ybh K C (.type "object")=aa ac):TyOf K H (.ref a) (.ref C)
theorem zpW{x:V}{t:af}(I:Inv X pins σ H s)(r:RelV x u)(ty:TyOf X.K H x t)(e:yaF X.K t c=aa b)(h:∀tk,Q (.bool b) { s with toks:=tk }) :
  wpAny (am X.prog X.w) A (call (.builtin "isinstance") [u,c]) Q E s:=by
 cases ty with
 |non=>cases (show u=yab from r);exact yac PySem.W.kitx_none I.kIn True.intro e (fun z=>nomatch z) h|bl y=>cases (show u=ybf y from r);exact yac PySem.W.kitx_bool I.kIn True.intro e (fun z=>nomatch z) h|int i=>obtain⟨t,q⟩:=(show ∃t,u=yaD i t from r);cases q;exact yac PySem.W.kitx_int I.kIn True.intro e (fun z=>nomatch z) h
 |str y=>obtain⟨t,q⟩:=(show ∃t,u=yaY y t from r);cases q;exact yac PySem.W.kitx_str I.kIn True.intro e (fun z=>nomatch z) h
 |flt y=>obtain⟨t,q⟩:=(show ∃t,u=ycf y t from r);cases q;exact yac PySem.W.kitx_float I.kIn True.intro e (fun z=>nomatch z) h
 |@lst a xs d=>
  cases (show u=yo a from r);obtain⟨_,_,n,_,h1⟩:=(show ObjOk X.prog X.w H s.heap a (.lst xs) from I.hok a _ d);exact yac yc9 I.kIn ⟨_,h1,rfl⟩ e (fun z=>nomatch z) h
 |@frz a ob xs d=>
  cases (show u=yo a from r);obtain⟨_,_,_,n,_,h1⟩:=(show ObjOk X.prog X.w H s.heap a (.frz ob (.lst xs)) from I.hok a _ d);exact yac yc9 I.kIn ⟨_,h1,rfl⟩ e (fun z=>nomatch z) h
 |@tup a xs d=>
  cases (show u=yo a from r);obtain⟨_,_,_,p,_⟩:=(show ObjOk X.prog X.w H s.heap a (.tup xs) from I.hok a _ d);obtain⟨o,h1,f,_⟩:=p;exact yac yda I.kIn ⟨o,h1,f⟩ e (fun z=>nomatch z) h
 |@dK a kvs d=>
  cases (show u=yo a from r);obtain⟨_,_,vs,_,p⟩:=(show ObjOk X.prog X.w H s.heap a (.dK kvs) from I.hok a _ d);obtain⟨o,es,ep,h1,f,_⟩:=p;exact yac ydb I.kIn ⟨o,h1,f.1⟩ e (fun z=>nomatch z) h
 |@dT a kvs d=>
  cases (show u=yo a from r);obtain⟨_,_,xs,_,o,es,ep,h1,f,_⟩:=(show ObjOk X.prog X.w H s.heap a (.dT kvs) from I.hok a _ d);exact yac ydb I.kIn ⟨o,h1,f.1⟩ e (fun z=>nomatch z) h
 |@ins a C dx fs d cl ha hn htk hm=>
  cases (show u=yo a from r);obtain⟨mA,O,_⟩:=zi8 I.hok d;obtain⟨od,J,_⟩:=O.look;exact yac (PySem.W.kitx_own (cl.get _) cl.hd ha hn htk hm) I.kIn J e (fun z=>nomatch z) h
end
structure Room(k:Nat)(A:ax):Prop where
 hd:A.handled=none
 dp:A.depth+3*k+5<recursionLimit
 un:A.units+16*k+200<aC
 gd:A.guards=aa []
theorem Room.mono{k:Nat}(r:Room k A)(h:j<=k):Room j A:=⟨r.hd,by have:=r.dp;omega,by have:=r.un;omega,r.gd⟩
theorem Room.deeper{k:Nat}(r:Room (k+1) A)(env:aG):Room k (A.deeper env) :=
 ⟨r.hd,by have:=r.dp;show A.depth+1+3*k+5<_;omega,by have:=r.un;show A.units+3+16*k+200<_;omega,r.gd⟩
theorem znB:(A.under (.builtin "type.__call__" ⟨.ref C::us,kw⟩)).depth=A.depth+1:=by
 first | rfl | simp[ycq,Code.weight,Code.isCreation,Code.isGuard,Code.isCaller,Code.frames,Code.isFrame,guardIds]
theorem znA:(A.under (.builtin "type.__call__" ⟨.ref C::us,kw⟩)).units=A.units+1:=by
 first | rfl | simp[ycq,Code.cUnits,Code.frames,Code.isFrame]
theorem Room.make{k:Nat}(r:Room (k+1) A)(C:ad)(us:List af)(K:List (ae×af)):Room k (A.under (.builtin "type.__call__" ⟨.ref C::us,K⟩)) :=
 ⟨r.hd,by have:=r.dp;rw[znB];omega,by have:=r.un;rw[znA];omega,r.gd⟩
theorem Room.depth{k:Nat}(r:Room k A):A.depth<recursionLimit:=by have:=r.dp;omega
theorem Room.units{k:Nat}(r:Room k A):A.units+64<aC:=by have:=r.un;omega
def tNil:TA:=fun _ H Q=>Q [] H
def tCons(T:TE)(t:TA):TA:=fun σ H Q=>T σ H fun x H1=>t σ H1 fun xs H2=>Q (x::xs) H2
variable{t:TA}
section
variable{e:ak}
theorem zfL:PA X [] tNil:=fun _ _ _ _ H Q I h=>ydc ⟨[],H,I,.nil,h⟩
theorem zcu(ha:PE X e te)(hr:PA X es t)(hs:autoParam (ap (e::es) X.env=(ag,eval e X.env)::ap es X.env) AutoP.a3._auto_1):PA X (e::es) (tCons te t):=by
 intro pos pins s σ H Q I h;rw[hs];show wpAny _ _ (spliced ((ag,eval e X.env)::az pos (ap es X.env))) _ _ s;refine ydd (thn (ha pins s σ H _ I h) ?_);rintro u s1 ⟨x,d,b,R,a⟩;refine thn (hr pos pins s1 σ d _ b a) ?_;rintro us s2 ⟨xs,c,i,r,q⟩;exact⟨x::xs,c,i,.cons R r,q⟩
def tTup(t:TA):TE:=fun σ H Q=>t σ H fun xs H1=>xs.length<=sizeLine/\∀p,H1 p=none->Q (.ref p) (upd H1 p (.tup xs))
def tLst(t:TA):TE:=fun σ H Q=>t σ H fun xs H1=>xs.length<=sizeLine/\∀p,H1 p=none->Q (.ref p) (upd H1 p (.lst xs))
theorem pe_tup {x1} (h:PA X es t):PE X (.Tuple es x1 pos) (tTup t):=by
 intro pins s σ H Q I hq;refine wpAny_Tuple_spliced (thn (h pos pins s σ H _ I hq) fun us s1 ⟨xs,a,i,r,z,q⟩=>⟨by rw[<- r.length];exact z,?_⟩);have c:a s1.heap.objs.size=none:=i.hok.fresh (yc _);refine⟨.ref s1.heap.objs.size,upd a s1.heap.objs.size (.tup xs),i.laid (t':=s1.toks) (fun b u e=>yf _ e) (yc _) ?_,rfl,q _ c⟩;exact⟨z,us,r,⟨_,yr _ rfl,rfl,_,rfl⟩,_,yr _ rfl,rfl⟩
theorem zsb(h:PA X es t):PE X (.List es pos) (tLst t):=by
 intro pins s σ H Q I hq;refine wpAny_List_spliced (thn (h pos pins s σ H _ I hq) fun us s1 ⟨xs,a,i,r,z,q⟩=>⟨by rw[<- r.length];exact z,?_⟩);have c:a s1.heap.objs.size=none:=i.hok.fresh (yc _);refine⟨.ref s1.heap.objs.size,upd a s1.heap.objs.size (.lst xs),i.laid (t':=s1.toks) (fun b u e=>yf _ e) (yc _) ?_,rfl,q _ c⟩;exact⟨z,us,0,r,yr _ rfl⟩
end
abbrev Sp:=List V->Hp->VK->XK->Prop
abbrev CXT:=List aG->Hp->ai->XK->af->ai->Prop
structure Env0(P:aq)(w:al)(K:yb)(mg:ae->Option af)(base:au)(A:ax)(outer:List aG)(s:ai)(H:Hp):Prop where
 frames:A.frames=aa outer
 mod:Mod K mg base
 bs:∀b o,base.get? b=aa o->s.heap.get? b=aa o/\H b=none
 bsz:base.objs.size<=s.heap.objs.size
 funs:s.heap.FunFrames base outer
 frf:∀b∈frs outer,H b=none
 hok:HOk P w H s.heap
 bare:aW s.gens
def CE(outer:List aG)(P:aq)(w:al)(H:Hp)(s:ai)(Q:VK)(u:af)(s':ai):Prop :=
 ∃v H',s'.os=s.os/\aW s'.gens/\Un (frs outer) [] H H' s.heap s'.heap/\HOk P w H' s'.heap/\RelV v u/\Q v H'
def CR(CX:CXT)(outer:List aG)(P:aq)(w:al)(H:Hp)(s:ai)(Q:VK)(E:XK)(r:bG)(s':ai):Prop :=
 match r with
 |.ok (.ret u)=>CE outer P w H s Q u s'|.ok _=>False|.error e=>CX outer H s E e s'
structure FnOk(P:aq)(w:al)(K:yb)(mg:ae->Option af)(base:au)(CX:CXT)(k:Nat)(f:ad)(fd:aF)(ps:List ae)(sp:Sp):Prop where
 len:∀vs H Q E,sp vs H Q E->vs.length=ps.length
 run:∀(A:ax)(outer:List aG)(s:ai)(H:Hp)(args:Args)(us:List af)(vs:List V)(Q:VK)(E:XK),Room k A->Env0 P w K mg base A outer s H->bu s fd args (ps.zip us)->Vals vs us->sp vs H Q E →
  codeAny (am P w) A (.call (.ref f) args) (CR CX outer P w H s Q E) s
variable{mg:ae->Option af}{base:au}{CX:CXT}{fd:aF}{ps:List ae}{sp:Sp}
theorem FnOk.imp{w:al}{k:Nat}{f:ad}{S:Sp}(F:FnOk P w K mg base CX k f fd ps sp)(h:∀vs H Q E,S vs H Q E->sp vs H Q E):FnOk P w K mg base CX k f fd ps S :=
 ⟨fun vs H Q E q=>F.len vs H Q E (h _ _ _ _ q),fun A outer s H args us vs Q E hr b c a hs=>F.run A outer s H args us vs Q E hr b c a (h _ _ _ _ hs)⟩
variable{outer:List aG}
theorem Env0.make{w:al}(e:Env0 P w K mg base A outer s H)(C:ad)(us:List af)(k:List (ae×af)) :
  Env0 P w K mg base (A.under (.builtin "type.__call__" ⟨.ref C::us,k⟩)) outer s H:=⟨by first | exact e.frames | (simpa [ycq,Code.envs,Code.isFrame,pushEnvs] using e.frames),e.mod,e.bs,e.bsz,e.funs,e.frf,e.hok,e.bare⟩
section
theorem Inv.env0(I:Inv X pins σ H s):Env0 X.prog X.w X.K X.mg X.base X.A X.stack s H :=
 ⟨I.ok.frames,I.ok.mod,I.bs,yx I.ok.bsz I.sz,I.stack,I.stkFree,I.hok,I.bare⟩
theorem Inv.after{Q:VK}(I:Inv X pins σ H s)(h:CE X.stack X.prog X.w H s Q u s'):EP X pins σ Q u s':=by
 obtain⟨v,H',os,bare,un,hok,r,q⟩:=h;obtain⟨a,g,d,t,o⟩:=s';obtain rfl:o=s.os:=os;exact⟨v,H',I.call (h':=a) (g':=g) (d':=d) (t':=t) (ch:=[]) un hok bare (fun b z=>absurd z (by simp)),r,q⟩
end
def tCall(sp:Sp)(d:List V)(E:XK)(t:TA):TE:=fun σ H Q=>t σ H fun vs H1=>sp (vs++d) H1 Q E
def tMeth(C:ad)(m:ae)(sp:Sp)(d:List V)(E:XK)(T:TE)(t:TA):TE:=fun σ H Q=>T σ H fun x H1=>∃a dx fs,x = .ref a/\H1 a=aa (.ins C dx fs)/\fs.lookup m=none ∧
 t σ H1 fun vs H2=>sp (x::(vs++d)) H2 Q E
def tMake(C:ad)(sp:Sp)(d:List V)(E:XK)(t:TA):TE:=fun σ H Q=>t σ H fun vs H1=>∀x dx,H1 x=none->H1 dx=none->dx≠x →
 sp (.ref x::(vs++d)) (upd (upd H1 dx (.own x)) x (.ins C dx [])) (fun v H2=>v = .non/\Q (.ref x) H2) E
def Binds(K:yb)(fd:aF)(ps:List ae)(ds:List af):Prop :=
 ∀(s:ai)(us:List af),K.In s.heap->(us++ds).length=ps.length->bu s fd ⟨us,[]⟩ (ps.zip (us++ds))
theorem Binds.all(h:∀us:List af,us.length=ps.length->bindArgs fd ⟨us,[]⟩=pure (ps.zip us)):Binds K fd ps []:=fun s us _ hl=>by
 rw[y6]at hl ⊢;exact .of_eq (h us hl)
def zhu(CX:CXT)(X:Cx)(E:XK):Prop:=∀(pins:List (ad×ar))(σ : St)(H:Hp)(s:ai)(e:af)(s':ai),Inv X pins σ H s->CX X.stack H s E e s'->X.xe e s'
variable{apos:aw}{vs:List V}
section
variable{k:Nat}{f:ad}{dvs:List V}{ds:List af}{E:XK}{e o:ak}
theorem zoy{Q:VK}(F:FnOk X.prog X.w X.K X.mg X.base CX k f fd ps sp)(hr:Room k X.A)(b:Binds X.K fd ps ds)(hd:Vals dvs ds)(a:zhu CX X E)(I:Inv X pins σ H s)(r:Vals vs us)(h:sp (vs++dvs) H Q E):wpAny (am X.prog X.w) X.A (call (.ref f) us) (EP X pins σ Q) X.xe s:=by
 have R:Vals (vs++dvs) (us++ds):=r.append hd;have hl:(us++ds).length=ps.length:=by rw[<- R.length];exact F.len _ _ _ _ h
 refine ce (bH (F.run X.A X.stack s H ⟨us,[]⟩ (us++ds) (vs++dvs) Q E hr I.env0 (b s us I.kIn hl) R h) fun r s' hq=>?_);cases r with
 |error e=>exact a pins σ H s e s' I hq|ok c=>
  cases c with
  |ret u=>exact I.after hq|next=>exact False.elim hq|brk=>exact False.elim hq|cont=>exact False.elim hq
theorem ztD(F:FnOk X.prog X.w X.K X.mg X.base CX k f fd ps sp)(hr:Room k X.A)(g:Gl X x)(hm:X.mg x=aa (.ref f))(d:yaw X.K (.ref f)=ac)(l:Binds X.K fd ps ds)(hd:Vals dvs ds)(c:zhu CX X E)(ha:PA X (e::es) t)(b:autoParam ((x==("__debug__" : ae))=ag) AutoP.a1._auto_1)(j:autoParam (ap (e::es) X.env=(ag,eval e X.env)::ap es X.env) AutoP.a3._auto_1)(a:autoParam ((az pos (ap es X.env)).any (·.1)=ag) AutoP.a3._auto_1) : PE X (.Call (.Name x p) (e::es) [] pos) (tCall sp dvs E t):=by
 intro pins s σ H Q I h;refine bO (zg5 I g hm ?_ b);refine ybi (h₀ := X.base) I.ok.mod.kin d (thn (ha pos pins s σ H _ I h) fun us s1 ⟨vs,m,i,r,q⟩=>⟨i.kIn,?_⟩) j a;exact zoy F hr l hd c i r q
theorem zty(v:PE X o ta)(c:Cls X.K C)(hm:Meth X.K C m f)(F:FnOk X.prog X.w X.K X.mg X.base CX k f fd ps sp)(hr:Room k X.A)(w:Binds X.K fd ps ds)(hd:Vals dvs ds)(n:zhu CX X E)(ha:PA X (e::es) t)
  (b:autoParam (ap (e::es) X.env=(ag,eval e X.env)::ap es X.env) AutoP.a3._auto_1) (d:autoParam ((az pos (ap es X.env)).any (·.1)=ag) AutoP.a3._auto_1)
  (p:autoParam (eval (.Call (.Attribute o m apos) (e::es) [] pos) X.env=(do
   let O <- eval o X.env
   aX apos.atName
   let (f,first) <- holding [O] (getMethod O m pl)
   bQ pos f first (az pos (ap (e::es) X.env)) (aL pos (aM [] X.env)))) AutoP.a3._auto_1) :
  PE X (.Call (.Attribute o m apos) (e::es) [] pos) (tMeth C m sp dvs E ta t):=by
 intro pins s σ H Q I h
 refine ybQ (pl:=pl) (thn (v pins s σ H _ I h) fun u s1 ⟨x,z,g,R,a,dx,fs,ex,y,l,q⟩=>?_) p
 subst ex
 obtain rfl:u=yo a:=R
 refine zdT g y c hm l ?_
 refine ybi (first:=[.ref a]) (h₀ := X.base) I.ok.mod.kin hm.kp (thn (ha pos pins s1 σ z _ g q) fun us s2 ⟨vs,A,i,r,j⟩=>⟨i.kIn,?_⟩) b d
 exact zoy (us := .ref a::us) (vs := .ref a::vs) F hr w hd n i (.cons rfl r) j
theorem zrd(e:PE X o ta)(c:Cls X.K C)(hm:Meth X.K C m f)(F:FnOk X.prog X.w X.K X.mg X.base CX k f fd ps sp)(hr:Room k X.A)(g:Binds X.K fd ps ds)(hd:Vals dvs ds)(b:zhu CX X E)
  (d:autoParam (eval (.Call (.Attribute o m apos) [] [] pos) X.env=(do
   let O <- eval o X.env
   aX apos.atName
   let (f,first) <- holding [O] (getMethod O m pl)
   bQ pos f first (az pos (ap [] X.env)) (aL pos (aM [] X.env)))) AutoP.a3._auto_1) :
  PE X (.Call (.Attribute o m apos) [] [] pos) (tMeth C m sp dvs E ta tNil):=by
 intro pins s σ H Q I h
 refine ybQ (pl:=pl) (thn (e pins s σ H _ I h) fun u s1 ⟨x,n,i,r,a,dx,fs,ex,j,l,q⟩=>?_) d
 subst ex
 obtain rfl:u=yo a:=r
 refine zdT i j c hm l ?_
 exact yde (first:=[.ref a]) i.kIn hm.kp (zoy (us:=[.ref a]) (vs:=[.ref a]) F hr g hd b i (.cons rfl .nil) q)
structure Mk(K:yb)(C f:ad):Prop where
 makes:ycn K C=ac
 init:yL K (.ref C) "__init__" = aa (aa (.ref f))
 fn:yW K (.ref f)=ac
 kp:yaw K (.ref C)=ac
theorem zqX{Q:VK}(M:Mk X.K C f)(F:FnOk X.prog X.w X.K X.mg X.base CX k f fd ps sp)(hr:Room (k+1) X.A)(d:Binds X.K fd ps ds)(hd:Vals dvs ds)(c:zhu CX X E)(I:Inv X pins σ H s)(r:Vals vs us)(h:∀x dx,H x=none->H dx=none->dx≠x->sp (.ref x::(vs++dvs)) (upd (upd H dx (.own x)) x (.ins C dx [])) (fun v H2=>v = .non/\Q (.ref x) H2) E) : wpAny (am X.prog X.w) X.A (call (.ref C) us) (EP X pins σ Q) X.xe s:=by
 have hq:=h (s.heap.objs.size+1) s.heap.objs.size (I.hok.fresh (ya1 _)) (I.hok.fresh (yc _)) (ym (yaS _));have i:=Inv.made (C:=C) I;have R:Vals (V.ref (s.heap.objs.size+1)::(vs++dvs)) (yo (s.heap.objs.size+1)::(us++ds)) := .cons rfl (r.append hd);have hl:(yo (s.heap.objs.size+1)::us++ds).length=ps.length:=by
  have e:=R.length;rw[F.len _ _ _ _ hq]at e;exact e.symm
 refine ce (zrx (f:=f) I.kIn M.makes M.init (beq_iff_eq.mp M.fn) (bH (F.run _ X.stack _ _ ⟨yo (s.heap.objs.size+1)::us,[]⟩ (yo (s.heap.objs.size+1)::(us++ds)) _ _ E (hr.make C us [])
  (i.env0.make C us []) (d _ (yo (s.heap.objs.size+1)::us) i.kIn hl) R hq) fun r s' a=>?_))
 cases r with
 |error e=>exact c pins σ _ _ e s' i a|ok g=>
  cases g with
  |ret u=>
   obtain⟨v,H',l,b,j,q⟩:=i.after a;subst j;exact⟨b,⟨V.ref (s.heap.objs.size+1),H',l,rfl,q⟩⟩
  |next=>exact False.elim a|brk=>exact False.elim a|cont=>exact False.elim a
theorem ztz(M:Mk X.K C f)(F:FnOk X.prog X.w X.K X.mg X.base CX k f fd ps sp)(hr:Room (k+1) X.A)(d:Gl X x)(hm:X.mg x=aa (.ref C))(j:Binds X.K fd ps ds)(hd:Vals dvs ds)(c:zhu CX X E)(ha:PA X (e::es) t)(b:autoParam ((x==("__debug__" : ae))=ag) AutoP.a1._auto_1)(g:autoParam (ap (e::es) X.env=(ag,eval e X.env)::ap es X.env) AutoP.a3._auto_1)(a:autoParam ((az pos (ap es X.env)).any (·.1)=ag) AutoP.a3._auto_1) : PE X (.Call (.Name x p) (e::es) [] pos) (tMake C sp dvs E t):=by
 intro pins s σ H Q I h;refine bO (zg5 I d hm ?_ b);refine ybi (h₀ := X.base) I.ok.mod.kin M.kp (thn (ha pos pins s σ H _ I h) fun us s1 ⟨vs,l,i,r,q⟩=>⟨i.kIn,?_⟩) g a;exact zqX M F hr j hd c i r q
end
def PK(X:Cx)(k:List aS)(t:TA):Prop :=
 ∀(pos:aw)(pins:List (ad×ar))(s:ai)(σ : St)(H:Hp)(Q:List V->Hp->Prop),Inv X pins σ H s->t σ H Q->wpAny (am X.prog X.w) X.A (evalAll ((aL pos (aM k X.env)).map (·.2))) (AP X pins σ Q) X.xe s
section
variable{k:Nat}{f:ad}{ks:List ae}{E:XK}{kpos:aw}{e o:ak}{kws:List aS}{tk:TA}{nm:Option ae}
theorem pk_nil:PK X [] tNil:=fun _ _ _ _ H Q I h=>wpAny_evalAll_nil ⟨[],H,I,.nil,h⟩
theorem ztt(ha:PE X e te)(hr:PK X kws t):PK X (⟨nm,e,kpos⟩::kws) (tCons te t):=by
 intro pos pins s σ H Q I h
 show wpAny _ _ (evalAll ((do let v <- eval e X.env;aX pos;pure v)::(aL pos (aM kws X.env)).map (·.2))) _ _ s
 refine wpAny_evalAll_cons (aj (thn (ha pins s σ H _ I h) fun u s1 ⟨x,d,b,R,a⟩=>aj (bp (av ?_))))
 refine thn (hr pos pins s1 σ d _ b a) ?_
 rintro us s2 ⟨xs,c,i,r,q⟩
 exact⟨x::xs,c,i,.cons R r,q⟩
variable{g:List af->List af->List af}{gV:List V->List V->List V}
end
structure FnScope(N P:List ae)(sc:aI):Prop where
 kind:sc.kind = .function
 co:sc.isCoroutine=ag
 gen:sc.isGenerator=ag
 nd:N.Nodup
 pre:N.take P.length=P
 par:∀x∈P,sc.names.lookup x=aa .local∨sc.names.lookup x=aa .cell
 nofree:∀y∈sc.names,y.2 ≠ .free
theorem zkL{kindOf:ae->Option bI}{x:ae}:∀{binds:List (ae×af)}{m:ae->Option af},(∀v,(x,v)∉binds)->bg kindOf binds m x=m x
 |[],_,_=>rfl| (n,v)::r,m,h=>by
  unfold bg;rw[zkL fun w H=>h w (yK _ H)];split
  ·have:x≠n:=by rintro rfl;exact h v yan
   simp[this]
  ·rfl
theorem zkN{kindOf:ae->Option bI}{x:ae}:∀{binds:List (ae×af)}{m:ae->Option af},(∀v,(x,v)∉binds)->bh kindOf binds m x=m x
 |[],_,_=>rfl| (n,v)::r,m,h=>by
  unfold bh;rw[zkN fun w H=>h w (yK _ H)];split
  ·rfl
  ·have:x≠n:=by rintro rfl;exact h v yan
   simp[this]
theorem zkM{kindOf:ae->Option bI}{x:ae}{v:af}:∀{P:List ae}{vs:List af}{i:Nat}{m:ae->Option af},P.Nodup->P[i]?=aa x->vs[i]?=aa v->kindOf x=aa .local →
  bg kindOf (P.zip vs) m x=aa v
 |[],_,_,_,_,h,_,_=>by simp at h|_::_,[],_,_,_,_,h,_=>by simp at h|p::P,w::vs,0,m,nd,h1,h2,H=>by
  simp at h1 h2;subst h1;subst h2;show bg kindOf ((p,w)::P.zip vs) m p=_;unfold bg;rw[zkL fun v a=>(yao.mp nd).1 (ybR a).1,if_pos H];simp
 |p::P,w::vs,i+1,m,nd,h1,h2,H=>by
  show bg kindOf ((p,w)::P.zip vs) m x=_;unfold bg;exact zkM (i:=i) (yao.mp nd).2 (by simpa using h1) (by simpa using h2) H
theorem zkO{kindOf:ae->Option bI}{x:ae}{v:af}:∀{P:List ae}{vs:List af}{i:Nat}{m:ae->Option af},P.Nodup->P[i]?=aa x->vs[i]?=aa v->kindOf x≠aa .local →
  bh kindOf (P.zip vs) m x=aa v
 |[],_,_,_,_,h,_,_=>by simp at h|_::_,[],_,_,_,_,h,_=>by simp at h|p::P,w::vs,0,m,nd,h1,h2,H=>by
  simp at h1 h2;subst h1;subst h2;show bh kindOf ((p,w)::P.zip vs) m p=_;unfold bh;rw[zkN fun v a=>(yao.mp nd).1 (ybR a).1,if_neg H];simp
 |p::P,w::vs,i+1,m,nd,h1,h2,H=>by
  show bh kindOf ((p,w)::P.zip vs) m x=_;unfold bh;exact zkO (i:=i) (yao.mp nd).2 (by simpa using h1) (by simpa using h2) H
def start(N:List ae)(vs:List V):St:=vs.map aa++yd (N.length-vs.length) none
def zkW(CX:CXT)(P:aq)(w:al)(K:yb)(mg:ae->Option af)(base:au)(N:List ae)(qual:ae)(scope:aI)(f:ad)(c:af)(A:ax)(outer:List aG)(s:ai)(H:Hp)(E:XK):Cx where
 prog:=P
 w:=w
 K:=K
 mg:=mg
 base:=base
 A:=A.deeper (aH qual scope s.heap.objs.size f c)
 N:=N
 s₀ := s
 H₀ := H
 env:=aH qual scope s.heap.objs.size f c
 outer:=outer
 stack:=aH qual scope s.heap.objs.size f c::outer
 ex:=[]
 calm:=ac
 fn:=fun _=>ac
 pn:=[]
 xe:=fun e s'=>wpAny (am P w) (A.deeper (aH qual scope s.heap.objs.size f c)) (leaving (aH qual scope s.heap.objs.size f c) e) (fun _ S=>CX outer H s E e S) (fun a S=>CX outer H s E a S) s'
theorem zmT{sc:aI}(h:sc.names.lookup x=aa .cell):∃c,(b7 n sc.names []).lookup x=aa c:=by
 have q:=ycr sc.names n [] (.inl h);exact ycs.mp q
variable{qual:ae}{scope:aI}
theorem zkc{w:al}{f:ad}{C:af}{s1:ai}{E:XK}(S:FnScope N ps scope)(hd:A.handled=none)(g:Env0 P w K mg base A outer s H)(hl:vs.length=ps.length)(r:Vals vs us)(x:InCallC s s.heap.objs.size (bg (aH qual scope s.heap.objs.size f C).kindOf (ps.zip us) fun _=>none) (b7 (s.heap.objs.size+1) scope.names []) (bh (aH qual scope s.heap.objs.size f C).kindOf (ps.zip us) fun _=>none) s1) : Inv (zkW CX P w K mg base N qual scope f C A outer s H E) [] (start N vs) H s1:=by
 have B:ps.length<=N.length:=by have:=congrArg yaG S.pre;rw[yap]at this;omega
 obtain⟨h1,tk,rfl,t⟩:=x.done;have j:∀b:ad,b∉(zkW CX P w K mg base N qual scope f C A outer s H E).ex:=fun b z=>absurd (show b∈([]:List ad) from z) (by simp);refine⟨⟨g.mod,S.kind,rfl,rfl,yc _,fun y z c h1 d=>?_,fun y l=>?_,fun y c _ h=>?_,fun _=>hd,Around.frames_deeper g.frames,.inr ⟨rfl,rfl⟩,fun b z=>absurd z (j b),g.bs,g.bsz,fun b _ _=>j b,fun b z=>absurd z (j b),g.funs,g.frf⟩,
  rfl,g.bare,Un.kept t,⟨_,x.toInCall.ns,fun i y v h1 d D=>?_⟩,fun y c h=>⟨_,x.cell y c h⟩,g.hok.fresh (yc _),fun y c h=>?_,fun p hp=>absurd (show p∈([]:List (ad×ar)) from hp) (by simp),g.hok.kept t,?_⟩
 ·exact name_of_addr x.apart (ybj h1) (ybj d)
 ·have l:scope.names.lookup y=aa .cell∨scope.names.lookup y=aa .free:=l;rcases l with l|l
  ·exact zmT l
  ·exact absurd rfl (S.nofree _ (ybj l))
 ·exact yah (x.above y c (ybj h))
 ·have hi:i<vs.length:=by
   unfold start at d;by_cases hi:i<vs.length
   ·exact hi
   ·rw[yT (by simpa using hi)]at d;rw[yct]at d;split at d <;> cases d
  have ha:vs[i]?=aa v:=by
   unfold start at d;rw[yI (by simpa using hi),yz]at d;cases e:vs[i]? with
   |none=>rw[e]at d;cases d|some a=>rw[e]at d;cases d;rfl
  obtain⟨u,o,R⟩:=r.get ha;have hp:ps[i]?=aa y:=by
   rw[<- S.pre,ydf (by omega)];exact h1
  have m:ps.Nodup:=by rw[<- S.pre];exact S.nd.sublist (List.take_sublist _ _)
  refine⟨u,R,?_⟩;rcases S.par y (yM hp) with k|k
  ·exact .inl ⟨k,zkM m hp o k⟩
  ·obtain⟨c,e⟩:=zmT (n:=s.heap.objs.size+1) k;refine .inr ⟨.inl k,c,e,?_⟩;have q:=x.cell y c e;rw[zkO m hp o (by show scope.names.lookup y≠_;rw[k];decide)]at q;exact q
 ·exact g.hok.fresh (yah (x.above y c (ybj h)))
 ·unfold start;show _=N.length;rw[yj,yg,ya2];omega
theorem fn_of{w:al}{k:Nat}{f:ad}{p:Arguments}{D kV doc pm cdv ct oc:af}{an od:Option ad}
  {osl:Array (Option af)} (L:K.lookup f=aa ⟨oc,od,.func (ya3 name qual p body scope D kV doc pm an cdv ct),osl⟩) (i:ycu K cdv qual=ac) (S:FnScope N ps scope)
  (len:∀vs H Q E,sp vs H Q E->vs.length=ps.length)
  (c:∀(A:ax)(outer:List aG)(s:ai)(H:Hp)(vs:List V)(Q:VK)(E:XK),Room k (A.deeper (aH qual scope s.heap.objs.size f cdv))->sp vs H Q E →
   ∃t,PSs (zkW CX P w K mg base N qual scope f cdv A outer s H E) body t/\t { nx:=fun _ H'=>Q .non H',rt:=Q } (start N vs) H) :
  FnOk P w K mg base CX (k+1) f (ya3 name qual p body scope D kV doc pm an cdv ct) ps sp:=by
 refine⟨len,fun A outer s H args us vs Q E hr g C r d=>?_⟩;have hl:=len _ _ _ _ d;have j:K.In s.heap:=g.mod.kin.keeps fun b o e=>(g.bs b o e).1;have l:s.heap.NoLimit:=g.mod.nolimit.keeps fun b o e=>(g.bs b o e).1;have h:∀y∈ps.zip us,scope.names.lookup y.1=aa .local∨(scope.names.lookup y.1=aa .cell/\((b7 (s.heap.objs.size+1) scope.names []).lookup y.1).isSome=ac):=fun⟨n,v⟩ m=>by
  rcases S.par n (ybR m).1 with q|q
  ·exact .inl q
  ·exact .inr ⟨q,ycr _ _ _ (.inl q)⟩
 refine codeAny_call_function hr.depth (j _ _ L) rfl S.co S.gen rfl (ydg j i) (C _ _ _ _ ?_);refine cy S.kind h fun env B s1 x=>?_;subst B;refine⟨l.keeps x.toInCall.keep,codeAny_func ?_⟩;obtain⟨t,z,hq⟩:=c A outer s H vs Q E (hr.deeper _) d;have I:Inv (zkW CX P w K mg base N qual scope f cdv A outer s H E) [] (start N vs) H s1:=zkc S hr.hd g hl r x;refine aA (z [] s1 (start N vs) H _ I hq) (fun G s' hs=>?_) fun e s' hs=>hs;have F:∀{a:St}{H':Hp}{v:V}{u:af},Inv (zkW CX P w K mg base N qual scope f cdv A outer s H E) [] a H' s'->RelV v u->Q v H'->CE outer P w H s Q u s' :=
  fun {a H' v u} J R q=>⟨v,H',J.os,J.bare,J.base,J.hok,R,q⟩
 cases G with
 |ret u=>
  obtain⟨v,a,H',J,R,q⟩:=hs;exact F J R q
 |next=>
  obtain⟨a,H',J,q⟩:=hs;exact F (v:=V.non) (u:=yab) J rfl q
 |brk=>
  obtain⟨_,_,_,q⟩:=hs;exact False.elim q
 |cont=>
  obtain⟨_,_,_,q⟩:=hs;exact False.elim q
section
variable{e:ak}{id T:String}{r:List V->Hp->VK->Prop}
def tCB(r:List V->Hp->VK->Prop)(t:TA):TE:=fun σ H Q=>t σ H fun vs H1=>r vs H1 Q
theorem zmq(g:CallR X (.builtin id) r)(d:Gl X x)(hm:X.mg x=none)(c:ba x=aa (.builtin id))(ha:PA X (e::es) t)(hn:autoParam (x ≠ "__name__") AutoP.a1._auto_1)(b:autoParam ((x==("__debug__" : ae))=ag) AutoP.a1._auto_1)(f:autoParam (ap (e::es) X.env=(ag,eval e X.env)::ap es X.env) AutoP.a3._auto_1)(a:autoParam ((az pos (ap es X.env)).any (·.1)=ag) AutoP.a3._auto_1):PE X (.Call (.Name x p) (e::es) [] pos) (tCB r t):=by
 intro pins s σ H Q I h;refine bO (zeR I d hm c ?_ hn b);exact PyProof.Rows.callWith_builtin1 (thn (ha pos pins s σ H _ I h) fun us s1 ⟨vs,j,i,R,q⟩=>g pins s1 σ j vs us Q i R q) f a
theorem zgT(g:CallR X (.type T) r)(d:Gl X x)(hm:X.mg x=none)(c:ba x=aa (.type T))(ha:PA X (e::es) t)(hn:autoParam (x ≠ "__name__") AutoP.a1._auto_1)(b:autoParam ((x==("__debug__" : ae))=ag) AutoP.a1._auto_1)(f:autoParam (ap (e::es) X.env=(ag,eval e X.env)::ap es X.env) AutoP.a3._auto_1)(a:autoParam ((az pos (ap es X.env)).any (·.1)=ag) AutoP.a3._auto_1):PE X (.Call (.Name x p) (e::es) [] pos) (tCB r t):=by
 intro pins s σ H Q I h;refine bO (zeR I d hm c ?_ hn b);exact PyProof.Rows.callWith_type1 (thn (ha pos pins s σ H _ I h) fun us s1 ⟨vs,j,i,R,q⟩=>g pins s1 σ j vs us Q i R q) f a
end
end L2
namespace HT
open PySem PyProof.Rows
section
open PySem.SeqAt
open PySem.AutoSeq1 (wpAny_loadPart')
open PySem.MeetsSeq PySem.MeetsSeq2 PySem.MeetsSeq3
end
variable{t:ad}{Q:af->ai->Prop}{sl:ad}{vl vu:af}{hi:Option Int}
section
variable{prog:aq}{w:al}{A:ax}{E:af->ai->Prop}{s:ai}
theorem cat_tup{b:ad}{vs ws:List af}(j:IsTup s.heap t vs.toArray)(k:IsTup s.heap b ws.toArray)(g:vs≠[])
  (h1:ws=[]->Q (.ref t) s) (l:ws≠[]->Q (.ref s.heap.objs.size) { s with heap:=s.heap.push { cls := .type "tuple", data := .seq (vs++ws).toArray } })
  (hsz:vs.length+ws.length<=sizeLine):wpAny (am prog w) A (aK .Add (.ref t) (.ref b)) Q E s:=by
 obtain⟨⟨cls,dd,data,sl⟩,f,i,n,hd⟩:=id j;obtain⟨⟨C,d,data2,S⟩,h,a,N,H⟩:=id k;simp only at i hd a H;subst i hd a H;have e:vs.toArray++ws.toArray=(vs++ws).toArray:=by simp
 by_cases c:ws=[]
 ·exact concat_meets ⟨_,f,rfl⟩ ⟨_,h,rfl⟩ cm cp ycv ycw (ycx _ _)
   (tuple_addW1 t b vs.toArray ws.toArray n N dd d sl S (by simpa using g) (by simp[c])) ⟨f,h,h1 c⟩
 ·refine concat_meets ⟨_,f,rfl⟩ ⟨_,h,rfl⟩ cm cp ycv ycw (ycx _ _)
   (tuple_addW2 t b vs.toArray ws.toArray n N dd d sl S (by simpa using g) (by simpa using c) (by rw[yp,yp];exact hsz)) ⟨f,h,?_⟩
  rw[e];exact l c
def sIx(n d:Nat):Option Int->Nat
 |none=>d|some v=>if v<0 then (v+(n:Int)).toNat else min v.toNat n
theorem sIx_none(n d:Nat):sIx n d none=d:=rfl
theorem sIx_nat(n d k:Nat):sIx n d (aa (k:Int))=min k n:=by
 show (if (k:Int)<0 then ((k:Int)+(n:Int)).toNat else min (k:Int).toNat n)=min k n;rw[if_neg (by omega),yax]
theorem sIx_le(n d:Nat)(hd:d<=n)(o:Option Int):sIx n d o<=n:=by
 cases o with
 |none=>exact hd|some v=>
  show (if v<0 then (v+(n:Int)).toNat else min v.toNat n)<=n;by_cases h:v<0
  ·rw[if_pos h];omega
  ·rw[if_neg h];exact Nat.min_le_right _ _
theorem zqq(v:Int)(n d:Nat):(if v<0 then max (v+(n:Int)) 0 else min v (n:Int))=((sIx n d (aa v):Nat):Int):=by
 show (if v<0 then max (v+(n:Int)) 0 else min v (n:Int))=(((if v<0 then (v+(n:Int)).toNat else min v.toNat n):Nat):Int);by_cases h:v<0
 ·simp only[if_pos h];omega
 ·simp only[if_neg h];omega
theorem znW(lo hi:Option Int)(n:Nat):ycy lo hi 1 (n:Int)=(((sIx n 0 lo:Nat):Int),((sIx n n hi:Nat):Int)):=by
 have h1 : ¬ ((1:Int)<0):=by omega
 unfold ycy;simp only[h1,if_false];refine Prod.ext ?_ ?_
 ·cases lo with
  |none=>rfl|some v=>exact zqq v n 0
 ·cases hi with
  |none=>rfl|some v=>exact zqq v n n
theorem zne(i j:Nat):ybS (i:Int) (j:Int) 1=j-i:=by
 unfold ybS;have h1:(1:Int)>0:=by omega
 simp only[h1,if_true,Int.ediv_one];split <;> omega
theorem zhS{v:af}{o:Option Int}{Q:Option Int->ai->Prop}(p:aZ v o)(h:Q o s):wpAny (am prog w) A (Builtin.Slice.slicePartIndex v) Q E s:=by
 cases p with
 |none=>exact slicePart_none h|int i t=>exact slicePart_int h
theorem zdg{lo:Option Int}{n:Nat}{Q:Int×Int×Nat->ai->Prop}(hs:s.heap.IsSliceOf sl vl vu .none)(pl:aZ vl lo)(pu:aZ vu hi)(h:Q (((sIx n 0 lo:Nat):Int),1,sIx n n hi-sIx n 0 lo) s):wpAny (am prog w) A (ydh (.ref sl) (pure (n:Int))) Q E s:=by
 obtain⟨os,H,b,a⟩:=id hs;unfold ydh Builtin.Slice.sliceFields;refine aj (aj (aJ H a (x:=vl) rfl (aj (aJ H a (x:=vu) rfl (aj (aJ H a (x := .none) rfl (av ?_)))))));refine aj (slicePart_none ?_);show wpAny _ _ (if ((1:Int)==0)=ac then _ else _) _ _ s;rw[if_neg (by decide)];refine aj (zhS pl (aj (zhS pu (aj (av ?_)))));show wpAny _ _ (match ycy lo hi 1 (n:Int) with | (lo,hi)=>pure (lo,(1:Int),ybS lo hi 1)) _ _ s;rw[znW lo hi n];show wpAny _ _ (pure (((sIx n 0 lo:Nat):Int),(1:Int),ybS ((sIx n 0 lo:Nat):Int) ((sIx n n hi:Nat):Int) 1)) _ _ s;rw[zne];exact av h
theorem zra(xs:Array af)(i k:Nat):((yw k).filterMap fun(m:Nat)=>xs[((i:Int)+(m:Int)*1).toNat]?).toArray=((xs.toList.drop i).take k).toArray:=by
 have e:(fun(m:Nat)=>xs[((i:Int)+(m:Int)*1).toNat]?)=fun m=>xs[i+m]?:=by
  funext m;have:((i:Int)+(m:Int)*1).toNat=i+m:=by omega
  rw[this]
 rw[e];have:=pick_run xs i k;rw[List.filterMap_map]at this;have E:((fun x=>xs[x]?)∘fun x=>i+x)=fun m=>xs[i+m]?:=rfl;rw[E]at this;rw[this]
theorem getItem_tuple_cut{items:Array af}{lo:Option Int}(a:IsTup s.heap t items)(hs:s.heap.IsSliceOf sl vl vu .none)(pl:aZ vl lo)(pu:aZ vu hi)
  (f : ¬ (sIx items.size 0 lo=0/\sIx items.size items.size hi=items.size))
  (h:Q (.ref s.heap.objs.size) { s with heap:=s.heap.push { cls := .type "tuple", data := .seq ((items.toList.drop (sIx items.size 0 lo)).take (sIx items.size items.size hi-sIx items.size 0 lo)).toArray } })
  (hsz:items.size<=sizeLine):wpAny (am prog w) A (bv (.ref t) (.ref sl)) Q E s:=by
 have H:sizeOk (.seq ((items.toList.drop (sIx items.size 0 lo)).take (sIx items.size items.size hi-sIx items.size 0 lo)).toArray):=by
  show ((items.toList.drop (sIx items.size 0 lo)).take (sIx items.size items.size hi-sIx items.size 0 lo)).toArray.size<=sizeLine;rw[yp,yap,ydi,ya0];omega
 have k:sIx items.size items.size hi<=items.size:=sIx_le _ _ (yc _) hi;obtain⟨os,b,d,g⟩:=id hs;have e:s.TypeIs (.ref sl) "slice" := ⟨os,b,d⟩;unfold bv;try with_reducible refine aY ?_
 first | refine aj (av ?_) | skip
 refine aj (wpAny_sequenceKey a.typeIs (by decide) ?_);refine aj (bR (name:=yH "__getitem__") a.typeIs PyProof.Rows.slot_tuple_getitem
  (bw PyProof.Rows.slot_tuple_getitem a.typeIs entry_tuple_getitem ?_ (args_tuple_getitem _ _)))
 show wpAny _ _ (ycz (.ref t) >>= _) _ _ s;refine aj (tupleItemsOf_ a ?_);refine aj (wpAny_typeOf e ?_);rw[if_pos (by decide)];refine aj (zdg hs pl pu ?_);have c : ¬ ((((sIx items.size 0 lo:Nat):Int)==0&&(1:Int)==1&&(sIx items.size items.size hi-sIx items.size 0 lo)==items.size)=ac):=by
  intro q;rw[yy,yy]at q;have j:((sIx items.size 0 lo:Nat):Int)=0:=eq_of_beq q.1.1;have i:sIx items.size items.size hi-sIx items.size 0 lo=items.size:=eq_of_beq q.2;exact f ⟨by omega,by omega⟩
 show wpAny _ _ (if (((sIx items.size 0 lo:Nat):Int)==0&&(1:Int)==1&&(sIx items.size items.size hi-sIx items.size 0 lo)==items.size)=ac then _ else _) _ _ s;rw[if_neg c,zra]
 first
  |exact aj (m:=ybk _) (aR (av ⟨_,rfl,av h⟩) H)
  |exact aj (m:=ybk _) (aR (aj (av (av ⟨_,rfl,av h⟩))) H)
  |exact aj (aj (m:=ybk _) (aR (av (av ⟨_,rfl,av h⟩)) H))
  |exact aj (aj (m:=ybk _) (aR (av ⟨_,rfl,av h⟩) H))
end
end HT
namespace L2
open PySem PySem.Spec PyProof.Rows
abbrev TO:=St->Hp->(Option Int->Hp->Prop)->Prop
def PO(X:Cx)(e:Option ak)(t:TO):Prop :=
 ∀(pins:List (ad×ar))(s:ai)(σ : St)(H:Hp)(Q:Option Int->Hp->Prop),Inv X pins σ H s->t σ H Q →
  wpAny (am X.prog X.w) X.A (evalPart e X.env) (fun u s'=>∃o H',Inv X pins σ H' s'/\aZ u o/\Q o H') X.xe s
def zsH:TO:=fun _ H Q=>Q none H
def tPart(t:TE):TO:=fun σ H Q=>t σ H fun x H1=>∃i,x = .int i/\Q (aa i) H1
variable{X:Cx}{pos:aw}{r:V->Option Int->Option Int->Hp->VK->Prop}{xs:List V}
section
variable{e:ak}{te:TE}{lo hi:Option ak}{tl th:TO}{p2:aw}
theorem ztq:PO X none zsH:=by
 intro pins s σ H Q I h;rw[evalPart_none];exact av ⟨none,H,I,.none,h⟩
theorem ztp(h:PE X e te):PO X (aa e) (tPart te):=by
 intro pins s σ H Q I b;rw[evalPart_some];refine thn (h pins s σ H _ I b) ?_;rintro u s1 ⟨x,d,c,r,a⟩;obtain⟨i,rfl,q⟩:=a;obtain⟨t,rfl⟩:=r;exact⟨aa i,d,c,.int i t,q⟩
def SlR(X:Cx)(r:V->Option Int->Option Int->Hp->VK->Prop):Prop :=
 ∀(pins:List (ad×ar))(s:ai)(σ : St)(H:Hp)(x:V)(v vl vu:af)(lo hi:Option Int)(sl:ad)(Q:VK),Inv X pins σ H s->RelV x v->s.heap.IsSliceOf sl vl vu .none->aZ vl lo->aZ vu hi->r x lo hi H Q →
  ∃T id,typeLookup (.type T) "__getitem__" = pure (aa (.builtin id))/\s.TypeIs v T/\wpAny (am X.prog X.w) X.A (bv v (.ref sl)) (EP X pins σ Q) X.xe s
theorem SlR.or{c:V->Option Int->Option Int->Hp->VK->Prop}(h:SlR X r)(h':SlR X c):SlR X (fun x lo hi H Q=>r x lo hi H Q∨c x lo hi H Q):=by
 intro pins s σ H x v b a lo hi sl Q I R hs pl pu q;rcases q with q|q
 ·exact h pins s σ H x v b a lo hi sl Q I R hs pl pu q
 ·exact h' pins s σ H x v b a lo hi sl Q I R hs pl pu q
def tSl(r:V->Option Int->Option Int->Hp->VK->Prop)(te:TE)(t T:TO):TE:=fun σ H Q=>te σ H fun x H1=>t σ H1 fun l H2=>T σ H2 fun u h=>r x l u h Q
theorem zmp(hr:SlR X r)(m:PE X e te)(hl:PO X lo tl)(i:PO X hi th):PE X (.Subscript e (.Slice lo hi none p2) pos) (tSl r te tl th):=by
 intro pins s σ H Q I h;refine Subscript_ (thn (m pins s σ H _ I h) ?_);rintro v s1 ⟨x,z,w,R,g⟩;refine wpAny_Slice (thn (hl pins s1 σ z _ w g) fun a s2 ⟨l,y,t,pl,f⟩=>thn (i pins s2 σ y _ t f) ?_);rintro V S ⟨u,c,p,pu,d⟩;rw[evalPart_none];refine av ?_;have o:Inv X pins σ c { S with heap:=S.heap.push { cls := .type "slice", data := .fields #[a,V,.none] } }:=p.kept (t':=S.toks) fun b ob q=>yf _ q;obtain⟨T,id,n,j,k⟩:=hr pins { S with heap:=S.heap.push { cls := .type "slice", data := .fields #[a,V,.none] } } σ c x v a V l u S.heap.objs.size Q o R (Heap.IsSliceOf.new ..) pl pu d;show wpAny (am X.prog X.w) X.A (cq e (.Slice lo hi none p2) v (.ref S.heap.objs.size)) (EP X pins σ Q) X.xe { S with heap:=S.heap.push { cls := .type "slice", data := .fields #[a,V,.none] } };exact tail_any (ops:=[.ref S.heap.objs.size,v]) j n k (by with_unfolding_all rfl)
def zsw(xs:List V)(lo hi:Option Int):List V:=(xs.drop (HT.sIx xs.length 0 lo)).take (HT.sIx xs.length xs.length hi-HT.sIx xs.length 0 lo)
theorem zhp(xs:List V)(lo hi:Option Int):(zsw xs lo hi).length<=xs.length:=by
 unfold zsw;rw[yap,ydi];omega
def rSlT(K:yb):V->Option Int->Option Int->Hp->VK->Prop:=fun x lo hi H Q=>∃a xs,x = .ref a/\SqT K H a xs ∧
 ¬ (HT.sIx xs.length 0 lo=0/\HT.sIx xs.length xs.length hi=xs.length)/\∀p,H p=none->Q (.ref p) (upd H p (.tup (zsw xs lo hi)))
theorem zr5:SlR X (rSlT X.K):=by
 intro pins s σ H x v i V lo hi sl Q I R hs pl pu h;obtain⟨a,xs,rfl,f,g,q⟩:=h;cases R;obtain⟨its,r,e,d⟩:=I.tuple f;have c:its.toArray.size=xs.length:=by rw[yp];exact r.length.symm
 refine⟨"tuple", _,PyProof.Rows.slot_tuple_getitem.lookup,e.typeIs,?_⟩;refine HT.getItem_tuple_cut e hs pl pu (by rw[c];exact g) ?_ (by rw[c];exact d);rw[c];refine⟨.ref s.heap.objs.size,_,I.laid (t':=s.toks) (o := .tup (zsw xs lo hi)) (fun b ob q=>yf _ q) (yc _) ?_,rfl,q _ (I.hok.fresh (yc _))⟩;exact⟨yx (zhp xs lo hi) d,_,(r.drop (HT.sIx xs.length 0 lo)).take (HT.sIx xs.length xs.length hi-HT.sIx xs.length 0 lo),IsTup.new _ _,_,yr _ rfl,rfl⟩
def rCatT(K:yb):R2:=fun x y H Q=>∃a b xs ys,x = .ref a/\y = .ref b/\SqT K H a xs/\SqT K H b ys/\xs≠[]/\xs.length+ys.length<=sizeLine ∧
 (ys=[]->Q (.ref a) H)/\(ys≠[]->∀p,H p=none->Q (.ref p) (upd H p (.tup (xs++ys))))
theorem Vals.nil_iff{us:List af}(r:Vals xs us):us=[]↔xs=[]:=by
 cases r with
 |nil=>simp|cons _ _=>simp
theorem ztN:OpR X (aK .Add) (rCatT X.K):=by
 intro pins s σ H x y v u Q I e d h;obtain⟨a,b,xs,ys,rfl,rfl,ha,k,j,c,g,f⟩:=h;cases e;cases d;obtain⟨its,R,p,_⟩:=I.tuple ha;obtain⟨i,r,p2,_⟩:=I.tuple k;refine HT.cat_tup p p2 (fun z=>j (R.nil_iff.mp z)) (fun z=>⟨.ref a,H,I,rfl,g (r.nil_iff.mp z)⟩) (fun z=>?_) (by rw[<- R.length,<- r.length];exact c);refine⟨.ref s.heap.objs.size,_,I.laid (t':=s.toks) (o := .tup (xs++ys)) (fun b ob q=>yf _ q) (yc _) ?_,rfl,f (fun w=>z (r.nil_iff.mpr w)) _ (I.hok.fresh (yc _))⟩;exact⟨by rw[yj];exact c,_,R.append r,IsTup.new _ _,_,yr _ rfl,rfl⟩
end
def ixN(n:Nat)(i:Int):Option Nat:=if 0<=i then (if i<n then aa i.toNat else none) else if -(n:Int)<=i then aa (i+n).toNat else none
variable{α : Type}
def atI(xs:List α)(i:Int):Option α := (ixN xs.length i).bind fun j=>xs[j]?
variable{n:Nat}{i:Int}
theorem zpV{j:Nat}(h:ixN n i=aa j):bS i n=aa j/\j<n /\ -(n:Int)<=i/\i<n:=by
 unfold ixN at h;by_cases h0:0<=i
 ·rw[if_pos h0]at h;by_cases h1:i<n
  ·rw[if_pos h1]at h;have e:i.toNat=j:=yG h;exact⟨by rw[seqIndex_of h0 h1,e],by omega,by omega,h1⟩
  ·rw[if_neg h1]at h;cases h
 ·rw[if_neg h0]at h;by_cases h1 : -(n:Int)<=i
  ·rw[if_pos h1]at h;have e:(i+n).toNat=j:=yG h;exact⟨by rw[seqIndex_neg (by omega) h1,e],by omega,h1,by omega⟩
  ·rw[if_neg h1]at h;cases h
theorem zlX{xs:List α}{v:α}(h:atI xs i=aa v):∃j,bS i xs.length=aa j/\xs[j]?=aa v/\j<xs.length /\ -(xs.length:Int)<=i/\i<xs.length:=by
 unfold atI at h;cases e:ixN xs.length i with
 |none=>rw[e]at h;cases h|some j=>
  rw[e]at h;obtain⟨h1,b,a,H⟩:=zpV e;exact⟨j,h1,h,b,a,H⟩
def zl1(b:ak):Prop:=∀o i,subscripted b ag o i=operate [o,i] (bv o i)
def IxR(X:Cx)(r:R2):Prop :=
 ∀(value S:ak)(pins:List (ad×ar))(s:ai)(σ : St)(H:Hp)(x y:V)(v u:af)(Q:VK),Inv X pins σ H s->RelV x v->RelV y u->r x y H Q →
  subscripted S ag v u=operate [v,u] (bv v u)->wpAny (am X.prog X.w) X.A (cq value S v u) (EP X pins σ Q) X.xe s
def MtR(X:Cx)(id:String)(r:V->List V->Hp->VK->Prop):Prop :=
 ∀(pins:List (ad×ar))(s:ai)(σ : St)(H:Hp)(x:V)(xs:List V)(v:af)(us:List af)(Q:VK),Inv X pins σ H s->RelV x v->Vals xs us->r x xs H Q →
  wpAny (am X.prog X.w) X.A (call (.builtin id) (v::us)) (EP X pins σ Q) X.xe s
variable{pins:List (ad×ar)}{σ : St}{H:Hp}{s:ai}{p:ad}{its its':List af}{y x:V}{u v:af}{T:String}
section
variable{a b:ak}{ta tb:TE}
theorem IxR.or{r b:R2}(h:IxR X r)(h':IxR X b):IxR X (fun x y H Q=>r x y H Q∨b x y H Q):=by
 intro value S pins s σ H x y v u Q I a R q hs;rcases q with q|q
 ·exact h value S pins s σ H x y v u Q I a R q hs
 ·exact h' value S pins s σ H x y v u Q I a R q hs
theorem pe_ix{r:R2}(hr:IxR X r)(ha:PE X a ta)(d:PE X b tb)(hs:zl1 b):PE X (.Subscript a b pos) (tOp r ta tb):=by
 intro pins s σ H Q I h;exact Subscript_ (binT ha d I h fun v u s2 x y e i c R q=>hr a b pins s2 σ e x y v u Q i c R q (hs _ _))
def rIxL(K:yb):R2:=fun x y H Q=>∃p xs i v,x = .ref p/\y = .int i/\SqL K H p xs/\atI xs i=aa v/\Q v H
def rIxT(K:yb):R2:=fun x y H Q=>∃p xs i v,x = .ref p/\y = .int i/\SqT K H p xs/\atI xs i=aa v/\Q v H
def rIxS:R2:=fun x y H Q=>∃z i c,x = .str z/\y = .int i/\z.length<=sizeLine/\atI z.cps.toList i=aa c/\Q (.str ⟨#[c]⟩) H
theorem ix_list:IxR X (rIxL X.K):=by
 intro value S pins s σ H x y v u Q I c b h hs;obtain⟨p,xs,i,z,rfl,rfl,hq,d,q⟩:=h;cases c;obtain⟨t,rfl⟩:=b;obtain⟨its,r,pl,m⟩:=I.list hq;obtain⟨j,h1,l,n,k,g⟩:=zlX d;obtain⟨w,e,R⟩:=r.get l;have hl:=r.length;have hn:=zh3;have f:EP X pins σ Q w s:=⟨z,H,I,R,q⟩;by_cases h0:0<=i
 ·have a:i.toNat=j:=by
   rw[seqIndex_of h0 g]at h1;exact yG h1
  exact item_listR pl.isList h0 (by omega) (by rw[a];simpa using e) f hs
 ·have a:(i+(its.toArray.size:Int)).toNat=j:=by
   rw[seqIndex_neg (by omega) k]at h1;rw[yp,<- hl];exact yG h1
  exact subscriptTail_builtinR (x:=w) pl.isList.typeIs slot_list_getitem.lookup
   (wpAny_getItem_list_neg (Q:=fun r s'=>r=w/\EP X pins σ Q r s') pl.isList (by omega) (by rw[yp] <;> omega) (by omega) (by rw[a];simpa using e) ⟨rfl,f⟩) hs
theorem ix_tup:IxR X (rIxT X.K):=by
 intro value S pins s σ H x y v u Q I b a h hs;obtain⟨p,xs,i,z,rfl,rfl,hq,c,q⟩:=h;cases b;obtain⟨t,rfl⟩:=a;obtain⟨its,r,pl,g⟩:=I.tuple hq;obtain⟨j,h1,d,m,l,k⟩:=zlX c;obtain⟨w,e,R⟩:=r.get d;have hl:=r.length;have hn:=zh3;have f:EP X pins σ Q w s:=⟨z,H,I,R,q⟩;exact subscriptTail_builtinR (x:=w) pl.typeIs slot_tuple_getitem.lookup
  (getItem_tuple (j:=j) (Q:=fun r s'=>r=w/\EP X pins σ Q r s') pl (by omega) (by omega) (by rw[yp,<- hl];exact h1) (by simpa using e) ⟨rfl,f⟩) hs
theorem ix_str:IxR X rIxS:=by
 intro value S pins s σ H x y v u Q I R r h hs;obtain⟨z,i,c,rfl,rfl,g,a,q⟩:=h;obtain⟨t,rfl⟩:=R;obtain⟨t',rfl⟩:=r;obtain⟨j,h1,e,k,d,b⟩:=zlX a;have hl:z.cps.toList.length=z.length:=by simp[Str.length]
 rw[hl]at h1 d b;have hn:=zh3;exact tail_any (typeIs_str s z t) slot_str_getitem.lookup (getItem_str (c:=c) (by
  have f:decide (i < -(2^63:Int))=ag:=decide_eq_false (by omega);have E:decide (i ≥ 2^63)=ag:=decide_eq_false (by omega);rw[f,E,Bool.or_false]) (by rw[h1];simpa using e) ⟨.str ⟨#[c]⟩,H,I.tok _,⟨_,rfl⟩,q⟩) hs
def rIx(K:yb):R2:=fun x y H Q=>rIxL K x y H Q∨rIxT K x y H Q∨rIxS x y H Q
theorem ix_seq:IxR X (rIx X.K):=ix_list.or (ix_tup.or ix_str)
theorem znz(its:List af)(n j:Nat)(u:af):yaH (·.setIfInBounds j u) { cls := .type "list", data := .seq its.toArray n }={ cls := .type "list", data := .seq (its.set j u).toArray n }:=by
 simp[yaH]
theorem Inv.lst(I:Inv X pins σ H s)(h:H p=aa (.lst xs)) : ∃(its:List af)(n:Nat),Vals xs its/\s.heap.get? p=aa { cls := .type "list", data := .seq its.toArray n }/\xs.length<=sizeLine:=by
 obtain⟨z,its,n,r,e⟩:=I.hok p _ h;exact⟨its,n,r,e,z⟩
theorem Inv.lstUpd{ys:List V}{N:Nat}{f:ar->ar}(I:Inv X pins σ H s)(h:H p=aa (.lst xs))
  (d:s.heap.get? p=aa { cls := .type "list", data := .seq its.toArray n }) (a:f { cls := .type "list", data := .seq its.toArray n }={ cls := .type "list", data := .seq its'.toArray N }) (r:Vals ys its') (c:ys.length<=sizeLine) (t:Nat) :
  Inv X pins σ (upd H p (.lst ys)) { s with heap:=s.heap.update p f,toks:=t }:=by
 have e:(s.heap.update p f).get? p=aa { cls := .type "list", data := .seq its'.toArray N }:=by
  rw[ybl f d (by rw[a] <;> rfl),a]
 refine I.write (x:=p) (e:=p) (by rw[h];trivial) (.inl rfl) (fun b u g q=>(yay _ _ (Ne.symm g)).trans q) ⟨_,e⟩ ?_;exact⟨c,its',N,r,e⟩
def rSetL:V->V->V->Hp->(Hp->Prop)->Prop:=fun o i v H Q=>∃p xs k j,o = .ref p/\i = .int k/\H p=aa (.lst xs)/\ixN xs.length k=aa j/\Q (upd H p (.lst (xs.set j v)))
theorem zqN:PSet X rSetL:=by
 intro pins s σ H o i v O w u Q I f g R h;obtain⟨p,xs,k,j,rfl,rfl,hp,m,q⟩:=h;cases f;obtain⟨t,rfl⟩:=g;obtain⟨its,n,r,a,l⟩:=I.lst hp;obtain⟨h1,x,d,c⟩:=zpV m;have hl:=r.length;have hn:=zh3;have e:Inv X pins σ (upd H p (.lst (xs.set j v))) { s with heap:=s.heap.update p (yaH (·.setIfInBounds j u)) } :=
  I.lstUpd hp a (znz its n j u) (r.set R j) (by rw[yad];exact l) s.toks
 by_cases h0:0<=k
 ·have b:k.toNat=j:=by
   rw[seqIndex_of h0 c]at h1;exact yG h1
  exact PySem.W.ki_setAt a h0 (by omega) (by rw[yp,<- hl];exact c) (by rw[b];exact⟨_,e,q⟩)
 ·have b:(k+(its.toArray.size:Int)).toNat=j:=by
   rw[seqIndex_neg (by omega) d]at h1;rw[yp,<- hl];exact yG h1
  exact PySem.W.ki_setBack a (by omega) (by rw[yp,<- hl];exact d) (by omega) (by rw[b];exact⟨_,e,q⟩)
theorem zjs(lo hi:Option Int)(n:Nat):(bJ lo hi none n).1=((HT.sIx n 0 lo:Nat):Int)/\(bJ lo hi none n).2.1=((HT.sIx n n hi:Nat):Int)/\(bJ lo hi none n).2.2=1:=by
 refine⟨?_,?_,rfl⟩
 ·cases lo with
  |none=>simp[bJ,HT.sIx]|some i=>
   simp only[bJ,HT.sIx,ydj,show (1:Int)>0 by decide,if_true];by_cases h:i<0
   ·simp only[h,if_true] <;> omega
   ·simp only[h,if_false] <;> omega
 ·cases hi with
  |none=>simp[bJ,HT.sIx]|some i=>
   simp only[bJ,HT.sIx,ydj,show (1:Int)>0 by decide,if_true];by_cases h:i<0
   ·simp only[h,if_true] <;> omega
   ·simp only[h,if_false] <;> omega
theorem zis(its:List af)(lo hi:Option Int):slicePick its.toArray lo hi none=((its.drop (HT.sIx its.length 0 lo)).take (HT.sIx its.length its.length hi-HT.sIx its.length 0 lo)).toArray:=by
 obtain⟨h1,H,h⟩:=zjs lo hi its.toArray.size;unfold slicePick;rw[h1,H,h];simp only[sliceRange_one,pick_run,yp] <;> rfl
def rSlL(K:yb):V->Option Int->Option Int->Hp->VK->Prop:=fun x lo hi H Q=>∃a xs,x = .ref a/\SqL K H a xs/\∀p,H p=none->Q (.ref p) (upd H p (.lst (zsw xs lo hi)))
theorem zom:SlR X (rSlL X.K):=by
 intro pins s σ H x v g V lo hi sl Q I R hs pl pu h;obtain⟨a,xs,rfl,f,q⟩:=h;cases R;obtain⟨its,r,d,e⟩:=I.list f;have c:=r.length;refine⟨"list", _,slot_list_getitem.lookup,d.isList.typeIs,?_⟩;refine wpAny_getItem_list_slice d.isList hs pl pu .none (by simp) ?_ (by rw[yp] <;> omega);rw[zis,<- c];refine⟨.ref s.heap.objs.size,_,I.laid (t':=s.toks) (o := .lst (zsw xs lo hi)) (fun b ob q=>yf _ q) (yc _) ?_,rfl,q _ (I.hok.fresh (yc _))⟩;exact⟨yx (zhp xs lo hi) e,_,0,(r.drop (HT.sIx xs.length 0 lo)).take (HT.sIx xs.length xs.length hi-HT.sIx xs.length 0 lo),yr _ rfl⟩
def zku:V->Bool
 |.non=>ac|.bl _=>ac|.int _=>ac|.str _=>ac|_=>ag
def eqV:V->V->Bool
 |.non,.non=>ac|.bl a,.bl b=>a==b|.bl a,.int b=>(if a then 1 else 0)==b|.int a,.bl b=>a==(if b then 1 else 0)|.int a,.int b=>a==b|.str a,.str b=>a==b|_,_=>ag
theorem eqAt_V{A:ax}(R:RelV y u)(r:RelV x v)(F:zku y=ac)(f:zku x=ac):SeqAt.EqAt A s u v (eqV y x):=by
 cases y with
 |non=>
  cases R;cases x with
  |non=>cases r;exact SeqAt.EqAt.same _|bl b=>cases r;exact SeqAt.EqAt.none_bool b|int b=>obtain⟨t,rfl⟩:=r;exact SeqAt.EqAt.none_int b t
  |str b=>obtain⟨t,rfl⟩:=r;exact SeqAt.EqAt.none_str b t
  |_=>exact absurd (show ag=ac from f) yu
 |bl a=>
  cases R;cases x with
  |non=>cases r;exact SeqAt.EqAt.bool_none a|bl b=>cases r;exact SeqAt.EqAt.bool_bool a b|int b=>obtain⟨t,rfl⟩:=r;exact SeqAt.EqAt.bool_int a b t
  |str b=>obtain⟨t,rfl⟩:=r;exact SeqAt.EqAt.bool_str a b t
  |_=>exact absurd (show ag=ac from f) yu
 |int a=>
  obtain⟨t',rfl⟩:=R;cases x with
  |non=>cases r;exact SeqAt.EqAt.int_none a t'|bl b=>cases r;exact SeqAt.EqAt.int_bool a t' b|int b=>obtain⟨t,rfl⟩:=r;exact SeqAt.EqAt.int_int a t' b t
  |str b=>obtain⟨t,rfl⟩:=r;exact SeqAt.EqAt.int_str a t' b t
  |_=>exact absurd (show ag=ac from f) yu
 |str a=>
  obtain⟨t',rfl⟩:=R;cases x with
  |non=>cases r;exact SeqAt.EqAt.str_none a t'|bl b=>cases r;exact SeqAt.EqAt.str_bool a t' b|int b=>obtain⟨t,rfl⟩:=r;exact SeqAt.EqAt.str_int a t' b t
  |str b=>obtain⟨t,rfl⟩:=r;exact SeqAt.EqAt.str_str a t' b t
  |_=>exact absurd (show ag=ac from f) yu
 |_=>exact absurd (show ag=ac from F) yu
def eqU(x:V)(u:af):Bool:=match u with
 |.none=>eqV .non x|.bool b=>eqV (.bl b) x|.int i _=>eqV (.int i) x|.str z _=>eqV (.str z) x|_=>ag
theorem eqU_of(r:RelV y u)(f:zku y=ac):eqU x u=eqV y x:=by
 cases y with
 |non=>cases r;rfl|bl b=>cases r;rfl|int i=>obtain⟨t,rfl⟩:=r;rfl
 |str z=>obtain⟨t,rfl⟩:=r;rfl
 |_=>exact absurd (show ag=ac from f) yu
theorem zmu{A:ax}{s:ai}{x:V}{v:af}(R:RelV x v)(F:zku x=ac):∀{xs:List V}{us:List af},Vals xs us->xs.all zku=ac->∀u∈us,SeqAt.EqAt A s u v (eqU x u)
 |_,_,.nil,_=>fun u h=>by cases h|y::xs,u::us,.cons r t,f=>fun U h=>by
  rw[ybm,yy]at f;rcases yn.mp h with rfl|h
  ·rw[eqU_of r f.1];exact eqAt_V r R f.1 F
  ·exact zmu R F t f.2 U h
theorem zkI:CallR X (.builtin "len") (fun xs H Q=>∃p ys,xs=[.ref p]/\(SqL X.K H p ys∨SqT X.K H p ys)/\Q (.int ys.length) H):=by
 intro pins s σ H xs us Q I r h;obtain⟨p,ys,rfl,hq,q⟩:=h;obtain⟨u,rfl,b⟩:=zch r;cases b;have hn:=zh3;rcases hq with hq|hq
 ·obtain⟨its,R,pl,c⟩:=I.list hq;have a:=R.length;exact Calls.call_len_list pl.isList (by simp only[yp] <;> omega) ⟨.int ys.length,H,I.tok _,⟨s.toks+1,by rw[yp,a]⟩,q⟩
 ·obtain⟨its,R,pl,c⟩:=I.tuple hq;have a:=R.length;exact len_tuple pl (by simp only[yp] <;> omega) ⟨.int ys.length,H,I.tok _,⟨s.toks+1,by rw[yp,a]⟩,q⟩
theorem zkH:CallR X (.builtin "len") (fun xs H Q=>∃z,xs=[.str z]/\z.length<=sizeLine/\Q (.int z.length) H):=by
 intro pins s σ H xs us Q I r h;obtain⟨z,rfl,a,q⟩:=h;obtain⟨u,rfl,t,rfl⟩:=zch r;have hn:=zh3;exact len_str (by omega) ⟨.int z.length,H,I.tok _,⟨_,rfl⟩,q⟩
theorem CallR.or{f:af}{r R:List V->Hp->VK->Prop}(h:CallR X f r)(h':CallR X f R):CallR X f (fun xs H Q=>r xs H Q∨R xs H Q):=by
 intro pins s σ H xs us Q I rs q;rcases q with q|q
 ·exact h pins s σ H xs us Q I rs q
 ·exact h' pins s σ H xs us Q I rs q
theorem zji:CallR X (.type "tuple") (fun xs H Q=>∃p ys,xs=[.ref p]/\((SqL X.K H p ys/\∀l,H l=none->Q (.ref l) (upd H l (.tup ys)))∨(SqT X.K H p ys/\Q (.ref p) H))):=by
 intro pins s σ H xs us Q I r h;obtain⟨p,ys,rfl,h⟩:=h;obtain⟨u,rfl,d⟩:=zch r;cases d;rcases h with⟨hq,q⟩|⟨hq,q⟩
 ·obtain⟨its,R,pl,a⟩:=I.list hq;have c:=R.length;refine call_tuple_list pl.isList (fun h' kp=>?_) (by simp only[yp] <;> omega);have i:Inv X pins σ H { s with heap:=h' }:=I.kept (t':=s.toks) kp;have f:Inv X pins σ (upd H h'.objs.size (.tup ys)) { s with heap:=h'.push { cls := .type "tuple", data := .seq its.toArray } } :=
   i.laid (t':=s.toks) (fun b o e=>yf _ e) (yc _) (show ObjOk X.prog X.w _ _ _ (.tup ys) from ⟨a,its,R,IsTup.new _ _,_,yr _ rfl,rfl⟩)
  exact⟨.ref h'.objs.size,_,f,rfl,q _ (i.hok.fresh (yc _))⟩
 ·obtain⟨its,R,pl,a⟩:=I.tuple hq;exact call_tuple_same pl ⟨.ref p,H,I,rfl,q⟩
def tyV(K:yb)(T:String)(x:V)(H:Hp):Prop:=match x with
 |.str _=>T = "str"|.int _=>T = "int"|.ref p=>(T = "list" /\ ∃xs,SqL K H p xs)∨(T = "tuple" /\ ∃o,K.lookup p=aa o/\o.cls = .type "tuple" /\ o.dict=none) ∨
   (T = "dict" /\ ((∃kvs,H p=aa (.dK kvs))∨∃kvs,H p=aa (.dT kvs)))∨(T = "set" /\ ∃S n,H p=aa (.set S n))
 |_=>False
theorem tyV_is(I:Inv X pins σ H s)(r:RelV x v)(ty:tyV X.K T x H) : s.TypeIs v T/\∀a,v = .ref a->∃ob,s.heap.get? a=aa ob/\ob.dict=none:=by
 cases x with
 |str z=>
  obtain⟨t,rfl⟩:=r;cases (show T = "str" from ty);exact⟨typeIs_str s z t,fun _ e=>nomatch e⟩
 |int i=>
  obtain⟨t,rfl⟩:=r;cases (show T = "int" from ty);exact⟨b8 s i t,fun _ e=>nomatch e⟩
 |ref p=>
  cases r;rcases ty with⟨rfl,xs,hq⟩|⟨rfl,o,h,b,hd⟩|⟨rfl,h⟩|⟨rfl,S,n,h⟩
  ·obtain⟨its,_,pl,_⟩:=I.list hq;refine⟨pl.isList.typeIs,fun a e=>?_⟩;cases e;obtain⟨o,n,e,c,hd,_⟩:=pl;exact⟨o,e,hd⟩
  ·refine⟨⟨o,I.kIn p o h,b⟩,fun a e=>?_⟩;cases e;exact⟨o,I.kIn _ o h,hd⟩
  ·have z:∃o,s.heap.get? p=aa o/\o.ExactDict:=by
    rcases h with⟨kvs,h⟩|⟨kvs,h⟩
    ·obtain⟨_,_,_,_,o,_,_,e,ex,_⟩:=I.hok p _ h;exact⟨o,e,ex⟩
    ·obtain⟨_,_,_,_,o,_,_,e,ex,_⟩:=I.hok p _ h;exact⟨o,e,ex⟩
   obtain⟨o,e,ex⟩:=z;refine⟨⟨o,e,ex.1⟩,fun a E=>?_⟩;cases E;exact⟨o,e,ex.2.1⟩
  ·obtain⟨o,_,_,_,e,ex,_⟩:=I.hok p _ h;refine⟨⟨o,e,ex.1⟩,fun a E=>?_⟩;cases E;exact⟨o,e,ex.2.1⟩
 |_=>exact False.elim ty
def tBM(K:yb)(T:String)(r:V->List V->Hp->VK->Prop)(a:TE)(t:TA):TE:=fun σ H Q=>a σ H fun x H1=>tyV K T x H1/\t σ H1 fun xs H2=>r x xs H2 Q
variable{o e:ak}{es:List ak}{to:TE}{t:TA}{name:ae}{apos cpos:aw}{id:String}{r:V->List V->Hp->VK->Prop}
theorem pe_bm(p:PlainAttrs T)(slot:Slot T name id)(f:typeOf (.builtin id)=pure (.type "method_descriptor"))(hm:MtR X id r)(l:PE X o to)(ha:PA X (e::es) t)(c:autoParam (br o name X.env (eval o X.env)=eval o X.env) AutoP.a3._auto_1)(d:autoParam (((az cpos (ap (e::es) X.env)).all (fun x=> !x.1)&&(aL cpos (aM [] X.env)).all (fun x=>x.1.isSome)&&decide ((e::es).length+([]:List aS).length+(if ([]:List aS).isEmpty then 0 else 1)<30))=ac) AutoP.a3._auto_1)(b:autoParam ((apos.endLine==cpos.line)=ac) AutoP.a3._auto_1)(hs:autoParam (ap (e::es) X.env=(ag,eval e X.env)::ap es X.env) AutoP.a3._auto_1)(a:autoParam ((az cpos (ap es X.env)).any (·.1)=ag) AutoP.a3._auto_1) : PE X (.Call (.Attribute o name apos) (e::es) [] cpos) (tBM X.K T r to t):=by
 intro pins s σ H Q I h;refine wpAny_Call_method_late c d b rfl (thn (l pins s σ H _ I h) ?_);rintro v s1 ⟨x,w,i,R,ty,k⟩;obtain⟨h1,m⟩:=tyV_is i R ty;refine⟨T,id,p,slot,f,h1,m,?_⟩;have g:=ha cpos pins s1 σ w _ i k;rw[hs]at g ⊢;refine ycA (by show (ag||(az cpos (ap es X.env)).any (·.1))=ag;rw[a] <;> rfl) (ycB ?_);refine thn g ?_;rintro us s2 ⟨vs,u,n,j,q⟩;exact hm pins s2 σ u x vs v us Q n R j q
end
def MtM(X:Cx)(id:String)(r:V->List V->Hp->VK->Prop):Prop :=
 ∀(pins:List (ad×ar))(s:ai)(σ : St)(H:Hp)(x:V)(xs:List V)(v:af)(us:List af)(Q:VK),Inv X pins σ H s->RelV x v->Vals xs us->r x xs H Q →
  wpAny (am X.prog X.w) X.A (call (.builtin id) (v::us)) (EP X pins σ Q) X.xe s
theorem Vals.one:∀{x:V}{us:List af},Vals [x] us->∃u,us=[u]/\RelV x u
 |_,_,.cons r .nil=>⟨_,rfl,r⟩
theorem Vals.eraseIdx:∀{xs:List V}{us:List af}(i:Nat),Vals xs us->Vals (xs.eraseIdx i) (us.eraseIdx i)
 |_,_,_,.nil=>.nil|_,_,0,.cons _ t=>t|_,_,i+1,.cons r t=>.cons r (Vals.eraseIdx i t)
theorem Vals.rep{xs:List V}{us:List af}(h:Vals xs us):∀k:Nat,Vals (yd k xs).flatten (yd k us).flatten
 |0=>.nil|k+1=>by
  rw[y7,y7,ya4,ya4];exact Vals.append h (Vals.rep h k)
theorem zj3{α : Type}:∀(l:List α)(i:Nat),(l.eraseIdx i).length<=l.length
 |[],_=>yc _|_::_,0=>ya1 _|_::r,i+1=>Nat.succ_le_succ (zj3 r i)
theorem zkt(its:List af):∀(k:Nat)(a:List af),
  ya5 (fun x1 x2=>x1++x2) a.toArray (yd k its.toArray)=(a++(yd k its).flatten).toArray
 |0,a=>by simp|k+1,a=>by
  have e:a.toArray++its.toArray=(a++its).toArray:=by simp
  have E:(a++its)++(yd k its).flatten=a++(yd (k+1) its).flatten:=by
   rw[y7,ya4,yX]
  rw[<- E,<- zkt its k (a++its),<- e,y7,yaT]
variable{t':Nat}
section
variable{l b:ad}{ys zs:List V}
theorem Inv.lset{f:Array af->Array af}(I:Inv X pins σ H s)(g:H l=aa (.lst xs))
  (e:s.heap.get? l=aa { cls := .type "list", data := .seq its.toArray n }) (c:f its.toArray=its'.toArray) (a:Vals ys its') (h:ys.length<=sizeLine) :
  Inv X pins σ (upd H l (.lst ys)) { s with heap:=s.heap.update l (yaH f),toks:=t' }:=by
 have q:=ydk e f;rw[c]at q;refine I.write (x:=l) (e:=l) (by rw[g];exact trivial) (.inl rfl) (fun B u d b=>(yay s.heap (yaH f) (Ne.symm d)).trans b) ⟨_,q⟩ ?_;exact⟨h,its',_,a,q⟩
theorem Inv.lnew(I:Inv X pins σ H s)(a:Vals ys its)(h:ys.length<=sizeLine) : Inv X pins σ (upd H s.heap.objs.size (.lst ys)) { s with heap:=s.heap.push { cls := .type "list", data := .seq its.toArray },toks:=t' } :=
 I.laid (fun _ _ q=>yf _ q) (yc _) ⟨h,its,0,a,yr _ rfl⟩
theorem Inv.fresh(I:Inv X pins σ H s):H s.heap.objs.size=none:=I.hok.fresh (yc _)
theorem Inv.lstM(I:Inv X pins σ H s)(h:H l=aa (.lst xs)):xs.length<=sizeLine/\∃(its:List af)(n:Nat),Vals xs its/\xs.length=its.length/\s.heap.get? l=aa { cls := .type "list", data := .seq its.toArray n }:=by
 obtain⟨z,its,n,r,e⟩:=I.hok l _ h;exact⟨z,its,n,r,r.length,e⟩
theorem zrr(h:n<=sizeLine):ycC n=ag:=by
 unfold ycC;exact decide_eq_false (by omega)
end
section
def zoH:V->List V->Hp->VK->Prop:=fun x vs H Q=>∃l xs y,x = .ref l/\vs=[y]/\H l=aa (.lst xs)/\xs.length<sizeLine/\Q .non (upd H l (.lst (xs++[y])))
theorem zeN:MtM X "list.append" zoH:=by
 intro pins s σ H x vs v us Q I R b h;obtain⟨l,xs,y,rfl,rfl,a,d,q⟩:=h;cases R;obtain⟨u,rfl,c⟩:=b.one;obtain⟨z,its,n,r,hl,e⟩:=I.lstM a;refine bi F.slot_list_append ⟨_,e,rfl⟩ ydl (ydm _ _) (ydn l its.toArray n u (by rw[yp];omega)) ⟨e,?_⟩;refine⟨.non,_,I.lset (its':=its++[u]) a e (by simp) (r.append (.cons c .nil)) ?_,rfl,q⟩;rw[yj,List.length_singleton];omega
def zr7:V->List V->Hp->VK->Prop:=fun x vs H Q=>∃l xs i k y,x = .ref l/\vs=[.int i]/\H l=aa (.lst xs) /\ -(2^63)<=i/\i<2^63/\bS i xs.length=aa k/\xs[k]?=aa y/\Q y (upd H l (.lst (xs.eraseIdx k)))
theorem zru:MtM X "list.pop" zr7:=by
 intro pins s σ H x vs v us Q I b c h;obtain⟨l,xs,i,k,y,rfl,rfl,a,h1,m,j,f,q⟩:=h;cases b;obtain⟨u,rfl,d⟩:=c.one;obtain⟨t,rfl⟩:=d;obtain⟨z,its,n,r,hl,e⟩:=I.lstM a;obtain⟨w,g,R⟩:=r.get f;refine bi F.slot_list_pop ⟨_,e,rfl⟩ F.entry_list_pop (F.args_list_pop_2 _ _)
  (MeetsSeq.list_pop_at l its.toArray n i t k w (fitsIndex_both h1 m) (by rw[yp,<- hl];exact j) (by rw[<- ycD];exact g) (by rw[yp];omega)) ⟨e,?_⟩
 refine⟨y,_,I.lset (its':=its.eraseIdx k) a e ?_ (r.eraseIdx k) ?_,R,q⟩
 ·show its.toArray.eraseIdxIfInBounds k=(its.eraseIdx k).toArray;rw[List.eraseIdxIfInBounds_toArray]
 ·have:=zj3 xs k;omega
theorem zud(xs:List α)(k:Nat):(yd k xs).flatten.length=k*xs.length:=by
 induction k with
 |zero=>simp|succ k i=>rw[y7,ya4,yj,i,Nat.succ_mul,Nat.add_comm]
end
end L2
namespace Att
open PySem PySem.W PySem.Calls PyProof.Rows
variable{P:Params}{h:au}
theorem zha:∀(ns:List Int)(vs:List af),WellAll P h vs (ns.map WData.int)->bT vs ns:=by
 intro ns;induction ns with
 |nil=>
  intro vs w;rw[yaz]at w;cases w;exact .nil
 |cons n ns i=>
  intro vs w;rw[yl]at w;cases w with
  |cons a b=>
   cases a;exact .cons _ _ (i _ b)
variable{l:OpenLaw}{n:Nat}
theorem zop(hn:l.most=aa n){args:List WData}{v:List af}(H:l.row.toRowW.claim.pre args=ac)(g:WellAll P h v args) : ∃a vs ns,v=[yo a]/\args=[WData.list (ns.map WData.int)]/\h.get? a=aa { cls := .type "list", data := .seq vs.toArray }/\bT vs ns/\ns.length<=n:=by
 have i:WShape.hasAll [] args [.list .int]=ac:=(pre_splitW H).1;have j:l.pre.holds [] { args:=args }=ac:=(pre_splitW H).2;obtain⟨d,r,rfl,h1,o⟩:=hasAllW_cons i;obtain rfl:=hasAllW_nil o;obtain⟨xs,rfl,m⟩:=hasW_list h1;obtain⟨ns,rfl⟩:=items_int m;have b:ns.length<=n:=by
  unfold OpenLaw.pre at j;have f:(WTm.not (.lt (.lit (.int (n:Int))) (.len (.arg 0)))).holds [] { args:=[.list (ns.map .int)] }=ac:=by
   have f:=(holds_andW j).1;rw[hn]at f;exact f
  have e:=condW_of f (w_not (w_lt w_lit (w_len_list (w_arg rfl))));rw[yg]at e;refine yaI fun q=>?_;have Q:(n:Int)<((ns.length:Nat):Int):=by omega
  first
   | (rw[decide_eq_true Q]at e;exact absurd e (by decide))
   | (simp at e;omega)
 cases g with
 |cons w1 w=>
  cases w;cases w1 with
  |list k c=>exact⟨_,_,ns,rfl,rfl,k,zha ns _ c,b⟩
theorem zoM(l:OpenLaw)(args:List WData):l.row.toRowW.claim.post args (.bool ac) args=ac :=
 postW_of (r:=l.row.toRowW) (X:=(ac==ac))
  (show WShape.has [] (.bool ac) .bool=ac by first | rfl | decide | simp[WShape.has,WShape.arms,WShape.armsAll])
  (show (WTm.eq .res (.lit (.bool ac))).value [] { args:=args,res:=aa (.bool ac),after:=args }=aa (.bool (ac==ac)) from w_eq_bool (w_res rfl) w_lit) rfl
theorem attach_call{q:aq}{loose:List ae}{XP:(ae->Option af)->au->Prop}{YP:al->au->Prop}{d:DefRec}
  (hn:l.most=aa n) (i:d.params.defaults=[])
  (call:∀(w:al)(s₀ s : ai)(mg mb:ae->Option af)(F:ad)(o:ar)(pm C doc:af)(a:ad)(vs:List af)(ns:List Int),
   Ground q loose [] XP w s₀ mg mb s.heap->YP w s.heap →
   s.heap.get? F=aa o->o.data = .func (docDef d.name d.params d.body d.scope pm C doc)->s.heap.CodeRec C d.name->mg d.name=aa (.ref F) →
   s.heap.get? a=aa { cls := .type "list", data := .seq vs.toArray }->bT vs ns->ns.length<=n->s.gens = #[] →
   codeAny (am l.prog w) bj (.call (.ref F) ⟨[.ref a],[]⟩) (fun r s'=>r = .ok (.ret (.bool ac))/\OldK s.heap s'.heap/\s'.os=s.os/\aW s'.gens) s) :
  WalkO q loose XP YP l.row.toRowW d [] (fun f vs=>ybT f vs):=by
 intro w s₀ s mg mb G Y F o pm C doc D kV t hd j m g x args v as H k p e u;obtain rfl:D = .none:=Dflts.none m i;obtain rfl:kV = .none:=Dflts.noKw m;obtain⟨a,vs,ns,rfl,rfl,b,h,c⟩:=zop hn H e;refine enter_call (bH (call w s₀ s mg mb F o pm C doc a vs ns G Y t (fd_plain hd) j g b h c x) fun r s' hq=>?_);obtain⟨rfl,A,z,y⟩:=hq;exact⟨.inl ⟨.bool ac,.bool ac,[],rfl,fun _=>rfl,.bool ac,zoM l _,fun _=>⟨List.Pairwise.nil,fun _ hm=>(nomatch hm)⟩⟩,A,z,y⟩
section
variable{prog:aq}{w:al}{A:ax}{E:af->ai->Prop}{s:ai}{K:Frag}
end
end Att
namespace L2
open PySem PySem.Spec PyProof.Rows
theorem zgm:∀{vs:List af}{ns:List Int},bT vs ns->Vals (ns.map V.int) vs
 |_,_,.nil=>.nil|_,_,.cons n t h=>.cons ⟨t,rfl⟩ (zgm h)
def Only(H:Hp):Prop:=∀b,H b=none∨∃o xs,H b=aa (.frz o (.lst xs))
variable{CX:CXT}{x:ae}
theorem zrB{P:aq}{w:al}{K:yb}{mg mb:ae->Option af}{k:Nat}{G a:ad}{fd:aF}{sp:Sp}{S : ai}{vs:List af}{ns:List Int}
  (O:K.In S.heap) (i:S.heap.Ns aE mg) (c:S.heap.Ns cc mb) (D:∀x:ae,x ≠ "__name__" -> mb x=ba x) (j:S.heap.NoLimit) (U:S.gens = #[])
  (ha:S.heap.get? a=aa { cls := .type "list", data := .seq vs.toArray }) (hi:bT vs ns) (hl:ns.length<=sizeLine) (hr:Room k bj)
  (F:∀base:au,K.In base->base.Ns aE mg->FnOk P w K mg base CX k G fd [x] sp) (f:∀(s:ai)(u:af),bu s fd ⟨[u],[]⟩ [(x,u)])
  (y:∀H:Hp,Only H->SqL K H a (ns.map V.int)->sp [.ref a] H (fun v _=>v = .bl ac) fun _ _ _=>False)
  (E:∀H e s',CX [] H S (fun _ _ _=>False) e s'->False) :
  codeAny (am P w) bj (.call (.ref G) ⟨[.ref a],[]⟩) (fun r s'=>r = .ok (.ret (.bool ac))/\OldK S.heap s'.heap/\s'.os=S.os/\aW s'.gens) S := by
 have R:=zgm hi;have l:=hi.length;have C:∀H:Hp,Only H->SqL K H a (ns.map V.int)->HOk P w H S.heap->(∀b,H b≠none->b=a)->(H a≠none->K.lookup a=none) →
   codeAny (am P w) bj (.call (.ref G) ⟨[.ref a],[]⟩) (fun r s'=>r = .ok (.ret (.bool ac))/\OldK S.heap s'.heap/\s'.os=S.os/\aW s'.gens) S := by
  intro H J W hok L Y;have B:∀{b:ad}{o:ar},S.heap.get? b=aa o->H b=none->(zrF S.heap H).get? b=aa o:=fun e n=>zrE e n;have t:∀{b:ad}{o:ar}{es:Array DictEntry}{ep:Nat},S.heap.get? b=aa o->o.data = .dict es ep->H b=none:=fun {b o es ep} e d=>by
   cases q:H b with
   |none=>rfl|some u=>
    have I:b=a:=L b (by rw[q];simp);subst I;rw[ha]at e;cases e;have d':Data.seq vs.toArray _=Data.dict es ep:=d;cases d'
  have N:∀{b:ad}{m:ae->Option af},S.heap.Ns b m->(zrF S.heap H).Ns b m:=fun {b m} ⟨o,es,ep,e,d,r⟩=>⟨o,es,ep,B e (t e d),d,r⟩;have p:K.In (zrF S.heap H):=fun b o e=>B (O b o e) (by
   cases q:H b with
   |none=>rfl|some u=>
    have I:b=a:=L b (by rw[q];simp);subst I;rw[Y (by rw[q];simp)]at e;cases e)
  have X:Mod K mg (zrF S.heap H):=⟨p,N i,⟨mb,N c,D⟩,let ⟨mc,h1,h2⟩:=j;⟨mc,N h1,h2⟩⟩;have e0:Env0 P w K mg (zrF S.heap H) bj [] S H:=⟨rfl,X,fun b o e=>ztS e,ycp (zpZ _ _),trivial,fun b c=>absurd (show b∈([]:List ad) from c) (by simp),hok,.of_eq U⟩;refine bH ((F _ p (N i)).run bj [] S H ⟨[.ref a],[]⟩ [.ref a] [.ref a] _ _ hr e0 (f S (.ref a)) (.cons rfl .nil) (y H J W)) fun r s' h=>?_;cases r with
  |error e=>exact(E H e s' h).elim|ok fl=>
   cases fl with
   |next=>exact False.elim h|brk=>exact False.elim h|cont=>exact False.elim h|ret u=>
    obtain⟨v,H',os,bare,un,g,Q,q⟩:=h;have T:v = .bl ac:=q;subst T;obtain rfl:u=ybf ac:=Q;refine⟨rfl,OldK.of_keep fun b o e=>?_,os,bare⟩;cases q:H b with
    |none=>exact un.keep b o e q (by intro z;exact absurd (show b∈([]:List ad) from z) (by simp)) (by simp)|some u=>
     rcases J b with z|⟨ob,xs,z⟩
     ·rw[q]at z;cases z
     ·have z2:=un.frzs b ob _ z;obtain⟨M,_⟩:=hok b _ z;obtain⟨e2,_⟩:=g b _ z2;rw[e]at M;cases M;exact e2
 cases A:K.lookup a with
 |some o=>
  have e:=O a o A;rw[ha]at e;cases e;refine C (fun _=>none) (fun _=>.inl rfl) (.inr ⟨_,vs.toArray,_,A,rfl,rfl,rfl,by rw[yp,l];exact hl,by simpa using R⟩) (fun b u z=>by have Z:(none:Option HO)=aa u:=z;cases Z) (fun b z=>absurd rfl z) fun z=>absurd rfl z
 |none=>
  refine C (fun b=>if b=a then aa (.frz { cls := .type "list", data := .seq vs.toArray } (.lst (ns.map V.int))) else none) (fun b=>?_) (.inl (.inr ⟨{ cls := .type "list", data := .seq vs.toArray },if_pos rfl⟩)) (fun b u z=>?_) (fun b z=>?_) fun _=>A
  ·by_cases c:b=a
   ·exact .inr ⟨_,_,if_pos c⟩
   ·exact .inl (if_neg c)
  ·by_cases c:b=a
   ·have Z:=(if_pos c).symm.trans z;cases Z;subst c;exact⟨ha,by rw[yg];exact hl,vs,_,R,ha⟩
   ·have Z:=(if_neg c).symm.trans z;cases Z
  ·by_cases c:b=a
   ·exact c
   ·exact absurd (if_neg c) z
variable{l:ycE}{n:Nat}{q:aq}{loose:List ae}{YP:al->au->Prop}{d:DefRec}{K:Params->yb}
theorem zsE{k:Nat}{XP:(ae->Option af)->au->Prop}{CX:al->CXT}{sp:al->Sp}(hn:l.most=aa n)(m:n<=sizeLine)(r:d.params.defaults=[])(hr:Room k bj)(C:∀(w:al)(h:au),YP w h->(K w.params).In h)(F:∀(w:al)(mg:ae->Option af)(i:ad)(h:au),(K w.params).In h->h.Ns aE mg->mg d.name=aa (.ref i)->∃fd:aF,(∀(s:ai)(u:af),bu s fd ⟨[u],[]⟩ [(x,u)])∧∀base:au,(K w.params).In base->base.Ns aE mg->FnOk l.prog w (K w.params) mg base (CX w) k i fd [x] (sp w))(j:∀(w:al)(H:Hp)(a:ad)(ns:List Int),ns.length<=n->Only H->SqL (K w.params) H a (ns.map V.int)->sp w [.ref a] H (fun v _=>v = .bl ac) fun _ _ _=>False)(t:∀(w:al)(H:Hp)(s:ai)(e:af)(s':ai),CX w [] H s (fun _ _ _=>False) e s'->False) : ydo q loose XP YP l.row.toRowW d [] (fun f vs=>ybT f vs):=by
 refine Att.attach_call hn r fun w s₀ S mg mb i o pm L doc a vs ns G Y J hd A p g c b z=>?_;have y:=C w _ Y;obtain⟨fd,B,I⟩:=F w mg i _ y G.T.g p;exact zrB y G.T.g G.T.b G.T.builtins G.T.nolimit z g c (yx b m) hr I B (fun H E D=>j w H a ns b E D) fun H e s'=>t w H S e s'
theorem walk_ofK{k:Nat}{XP:(ae->Option af)->au->Prop}{sp:yb->Sp}(hn:l.most=aa n)(c:n<=sizeLine)(g:d.params.defaults=[])(hr:Room k bj)(m:∀(w:al)(h:au),YP w h->(K w.params).In h)(F:∀(w:al)(mg:ae->Option af)(j:ad)(h:au),(K w.params).In h->h.Ns aE mg->mg d.name=aa (.ref j)->∃fd:aF,(∀(s:ai)(u:af),bu s fd ⟨[u],[]⟩ [(x,u)])∧∀base:au,(K w.params).In base->base.Ns aE mg->FnOk l.prog w (K w.params) mg base CX k j fd [x] (sp (K w.params)))(b:∀(K:yb)(H:Hp)(a:ad)(ns:List Int),ns.length<=n->Only H->SqL K H a (ns.map V.int)->sp K [.ref a] H (fun v _=>v = .bl ac) fun _ _ _=>False)(i:∀(H:Hp)(s:ai)(e:af)(s':ai),CX [] H s (fun _ _ _=>False) e s'->False) : ydo q loose XP YP l.row.toRowW d [] (fun f vs=>ybT f vs) :=
 zsE (K:=K) (CX:=fun _=>CX) (sp:=fun w=>sp (K w.params)) hn c g hr m F (fun w H a ns h1 p o=>b (K w.params) H a ns h1 p o) fun _ H s e s'=>i H s e s'
end L2
namespace L2
open PySem PySem.Spec PyProof.Rows
def zaZ(s:ao)(j:Nat):ao:=match s with
 |.ClassDef _ _ _ body _ _ _ _ _ _ _=>body.getD j (.Pass ⟨0,0,0,0⟩)|_=>.Pass ⟨0,0,0,0⟩
def zfz(s:ao):Arguments:=match s with
 |.FunctionDef _ a _ _ _ _ _ _ _ _=>a|_=>{ posonlyargs:=[],args:=[],vararg:=none,kwonlyargs:=[],kw_defaults:=[],kwarg:=none,defaults:=[] }
def zbj(s:ao):List ao:=match s with
 |.FunctionDef _ _ b _ _ _ _ _ _ _=>b|_=>[]
def zah(s:ao):aI:=match s with
 |.FunctionDef _ _ _ _ _ _ sc _ _ _=>sc|_=>{ kind := .function,names:=[],isGenerator:=ag,isCoroutine:=ag }
abbrev CX0:CXT:=fun _ _ _ _ _ _=>False
abbrev E0:XK:=fun _ _ _=>False
theorem zrj{X:Cx}:zhu CX0 X E0:=fun _ _ _ _ _ _ _ h=>h.elim
structure Fun(K:yb)(x qual:ae)(st:ao)(f:ad)(fd:aF):Prop where
 ex:∃(oc:af)(od:Option ad)(kV doc pm:af)(an:Option ad)(cdv ct:af)(osl:Array (Option af)),
  fd=ya3 x qual (zfz st) (zbj st) (zah st) .none kV doc pm an cdv ct/\K.lookup f=aa ⟨oc,od,.func fd,osl⟩/\ycu K cdv qual=ac
 kp:yaw K (.ref f)=ac
variable{x qual:ae}{st:ao}{f:ad}{fd:aF}{ps:List ae}
section
variable{P:aq}{w:al}{K:yb}{mg:ae->Option af}{base:au}
theorem Fun.ok{N:List ae}{k:Nat}{sp:Sp}(F:Fun K x qual st f fd)(S:FnScope N ps (zah st))(len:∀vs H Q E,sp vs H Q E->vs.length=ps.length)(a:∀(cdv:af)(A:ax)(outer:List aG)(s:ai)(H:Hp)(vs:List V)(Q:VK)(E:XK),Room k (A.deeper (aH qual (zah st) s.heap.objs.size f cdv))->sp vs H Q E->∃t,PSs (zkW CX0 P w K mg base N qual (zah st) f cdv A outer s H E).nox (zbj st) t/\t { nx:=fun _ H'=>Q .non H',rt:=Q } (start N vs) H):FnOk P w K mg base CX0 (k+1) f fd ps sp:=by
 obtain⟨oc,od,kV,doc,pm,an,cdv,ct,osl,rfl,l,c⟩:=F.ex;refine fn_of l c S len fun A outer s H vs Q E hr b=>?_;obtain⟨t,h,q⟩:=a cdv A outer s H vs Q E hr b;exact⟨t,h.nox,q⟩
theorem Fun.binds(F:Fun K x qual st f fd)(h:∀(kV doc pm:af)(an:Option ad)(cdv ct:af)(us:List af),us.length=ps.length->bindArgs (ya3 x qual (zfz st) (zbj st) (zah st) .none kV doc pm an cdv ct) ⟨us,[]⟩=pure (ps.zip us)):Binds K fd ps []:=by
 obtain⟨oc,od,kV,doc,pm,an,cdv,ct,osl,rfl,l,H⟩:=F.ex;exact .all (h kV doc pm an cdv ct)
end
theorem zlL{A:ax}{k:Nat}(hr:Room k A):A.units+1<aC:=ybU (Nat.add_le_add_left (by decide:1<=64) _) hr.units
def Same(H H':Hp):Prop:=∀b o,H b=aa o->H' b=aa o
theorem Same.refl(H:Hp):Same H H:=fun _ _ h=>h
end L2
namespace MD
open PySem PySem.Spec PyProof.Rows L2
def Kof(n:Nat)(h:au):yb:=(yw n).filterMap fun a=>(h.get? a).map fun o=>(a,o)
abbrev FnT:=Option (ae×ae×Arguments×List ao×aI)
def zn5(v:af):Bool:=match v with
 |.none=>ac|_=>ag
def fnV(K:yb)(f:ad):FnT×Bool:=match K.lookup f with
 |some ⟨_,_,.func ⟨x,q,ps,.stmts b,sc,g,[],d,_,_,_,_,c,_,bl⟩,_⟩=>(aa (x,q,ps,b,sc),Nat.beq g aE&&Nat.beq bl cc&&zn5 d&&ycu K c q)|_=>(none,ag)
def viewOf(keep:List Nat)(p:aq):aq:={ p with main:={ p.main with body:=keep.filterMap fun i=>p.main.body[i]? } }
def isX(c d:ae):Bool:=c==d||d == "HeadError" || d == "ValueError"
def bmV:List af:=[.type "ValueError", .type "Exception", .type "BaseException", .type "object"]
def askB(K:yb)(C:ad):Bool:=yL K (.ref C) "__getattribute__" == aa (aa (.builtin "BaseException.__getattribute__"))&&yL K (.ref C) "__getattr__" == aa none&&ya6 K (.ref C) (.type "BaseException")==aa ac&&ybh K C (.type "object")==aa ac&&(ybn K C).isSome&&yL K (.ref C) "__class__" == aa (aa (.builtin "object.__class__"))&&yc7 K (.builtin "object.__class__") "__get__" == aa (aa (.builtin "getset_descriptor.__get__"))&&yc8 K (.builtin "object.__class__")==aa ac&&yco K (.ref C)==aa (.type "type")
def zsr(K:yb)(es:List ae):Bool:=es.all fun c=>match yaj K aE c with
 |some (aa (.ref C))=>askB K C&&yaF K (.ref C) (.type "ValueError")==aa ac&&yaF K (.type "NoneType") (.ref C)==aa ag&&es.all fun d=>match yaj K aE d with
  |some (aa (.ref D))=>yaF K (.ref C) (.ref D)==aa (isX c d)&&ya6 K (.ref C) (.ref D)==aa (isX c d)|_=>ag
 |_=>ag
def zss(K:yb)(rs:List ae):Bool:=rs.all fun c=>match yaj K aE c with
 |some (aa (.ref C))=>ybo K C bmV "ValueError.__new__"|_=>ag
end MD
namespace K34
open PySem PyProof.Rows L2 MD
abbrev pw:aq:=PySem.Challenge.pw_shorthead_k34_letters_of_forms_read
def zby(P:aq)(i:Nat):ao:=P.main.body.getD i (.Pass ⟨0,0,0,0⟩)
def top:Nat->ao:=zby pw
abbrev ziF:ao:=top 1
abbrev zgA:ao:=top 2
abbrev zfh:ao:=top 3
abbrev zgx:ao:=top 4
abbrev zk7:ao:=top 6
abbrev zgw:ao:=top 7
abbrev zld:ao:=top 8
abbrev zgK:ao:=top 10
abbrev zgJ:ao:=top 11
abbrev zk5:ao:=top 12
abbrev ziE:ao:=top 13
abbrev ziv:ao:=top 15
abbrev zk4:ao:=top 16
abbrev zk6:ao:=top 17
abbrev zk9:ao:=top 18
abbrev zfd:ao:=top 19
abbrev zlc:ao:=top 24
abbrev zff:ao:=top 25
abbrev zer:ao:=top 26
abbrev zem:ao:=top 27
abbrev zgy:ao:=top 28
abbrev zk8:ao:=top 29
abbrev zfe:ao:=top 31
abbrev zel:ao:=zaZ (top 32) 0
abbrev zej:ao:=zaZ (top 32) 1
abbrev zc3:ao:=zaZ (top 32) 2
abbrev zfg:ao:=zaZ (top 32) 3
abbrev zek:ao:=zaZ (top 32) 4
abbrev zdq:ao:=zaZ (top 32) 5
abbrev zc2:ao:=zaZ (top 32) 6
abbrev zcH:ao:=zaZ (top 32) 7
abbrev zdr:ao:=zaZ (top 32) 8
abbrev zcr:ao:=zaZ (top 32) 9
abbrev zei:ao:=zaZ (top 32) 10
abbrev zlb:ao:=top 34
abbrev ziA:ao:=top 35
abbrev zow:ao:=top 36
abbrev zgD:ao:=top 37
abbrev ziB:ao:=top 38
abbrev zgF:ao:=top 39
abbrev zla:ao:=top 40
abbrev ziC:ao:=top 41
abbrev zix:ao:=top 42
abbrev ziz:ao:=top 43
abbrev zep:ao:=top 44
abbrev zdu:ao:=top 45
abbrev zdt:ao:=top 46
abbrev ziD:ao:=top 47
abbrev zgB:ao:=top 48
abbrev zgH:ao:=top 49
abbrev zfk:ao:=top 50
abbrev zen:ao:=top 51
abbrev zfi:ao:=top 52
abbrev zfl:ao:=top 53
abbrev zfj:ao:=top 54
abbrev zgC:ao:=top 55
abbrev ziw:ao:=top 56
abbrev zds:ao:=top 57
abbrev ziy:ao:=top 58
abbrev zgh:ao:=top 59
abbrev zgG:ao:=top 60
abbrev zgE:ao:=top 61
abbrev zeo:ao:=top 62
abbrev sLaw:ao:=top 63
def nms:List ae:=(["are_bits", "number_of", "numbers_of", "width_for", "rest_of", "windowed", "around", "breadths", "expected", "turned", "check_of", "width_of", "widths", "size_of", "opened", "value_told", "form_at", "sort_width", "check_width", "letter_size", "sort_told", "parted", "those_kept", "_law_box", "_law_next", "_law_of", "_law_value", "_law_kind", "_law_shape", "_law_way"]:List (ae))++(["_law_form", "_law_road", "_law_pact", "_law_any_head", "_law_expected", "_law_next_head", "_law_bits", "_law_width", "_law_check", "_law_number", "_law_width_of", "_law_pieces", "_law_letter", "_law_opened", "_law_whole", "_law_take", "_law_numbered", "_law_read", "_law_same", "_law_parts", "_law_stays", "_law_one_read", "law", "Reader", "HeadError", "NoLetter", "ValueError", "sum", "enumerate", "max"]:List (ae))++(["range", "tuple", "list", "isinstance", "str", "len", "dict", "min", "int", "all", "zip", "sorted", "abs", "bool"]:List (ae))
def nmsE:List (Option (Option af)):=([aa (aa (.ref 21)),aa (aa (.ref 28)),aa (aa (.ref 35)),aa (aa (.ref 42)),aa (aa (.ref 49)),aa (aa (.ref 56)),aa (aa (.ref 63)),aa (aa (.ref 68)),aa (aa (.ref 75)),aa (aa (.ref 82)),aa (aa (.ref 87)),aa (aa (.ref 94)),aa (aa (.ref 99)),aa (aa (.ref 106)),aa (aa (.ref 113)),aa (aa (.ref 120)),aa (aa (.ref 152)),aa (aa (.ref 159)),aa (aa (.ref 166)),aa (aa (.ref 173)),aa (aa (.ref 180)),aa (aa (.ref 187)),aa (aa (.ref 192)),aa (aa (.ref 288)),aa (aa (.ref 295)),aa (aa (.ref 302)),aa (aa (.ref 309)),aa (aa (.ref 314)),aa (aa (.ref 321)),aa (aa (.ref 328))]:List (Option (Option af)))++([aa (aa (.ref 333)),aa (aa (.ref 340)),aa (aa (.ref 345)),aa (aa (.ref 350)),aa (aa (.ref 357)),aa (aa (.ref 364)),aa (aa (.ref 371)),aa (aa (.ref 378)),aa (aa (.ref 385)),aa (aa (.ref 392)),aa (aa (.ref 399)),aa (aa (.ref 406)),aa (aa (.ref 413)),aa (aa (.ref 420)),aa (aa (.ref 427)),aa (aa (.ref 432)),aa (aa (.ref 439)),aa (aa (.ref 444)),aa (aa (.ref 449)),aa (aa (.ref 456)),aa (aa (.ref 463)),aa (aa (.ref 470)),aa (aa (.ref 477)),aa (aa (.ref 277)),aa (aa (.ref 130)),aa (aa (.ref 143)),aa none,aa none,aa none,aa none]:List (Option (Option af)))++([aa none,aa none,aa none,aa none,aa none,aa none,aa none,aa none,aa none,aa none,aa none,aa none,aa none,aa none]:List (Option (Option af)))
def fnd:List (ad×ae):=[(277, "__setattr__"),(277, "held"),(277, "highest"),(277, "pact"),(277, "__init__"),(277, "read"),(277, "forget"),(277, "top"),(277, "kept"),(277, "least"),(277, "is_late"),(277, "nearest"),(277, "is_far"),(277, "head_told"),(277, "rise")]
def fndE:List (Option (Option af)):=[aa (aa (.builtin "object.__setattr__")),aa none,aa none,aa none,aa (aa (.ref 206)),aa (aa (.ref 213)),aa (aa (.ref 220)),aa (aa (.ref 227)),aa (aa (.ref 234)),aa (aa (.ref 241)),aa (aa (.ref 248)),aa (aa (.ref 253)),aa (aa (.ref 260)),aa (aa (.ref 267)),aa (aa (.ref 274))]
def fnsa:List ad:=[21,28,35,42,49,56,63,68,75,82,87]
def fnsb:List ad:=[94,99,106,113,120,152,159,166,173,180,187]
def fnsc:List ad:=[192,206,213,220,227,234,241,248,253,260,267]
def fnsd:List ad:=[274,288,295,302,309,314,321,328,333,340,345]
def fnse:List ad:=[350,357,364,371,378,385,392,399,406,413,420]
def fnsf:List ad:=[427,432,439,444,449,456,463,470,477]
def fns:List ad:=fnsa++fnsb++fnsc++fnsd++fnse++fnsf
def fnE(x q:ae)(st:ao):FnT×Bool:=(aa (x,q,zfz st,zbj st,zah st),ac)
def fnsaZ(P:aq):List (FnT×Bool):=[fnE "are_bits" "are_bits" (zby P 1),fnE "number_of" "number_of" (zby P 2),fnE "numbers_of" "numbers_of" (zby P 3),fnE "width_for" "width_for" (zby P 4),fnE "rest_of" "rest_of" (zby P 6),fnE "windowed" "windowed" (zby P 7),fnE "around" "around" (zby P 8),fnE "breadths" "breadths" (zby P 10),fnE "expected" "expected" (zby P 11),fnE "turned" "turned" (zby P 12),fnE "check_of" "check_of" (zby P 13)]
def fnsaE:List (FnT×Bool):=fnsaZ pw
def fnsbZ(P:aq):List (FnT×Bool):=[fnE "width_of" "width_of" (zby P 15),fnE "widths" "widths" (zby P 16),fnE "size_of" "size_of" (zby P 17),fnE "opened" "opened" (zby P 18),fnE "value_told" "value_told" (zby P 19),fnE "form_at" "form_at" (zby P 24),fnE "sort_width" "sort_width" (zby P 25),fnE "check_width" "check_width" (zby P 26),fnE "letter_size" "letter_size" (zby P 27),fnE "sort_told" "sort_told" (zby P 28),fnE "parted" "parted" (zby P 29)]
def fnsbE:List (FnT×Bool):=fnsbZ pw
def fnscZ(P:aq):List (FnT×Bool):=[fnE "those_kept" "those_kept" (zby P 31),fnE "__init__" "Reader.__init__" (zaZ (zby P 32) 0),fnE "read" "Reader.read" (zaZ (zby P 32) 1),fnE "forget" "Reader.forget" (zaZ (zby P 32) 2),fnE "top" "Reader.top" (zaZ (zby P 32) 3),fnE "kept" "Reader.kept" (zaZ (zby P 32) 4),fnE "least" "Reader.least" (zaZ (zby P 32) 5),fnE "is_late" "Reader.is_late" (zaZ (zby P 32) 6),fnE "nearest" "Reader.nearest" (zaZ (zby P 32) 7),fnE "is_far" "Reader.is_far" (zaZ (zby P 32) 8),fnE "head_told" "Reader.head_told" (zaZ (zby P 32) 9)]
def fnscE:List (FnT×Bool):=fnscZ pw
def fnsdZ(P:aq):List (FnT×Bool):=[fnE "rise" "Reader.rise" (zaZ (zby P 32) 10),fnE "_law_box" "_law_box" (zby P 34),fnE "_law_next" "_law_next" (zby P 35),fnE "_law_of" "_law_of" (zby P 36),fnE "_law_value" "_law_value" (zby P 37),fnE "_law_kind" "_law_kind" (zby P 38),fnE "_law_shape" "_law_shape" (zby P 39),fnE "_law_way" "_law_way" (zby P 40),fnE "_law_form" "_law_form" (zby P 41),fnE "_law_road" "_law_road" (zby P 42),fnE "_law_pact" "_law_pact" (zby P 43)]
def fnsdE:List (FnT×Bool):=fnsdZ pw
def fnseZ(P:aq):List (FnT×Bool):=[fnE "_law_any_head" "_law_any_head" (zby P 44),fnE "_law_expected" "_law_expected" (zby P 45),fnE "_law_next_head" "_law_next_head" (zby P 46),fnE "_law_bits" "_law_bits" (zby P 47),fnE "_law_width" "_law_width" (zby P 48),fnE "_law_check" "_law_check" (zby P 49),fnE "_law_number" "_law_number" (zby P 50),fnE "_law_width_of" "_law_width_of" (zby P 51),fnE "_law_pieces" "_law_pieces" (zby P 52),fnE "_law_letter" "_law_letter" (zby P 53),fnE "_law_opened" "_law_opened" (zby P 54)]
def fnseE:List (FnT×Bool):=fnseZ pw
def fnsfZ(P:aq):List (FnT×Bool):=[fnE "_law_whole" "_law_whole" (zby P 55),fnE "_law_take" "_law_take" (zby P 56),fnE "_law_numbered" "_law_numbered" (zby P 57),fnE "_law_read" "_law_read" (zby P 58),fnE "_law_same" "_law_same" (zby P 59),fnE "_law_parts" "_law_parts" (zby P 60),fnE "_law_stays" "_law_stays" (zby P 61),fnE "_law_one_read" "_law_one_read" (zby P 62),fnE "law" "law" (zby P 63)]
def fnsfE:List (FnT×Bool):=fnsfZ pw
def fnsE:List (FnT×Bool):=fnsaE++fnsbE++fnscE++fnsdE++fnseE++fnsfE
def bls(K:yb):List Bool:=[ybg K 277 Str.empty&&ybP K 277&&ycl K 277&&ycn K 277&&yaw K (.ref 277),yW K (.ref 206),yW K (.ref 213),yW K (.ref 220),yW K (.ref 227),yW K (.ref 234),yW K (.ref 241),yW K (.ref 248),yW K (.ref 253),yW K (.ref 260),yW K (.ref 267),yW K (.ref 274),zsr K ["HeadError", "NoLetter"],zss K ["NoLetter"]]
def blsE:List Bool:=yd 14 ac
def obs(K:yb):List (Option (Option af))×List (Option (Option af))×List (FnT×Bool)×List Bool:=(nms.map (yaj K aE),fnd.map (fun p=>yL K (.ref p.1) p.2),fns.map (fnV K),bls K)
def expd:List (Option (Option af))×List (Option (Option af))×List (FnT×Bool)×List Bool:=(nmsE,fndE,fnsE,blsE)
def vwP(P:aq):aq:=viewOf (([1,2,3,4,6,7,8,10,11,12,13,15,16,17,18,19,21,22,24,25,26,27,28,29,31,32,34,35,36,37]:List (Nat))++([38,39,40,41,42,43,44,45,46,47,48,49,50,51,52,53,54,55,56,57,58,59,60,61,62,63]:List (Nat))) P
abbrev vw:aq:=vwP pw
def xtP(R:yA)(P:aq)(s:ai):Bool:=PySem.W.xlAt (vwP P) [] s&&PySem.W.recOk (PySem.W.RowW.records R) s
abbrev rw0:yA:=ybV.row.toRowW
abbrev xt:ai->Bool:=xtP rw0 pw
def zO(R:yA)(P:aq)(s:ai):=PySem.W.openSeen (vwP P) [] (importedModules P.main.body) (xtP R P) ac s
def zG(P:aq):=PySem.W.openGood (vwP P) []
def zE(P:aq)(w:al):=PySem.W.openEnds treeTable P w 5502
def hl0(R:yA)(P:aq)(w:al):=(zE P w).map fun s=>(zO R P s).1.defs.take 28
def hr0(R:yA)(P:aq)(_:al):=aa ((zG P).1.defs.take 28)
def hl1(R:yA)(P:aq)(w:al):=(zE P w).map fun s=>(zO R P s).1.defs.drop 28
def hr1(R:yA)(P:aq)(_:al):=aa ((zG P).1.defs.drop 28)
def hl2(R:yA)(P:aq)(w:al):=(zE P w).map fun s=>(zO R P s).1.ownsOk
def hr2(R:yA)(P:aq)(_:al):=aa ((zG P).1.ownsOk)
def hl3(R:yA)(P:aq)(w:al):=(zE P w).map fun s=>(zO R P s).1.names
def hr3(R:yA)(P:aq)(_:al):=aa ((zG P).1.names)
def hl4(R:yA)(P:aq)(w:al):=(zE P w).map fun s=>((zO R P s).1.globalsOk,(zO R P s).1.builtinsOk,(zO R P s).1.noLimit,(zO R P s).1.gens)
def hr4(R:yA)(P:aq)(_:al):=aa (((zG P).1.globalsOk,(zG P).1.builtinsOk,(zG P).1.noLimit,(zG P).1.gens))
def hl5(R:yA)(P:aq)(w:al):=(zE P w).map fun s=>(zO R P s).2.1
def hr5(R:yA)(P:aq)(_:al):=aa ((zG P).2.1)
def hl6(R:yA)(P:aq)(w:al):=(zE P w).map fun s=>(zO R P s).2.2.1
def hr6(R:yA)(P:aq)(_:al):=aa ((zG P).2.2.1)
def hl7(R:yA)(P:aq)(w:al):=(zE P w).map fun s=>(zO R P s).2.2.2
def hr7(R:yA)(P:aq)(_:al):=aa ((zG P).2.2.2)
def hl8(N:List ae)(P:aq)(w:al):=(zE P w).map fun s=>N.map (yaj (Kof 478 s.heap) aE)
def hr8(N:List ae)(P:aq)(_:al):=aa (nmsE)
def f9(K:yb):List (Option (Option af))×List Bool:=(fnd.map (fun p=>yL K (.ref p.1) p.2),bls K)
def hl9(F:yb->List (Option (Option af))×List Bool)(P:aq)(w:al):=(zE P w).map fun s=>F (Kof 478 s.heap)
def hr9(F:yb->List (Option (Option af))×List Bool)(P:aq)(_:al):=aa ((fndE,blsE))
def hl10(R:yA)(P:aq)(w:al):=(zE P w).map fun s=>fnsa.map (fnV (Kof 478 s.heap))
def hr10(R:yA)(P:aq)(_:al):=aa ((fnsaZ P))
def hl11(R:yA)(P:aq)(w:al):=(zE P w).map fun s=>fnsb.map (fnV (Kof 478 s.heap))
def hr11(R:yA)(P:aq)(_:al):=aa ((fnsbZ P))
def hl12(R:yA)(P:aq)(w:al):=(zE P w).map fun s=>fnsc.map (fnV (Kof 478 s.heap))
def hr12(R:yA)(P:aq)(_:al):=aa ((fnscZ P))
def hl13(R:yA)(P:aq)(w:al):=(zE P w).map fun s=>fnsd.map (fnV (Kof 478 s.heap))
def hr13(R:yA)(P:aq)(_:al):=aa ((fnsdZ P))
def hl14(R:yA)(P:aq)(w:al):=(zE P w).map fun s=>fnse.map (fnV (Kof 478 s.heap))
def hr14(R:yA)(P:aq)(_:al):=aa ((fnseZ P))
def hl15(R:yA)(P:aq)(w:al):=(zE P w).map fun s=>fnsf.map (fnV (Kof 478 s.heap))
def hr15(R:yA)(P:aq)(_:al):=aa ((fnsfZ P))
end K34
namespace PySem.W.Fast
lay_quick K34.hl0 K34.hr0 K34.hl1 K34.hr1 K34.hl2 K34.hr2 K34.hl3 K34.hr3 K34.hl4 K34.hr4 K34.hl5 K34.hr5 K34.hl6 K34.hr6 K34.hl7 K34.hr7 K34.hl8 K34.hl9 K34.hl10 K34.hl11 K34.hl12 K34.hl13 K34.hl14 K34.hl15
end PySem.W.Fast
namespace K34
open PySem PyProof.Rows L2 MD PySem.W.Fast
theorem hlq0(w:al):tw4807235276867564128 rw0 pw w=tw6781120851845112641 rw0 pw w:=by kernel_rfl
theorem hlq1(w:al):tw2399315346589473319 rw0 pw w=tw8084810597153002469 rw0 pw w:=by kernel_rfl
theorem hlq2(w:al):tw3706372322059330462 rw0 pw w=tw17824697156913125310 rw0 pw w:=by kernel_rfl
theorem hlq3(w:al):tw12817435996803523686 rw0 pw w=tw17452330738584737633 rw0 pw w:=by kernel_rfl
theorem hlq4(w:al):tw3063034377659427767 rw0 pw w=tw1909715369538684958 rw0 pw w:=by kernel_rfl
theorem hlq5(w:al):tw15866854603784845846 rw0 pw w=tw4876664212811068953 rw0 pw w:=by kernel_rfl
theorem hlq6(w:al):tw10742348880906040864 rw0 pw w=tw486076943825566862 rw0 pw w:=by kernel_rfl
theorem hlq7(w:al):tw9676776859107885140 rw0 pw w=tw10944943086115406239 rw0 pw w:=by kernel_rfl
theorem hlq8(w:al):tw13703735592270019783 nms pw w=hr8 nms pw w:=by kernel_rfl
theorem hlq9(w:al):tw4674044220120000367 f9 pw w=hr9 f9 pw w:=by kernel_rfl
theorem hlq10(w:al):tw10282734718986014240 rw0 pw w=hr10 rw0 pw w:=by kernel_rfl
theorem hlq11(w:al):tw11557338171717127894 rw0 pw w=hr11 rw0 pw w:=by kernel_rfl
theorem hlq12(w:al):tw13591961083949706415 rw0 pw w=hr12 rw0 pw w:=by kernel_rfl
theorem hlq13(w:al):tw7065906287660732184 rw0 pw w=hr13 rw0 pw w:=by kernel_rfl
theorem hlq14(w:al):tw10336918885398955751 rw0 pw w=hr14 rw0 pw w:=by kernel_rfl
theorem hlq15(w:al):tw14261022363260370229 rw0 pw w=hr15 rw0 pw w:=by kernel_rfl
end K34
namespace L2
open PySem PySem.Spec PyProof.Rows
variable{X:Cx}
section
theorem znh:OpR X (aK .Mult) (fun x y H Q=>∃z n,x = .str z/\y = .int n/\MulOk z n/\Q (.str (Txt.mul z n)) H):=by
 intro pins s σ H x y v u Q I R r h;obtain⟨z,n,rfl,rfl,a,q⟩:=h;obtain⟨t,rfl⟩:=R;obtain⟨t',rfl⟩:=r;exact SB.mul a fun t' tk=>⟨.str _,H,I.tok _,⟨_,rfl⟩,q⟩
theorem zkJ:CallR X (.type "int") (fun xs H Q=>∃z n,xs=[.str z]/\ybp z=aa n/\z.length<=640/\Q (.int n) H):=by
 intro pins s σ H xs us Q I r h;obtain⟨z,n,rfl,hn,hl,q⟩:=h;obtain⟨u,rfl,t,rfl⟩:=zch r;exact PySem.W.KIN.call_text hn hl ⟨.int n,H,I.tok _,⟨_,rfl⟩,q⟩
theorem ziP:OpR X (aK .FloorDiv) (rI (fun _ j=>0<j/\j<2^64) fun i j=>.int (i/j)):=opI fun i j _ _ _ _ _ h q=>by
 have h1:(0:Int)<j:=h.1;have b:j<2^64:=h.2;refine floordiv_int (by omega) (by rw[Int.fdiv_eq_ediv_of_nonneg i (by omega)];exact q) (.inl (PyProof.noPylong_of_log2 ?_));have H:j.natAbs<2^64:=by omega
 have a:j.natAbs.log2<64:=(Nat.log2_lt (by omega)).mpr H;omega
end
def clSub:List (ae×ad)->List (ae×ad)->Prop
 |[],_=>True| (n,a)::r,cells=>cells.lookup n=aa a/\clSub r cells
theorem clSub.at:∀{cl cells:List (ae×ad)}{x:ae}{c:ad},clSub cl cells->cl.lookup x=aa c->cells.lookup x=aa c
 |[],_,_,_,_,e=>by simp at e| (n,a)::r,cells,x,c,h,e=>by
  rw[yaJ]at e;cases H:x==n with
  |true=>
   rw[H]at e;cases e;have q:x=n:=by simpa using H
   rw[q];exact h.1
  |false=>
   rw[H]at e;exact clSub.at h.2 e
structure CompOk(X:Cx)(N0:List ae)(scope:aI)(xs:List ae)(cl:List (ae×ad)):Prop where
 clos:closureFor scope X.env=pure cl
 kind:scope.kind = .function
 nocell:(scope.names.all fun y=>decide (y.2 ≠ .cell))=ac
 locs:(scope.names.all fun y=>decide (y.2 ≠ .local)||(decide (scope.names.lookup y.1=aa .local)&&decide (y.1∉N0)))=ac
 sub:clSub cl X.env.cells
 has:(scope.names.all fun y=>decide (y.2 ≠ .free)||((cl.lookup y.1).isSome&&(decide (X.env.kindOf y.1=aa .cell)||decide (X.env.kindOf y.1=aa .free))))=ac
 hid:N0=X.N∨(N0.length=X.N.length/\((N0.zip X.N).all fun p=>decide (p.1=p.2)||(scope.names.lookup p.1).isNone)=ac)
def Cx.comp(X:Cx)(N0:List ae)(scope:aI)(xs:List ae)(cl:List (ae×ad))(C:ad)(s:ai)(H:Hp)(fp:List ad):Cx :=
 { X with N:=N0++xs,s₀ := s,H₀ := H,env:=compEnvC scope cl C X.env,outer:=X.stack,stack:=X.stack,ex:=fp,fn:=fun _=>ag,pn:=[] }
theorem zcO{env:aG}:∀{names:List (ae×bI)}{x:ae}{k:bI},
  (names.map fun(n,k)=>if (k==NameKind.free&&env.scope.kind == .function&&env.kindOf n==aa .cell) then (n,NameKind.cell) else (n,k)).lookup x=aa k →
  ∃k',names.lookup x=aa k'/\(x,k')∈names/\(k'=k∨(k' = .free/\k = .cell))
 |[],_,_,h=>by simp at h| (n,q)::r,x,k,h=>by
  rw[yl]at h;cases H:x==n with
  |true=>
   have e:x=n:=by simpa using H
   subst e;refine⟨q,by simp[yaJ],yan,?_⟩;dsimp only at h;split at h
   ·rename_i a;simp[yaJ]at h;have:q = .free:=by
     simp at a;exact a.1.1
    exact .inr ⟨this,h.symm⟩
   ·simp[yaJ]at h;exact .inl h
  |false=>
   have h':(r.map fun(n,k)=>if (k==NameKind.free&&env.scope.kind == .function&&env.kindOf n==aa .cell) then (n,NameKind.cell) else (n,k)).lookup x=aa k:=by
    dsimp only at h;split at h <;> (simp only[yaJ,H]at h;exact h)
   obtain⟨k',c,b,E⟩:=zcO h';exact⟨k',by simp only[yaJ,H];exact c,yK _ b,E⟩
variable{N0:List ae}{scope:aI}{xs:List ae}{cl:List (ae×ad)}{y:ae×bI}{x:ae}{i:Nat}
section
theorem CompOk.nc(S:CompOk X N0 scope xs cl):∀y∈scope.names,y.2 ≠ .cell:=fun y h=>of_decide_eq_true (yaA.mp S.nocell y h)
theorem CompOk.lo(S:CompOk X N0 scope xs cl)(H:y∈scope.names)(h:y.2 = .local):scope.names.lookup y.1=aa .local/\y.1∉N0:=by
 have q:=yaA.mp S.locs y H;rw[ybq,yy,decide_eq_true_eq,decide_eq_true_eq,decide_eq_true_eq]at q;rcases q with q|q
 ·exact absurd h q
 ·exact q
theorem CompOk.fr(S:CompOk X N0 scope xs cl)(H:y∈scope.names)(h:y.2 = .free):(∃c,cl.lookup y.1=aa c)/\(X.env.kindOf y.1=aa .cell∨X.env.kindOf y.1=aa .free):=by
 have q:=yaA.mp S.has y H;rw[ybq,yy,ybq,decide_eq_true_eq,decide_eq_true_eq,decide_eq_true_eq]at q;rcases q with q|q
 ·exact absurd h q
 ·exact⟨ycs.mp q.1,q.2⟩
theorem CompOk.vis(S:CompOk X N0 scope xs cl)(h:Vis (bm scope X.env) x)(H:x∈N0):∃c,cl.lookup x=aa c/\(X.env.kindOf x=aa .cell∨X.env.kindOf x=aa .free):=by
 have go:∀k,(bm scope X.env).names.lookup x=aa k->(k = .local∨k = .cell∨k = .free)->∃c,cl.lookup x=aa c/\(X.env.kindOf x=aa .cell∨X.env.kindOf x=aa .free):=fun k e b=>by
  obtain⟨K,_,a,E⟩:=zcO e;have d:K = .free:=by
   rcases E with E|E
   ·subst E;rcases b with rfl|rfl|rfl
    ·exact absurd H (S.lo a rfl).2
    ·exact absurd rfl (S.nc _ a)
    ·rfl
   ·exact E.1
  obtain⟨⟨c,q⟩,r⟩:=S.fr a d;exact⟨c,q,r⟩
 rcases h with h|h|h
 ·exact go _ h (.inl rfl)
 ·exact go _ h (.inr (.inl rfl))
 ·exact go _ h (.inr (.inr rfl))
theorem CompOk.len(S:CompOk X N0 scope xs cl):N0.length=X.N.length:=S.hid.elim (fun h=>by rw[h]) fun h=>h.1
theorem CompOk.same(S:CompOk X N0 scope xs cl)(e:N0[i]?=aa x)(h:Vis (bm scope X.env) x):X.N[i]?=aa x:=by
 rcases S.hid with q|⟨b,Q⟩
 ·rw[<- q];exact e
 ·have hi:i<N0.length:=(ye.mp e).1;have H:∃k,scope.names.lookup x=aa k:=by
   rcases h with h|h|h <;> (obtain⟨k,z,_⟩:=zcO h;exact⟨k,z⟩)
  obtain⟨k,a⟩:=H;have E:=yh (show i<X.N.length by omega);have hm:(x,X.N[i]'(by omega))∈N0.zip X.N:=yM (i:=i) (by rw[List.getElem?_zip_eq_some];exact⟨e,E⟩);have:=yaA.mp Q _ hm;rw[a]at this;simp at this;rw[E,<- this]
theorem CompOk.hasC(S:CompOk X N0 scope xs cl)(h:(bm scope X.env).names.lookup x=aa .cell∨(bm scope X.env).names.lookup x=aa .free):∃c,cl.lookup x=aa c:=by
 have go:∀k,(bm scope X.env).names.lookup x=aa k->(k = .cell∨k = .free)->∃c,cl.lookup x=aa c:=fun k e H=>by
  obtain⟨K,_,a,E⟩:=zcO e;have b:K = .free:=by
   rcases E with E|E
   ·subst E;rcases H with rfl|rfl
    ·exact absurd rfl (S.nc _ a)
    ·rfl
   ·exact E.1
  exact(S.fr a b).1
 rcases h with h|h
 ·exact go _ h (.inl rfl)
 ·exact go _ h (.inr rfl)
end
variable{pins:List (ad×ar)}{σ : St}{H2:Hp}{s2:ai}{fp:List ad}{C:ad}{H':Hp}{h':au}{m':ae->Option af}{pins':List (ad×ar)}{σ':St}{s':ai}{P:aq}{H:Hp}{h:au}{its:List af}{n:Nat}
section
theorem zuA(I:Inv X pins σ H2 s2)(S:CompOk X N0 scope xs cl)(f2:∀b∈fp,ze9 X pins H2 b)(a:∀b∈fp,b<s2.heap.objs.size)(d:s2.heap.objs.size<=C):(X.comp N0 scope xs cl C s2 H2 fp).Ok where
 mod:=I.ok.mod
 kind:=S.kind
 glob:=I.ok.glob
 blt:=I.ok.blt
 above:=d
 inj:=fun x y c h1 f=>I.ok.inj x y c (S.sub.at h1) (S.sub.at f)
 has:=fun x h=>S.hasC h
 cab:=fun _ _ h=>nomatch h
 hd:=I.ok.hd
 frames:=I.ok.frames
 stk := .inl rfl
 exf:=fun b H=>⟨ym (yB (a b H) d),fun x c e=>(f2 b H).2.2.2.2.1 x c (S.sub.at e)⟩
 bs:=I.bs
 bsz:=yx I.ok.bsz I.sz
 noex:=fun b o e H=>by
  rcases (f2 b H).2.2.2.1 with z|z
  ·exact I.ok.noex b o e z
  ·exact absurd (yB (yi e) (yx I.ok.bsz z)) (yO _)
 exfs:=fun b H z=>by
  rcases yn.mp (I.stkSub b z) with q|q
  ·exact(f2 b H).2.1 q
  ·exact(f2 b H).2.2.1 q
 funs:=I.stack
 frf:=I.stkFree
theorem zkB(I:Inv X pins σ H2 s2)(f2:∀b∈fp,ze9 X pins H2 b)(u:Un (frs X.stack) fp H2 H' s2.heap h'){c:ad}{v:Option af}(e:X.env.cells.lookup x=aa c)(z:s2.heap.IsCell c v):h'.IsCell c v:=by
 obtain⟨o,h,hd⟩:=z;obtain⟨sl,q⟩:=u.any h (I.freeC x c e) fun H=>(f2 c H).2.2.2.2.1 x c e rfl;exact⟨_,q,hd⟩
theorem zmS(I:Inv X pins σ H2 s2)(S:CompOk X N0 scope xs cl)(f2:∀b∈fp,ze9 X pins H2 b)(u:Un (frs X.stack) fp H2 H' s2.heap h')(i:Nat)(x:ae)(v:V)(d:(N0++xs)[i]?=aa x)(E:(σ ++ yd xs.length none)[i]?=aa (aa v))(e:Vis (bm scope X.env) x) : ∃w,RelV v w/\Look (compEnvC scope cl C X.env) h' m' x w:=by
 have hl:=I.len;have hl0:=S.len;by_cases hi:i < σ.length
 ·rw[yI (by omega)]at d;rw[yI hi]at E;obtain⟨c,f,h⟩:=S.vis e (yM d);obtain⟨m,_,H⟩:=I.loc;have g:Vis X.env.scope x := .inr h;obtain⟨w,r,l⟩:=H i x v (S.same d e) E g;have a:=S.sub.at f;refine⟨w,r,.inr ⟨?_,c,f,?_⟩⟩
  ·rcases e with e|e|e
   ·obtain⟨k,_,m2,M⟩:=zcO e;rcases M with M|M
    ·exact absurd (yM d) (S.lo m2 M).2
    ·exact nomatch M.2
   ·exact .inl e
   ·exact .inr e
  ·rcases l with⟨q,_⟩|⟨_,c',q,z⟩
   ·rcases h with h|h
    ·rw[q]at h;cases h
    ·rw[q]at h;cases h
   ·rw[a]at q;cases q;exact zkB I f2 u a z
 ·rw[yT (by omega),yct]at E;split at E <;> cases E
theorem zdW(I:Inv X pins σ H2 s2)(S:CompOk X N0 scope xs cl)(f2:∀b∈fp,ze9 X pins H2 b)(J:Inv (X.comp N0 scope xs cl C s2 H2 fp) pins' σ' H' s') : Inv (X.comp N0 scope xs cl C s2 H2 fp) pins' (σ ++ yd xs.length none) H' s' :=
 ⟨J.ok,J.os,J.bare,J.base,let ⟨m,hn,_⟩:=J.loc;⟨m,hn,fun i x v a E e=>zmS I S f2 J.base i x v a E e⟩,J.cell,J.free,J.freeC,J.pin,J.hok,by
  rw[yj,ya2];show σ.length+xs.length=(N0++xs).length;rw[yj,I.len,S.len]⟩
theorem zie{D:ad}{O:ar}{s:ai}(I:Inv X pins σ H2 s2)(S:CompOk X N0 scope xs cl)(f2:∀b∈fp,ze9 X pins H2 b)(H:∀b∈fp,b<s2.heap.objs.size)(f:s2.heap.objs.size<=C)(d:s2.heap.objs.size<=D)(a:D≠C)(k:∀b o,s2.heap.get? b=aa o->s.heap.get? b=aa o)(g:s.os=s2.os)(j:aW s.gens)(hn:s.heap.Ns C m')(hd:s.heap.get? D=aa O)(h:∀v,O.data ≠ .cell v) : Inv (X.comp N0 scope xs cl C s2 H2 fp) [(D,O)] (σ ++ yd xs.length none) H2 s :=
 have u:Un (frs X.stack) fp H2 H2 s2.heap s.heap:=Un.kept k
 ⟨zuA I S f2 H f,g,j,u,⟨m',hn,fun i x v m l E=>zmS I S f2 u i x v m l E⟩,
  fun x c e=>by
   obtain⟨v,z⟩:=I.cell x c (S.sub.at e);exact⟨v,zkB I f2 u (S.sub.at e) z⟩,
  I.hok.fresh f,fun x c e=>I.freeC x c (S.sub.at e),
  fun p hp=>by
   have e:p=(D,O):=yE.mp (show p∈[(D,O)] from hp);subst e;refine⟨hd,I.hok.fresh d,a,fun z=>?_,h⟩;obtain⟨_,o,q,_⟩:=I.stack.mem z;exact absurd (yB (yi q) d) (yO _),
  I.hok.kept k,by
   rw[yj,ya2];show σ.length+xs.length=(N0++xs).length;rw[yj,I.len,S.len]⟩
theorem zeW{w:al}{a:ad}{o:HO}(x:HOk P w H h)(hn:H a=none)(new:ObjOk P w (upd H a o) h a o):HOk P w (upd H a o) h:=fun b u e=>by
 by_cases d:b=a
 ·subst d;rw[zaw]at e;cases e;exact new
 ·rw[zao d]at e;exact(x b u e).stay (fun _ _ _ q=>q) (fun c q=>by rw[zao (zau q hn)];exact q) fun c ys q=>by rw[zao (zau q hn)];exact q
theorem zrT{D:ad}{ys:List V}(I:Inv X pins σ H2 s2)(f2:∀b∈fp,ze9 X pins H2 b)(h:s2.heap.objs.size<=D)
  (J:Inv (X.comp N0 scope xs cl C s2 H2 fp) pins' σ' H' s') (hn:H' D=none) (e:s'.heap.get? D=aa { cls := .type "list", data := .seq its.toArray n }) (r:Vals ys its) (H:ys.length<=sizeLine) :
  Inv X pins σ (upd H' D (.lst ys)) s':=by
 have u:Un (frs X.stack) fp H2 H' s2.heap s'.heap:=J.base;have neD:∀b o,s2.heap.get? b=aa o->b≠D:=fun b o q=>ym (yB (yi q) h);have neT:∀b o,H2 b=aa o->b≠D:=fun b o q=>ym (yB (I.hok.lt q) h);refine I.call' (ch:=fp) J.os ⟨u.keep,u.slot,fun b o q m c=>?_,u.there,fun b z q=>?_,fun b o z q=>?_,fun b ps q=>?_⟩ (zeW J.hok hn ⟨H,its,n,r,e⟩) J.bare fun b d=>?_
 ·rw[zao (neD b o q)];exact u.free b o q m c
 ·rw[zao (neT b _ q)];exact u.tups b z q
 ·rw[zao (neT b _ q)];exact u.frzs b o z q
 ·rw[zao (neT b _ q)];exact u.tbls b ps q
 ·obtain⟨_,a,_,z2,z3,Z⟩:=f2 b d;exact⟨z2,a,z3,Z⟩
end
def PIf(X:Cx)(i:List ak)(t:TT):Prop :=
 ∀(pins:List (ad×ar))(s:ai)(σ : St)(H:Hp)(Q:Bool->Hp->Prop),Inv X pins σ H s->t σ H Q →
  wpAny (am X.prog X.w) X.A (forIn i ac fun c r=>if r=ac then do let ok <- isTrue c X.env (eval c X.env);pure (ForInStep.yield ok) else pure (ForInStep.yield r)) (TP X pins σ Q) X.xe s
def tYes:TT:=fun _ H Q=>Q ac H
theorem ztv:PIf X [] tYes:=fun _ _ _ H _ I h=>wpAny_tests_nil ⟨H,I,h⟩
theorem ztu{c:ak}{t:TT}(h:PT X c t):PIf X [c] t:=fun pins s σ H Q I hq=>wpAny_tests_one (h pins s σ H Q I hq)
def tComp(n:Nat)(wi:TI)(g:TG)(tf:TT)(te:TE)(f:List V->Hp->Prop):St->Hp->Prop:=fun σ H=>wi σ H fun J H1=>∃W:Nat->Nat->List V->Hp->Prop,(∃m,W 0 m [] H1)/\∀i m ys H,W i m ys H →
 ys.length<=sizeLine/\((J.stop i H/\f ys H)∨(J.go i H/\∃(Y:V->Hp->Prop)(Z:Hp->Prop),(∀y H4,Y y H4->ys.length<sizeLine/\∃m',m'<m/\W (i+1) m' (ys++[y]) H4)/\(∀h,Z h->∃m',m'<m/\W (i+1) m' ys h) ∧
  ∀x H',J.yld i H x H'->g x (σ ++ yd n none) H' fun a H2=>tf a H2 fun b h=>if b=ac then te a h Y else Z h))
variable{s:ai}{elt iter:ak}{ifs:List ak}{pos:aw}
theorem znQ{prog:aq}{w:al}{A:ax}{R:bG->ai->Prop}{t:ak}{it f:af}{env:aG}(I:Nat->ai->Prop)
  (turn:∀n s,I n s->wpAny (am prog w) A (be it) (fun r a=>match r with
   |none=>R (.ok .next) a
   |some v=>wpAny (am prog w) A (b6 t it v) (fun _ T=>wpAny (am prog w) A (aN t env v) (fun _ e=>
     wpAny (am prog w) A (forIn ifs ac fun c r=>if r=ac then do let ok <- isTrue c env (eval c env);pure (ForInStep.yield ok) else pure (ForInStep.yield r)) (fun ok S=>
      if ok=ac then wpAny (am prog w) A (eval elt env) (fun x d=>wpAny (am prog w) A (call (.builtin "list.append") [f,x]) (fun _ b=> ∃m,m<n/\I m b) (fun _ _=>False) d) (fun _ _=>False) S
      else ∃m,m<n/\I m S) (fun _ _=>False) e) (fun _ _=>False) T) (fun _ _=>False) a) (fun _ _=>False) s)
  (n:Nat) (h:I n s):codeAny (am prog w) A (.compLoop (.ListComp elt [⟨t,iter,ifs,0⟩] scope pos) 0 it f env) R s:=by
 refine codeAny_loop rfl I (fun n s l=>?_) n h
 show wpAny _ A (Sem.onRaise (compTurn _ 0 it f env) fun x=>do bK x env;theTreesLotGoes x) _ _ s
 refine wpAny_noted ?_
 rw[compTurn_list]
 refine aj (bp (aj (aA (turn n s l) (fun r a h₁=> ?_) fun _ _ z=>z.elim)))
 cases r with
 |none=>exact av h₁
 |some v=>
  refine aj (aA h₁ (fun _ T k=> ?_) fun _ _ z=>z.elim)
  refine aj (aA k (fun _ e j=>aj (aA j (fun ok S H=> ?_) fun _ _ z=>z.elim)) fun _ _ z=>z.elim)
  cases ok with
  |false=>exact av ⟨rfl,H⟩
  |true=>
   refine aj (aj (aA H (fun x d i=> ?_) fun _ _ z=>z.elim))
   exact aj (aA i (fun _ b g=>av (av ⟨rfl,g⟩)) fun _ _ z=>z.elim)
variable{tg:ak}{g:TG}{tf:TT}{te:TE}{it:ad}{J:It}{fin:List V->Hp->Prop}
section
variable{wi:TI}
theorem zfA{tn:Nat->au->Prop}{W:Nat->Nat->List V->Hp->Prop}{m0:Nat}{RR:af->ad->bG->ai->Prop}(hc:X.calm=ac)(hx:X.xe=fun _ _=>False)(S:CompOk X N0 scope xs cl)(hg:∀C s H fp,PG (X.comp N0 scope xs cl C s H fp) tg g)(hf:∀C s H fp,PIf (X.comp N0 scope xs cl C s H fp) ifs tf)(he:∀C s H fp,PE (X.comp N0 scope xs cl C s H fp) elt te)(I:Inv X pins σ H2 s2)(T:Turn X.prog X.w X.K tg J fp it tn)(st2:tn 0 s2.heap)(f2:∀b∈fp,ze9 X pins H2 b)(w0:W 0 m0 [] H2)(turn:∀i m ys H,W i m ys H->ys.length<=sizeLine/\((J.stop i H/\fin ys H)∨(J.go i H/\∃(Y:V->Hp->Prop)(Z:Hp->Prop),(∀y H4,Y y H4->ys.length<sizeLine/\∃m',m'<m/\W (i+1) m' (ys++[y]) H4)/\(∀H3,Z H3->∃m',m'<m/\W (i+1) m' ys H3)∧∀x H',J.yld i H x H'->g x (σ ++ yd xs.length none) H' fun P H2=>tf P H2 fun b H3=>if b=ac then te P H3 Y else Z H3)))(hRR:∀(D C:ad)(s':ai)(ys:List V)(H':Hp)(m':ae->Option af),Inv X pins σ (upd H' D (.lst ys)) s'->H' D=none->s'.heap.Ns C m'->ze9 X pins (upd H' D (.lst ys)) C->fin ys H'->RR (.ref D) C (.ok .next) s') : wpAny (am X.prog X.w) X.A (newList []) (fun acc s₃=>wpAny (am X.prog X.w) X.A (newFunctionEnv scope X.env.globals cl [] X.env.qual none .none (aa X.env)) (fun E U=>codeAny (am X.prog X.w) X.A (.compStart (.ListComp elt [⟨tg,iter,ifs,0⟩] scope pos) 0 (.ref it) acc { E with scope:=bm scope X.env }) (RR acc E.locals) U) X.xe s₃) X.xe s2:=by
 refine aR (wpAny_newFunctionEnv S.nc (by intro y hy;simp at hy) (fun h₁ j h=> ?_) S.kind);dsimp only at j h ⊢;generalize hG:s2.heap.push { cls := .type "list", dict:=none,data := .seq ([]:List af).toArray }=G at j h ⊢;have szG:G.objs.size=s2.heap.objs.size+1:=by rw[<- hG,yS]
 have N:s2.heap.objs.size≠G.objs.size:=by rw[szG];exact ym (yaS _)
 have hC:s2.heap.objs.size<=G.objs.size:=by rw[szG];exact ya1 _
 have A:∀b∈fp,b<s2.heap.objs.size:=fun b f=>let ⟨_,e,_⟩:=T.obj 0 _ st2 b f;yi e;have old:∀b o,s2.heap.get? b=aa o->h₁.get? b=aa o:=fun b o e=>
  h.extBut b o (ym (yB (yi e) hC)) (yf _ (hG ▸ yf _ e))
 have hacc:h₁.get? s2.heap.objs.size=aa { cls := .type "list", data := .seq ([]:List af).toArray 0 }:=h.extBut _ _ N (yf _ (hG ▸ yr _ rfl));have l : tn 0 h₁ := T.keep 0 _ _ st2 fun b _ o e=>old b o e;have I3:∀tk,Inv (X.comp N0 scope xs cl G.objs.size s2 H2 fp) [(s2.heap.objs.size,{ cls := .type "list", data := .seq ([]:List af).toArray 0 })] (σ ++ yd xs.length none) H2 { s2 with heap:=h₁,toks:=tk }:=fun tk=>
  zie I S f2 A hC (yc _) N old rfl I.bare j hacc fun _ z=>nomatch z
 have w:∀{H':Hp}{o:ar},(∀b∈fp,H' b=none)->∀b∈fp,ze9 (X.comp N0 scope xs cl G.objs.size s2 H2 fp) [(s2.heap.objs.size,o)] H' b:=fun {H' o} hn b f=>by
  refine⟨hn b f,ym (yB (A b f) hC),fun z=>?_,.inl f,fun x c e=>(f2 b f).2.2.2.2.1 x c (S.sub.at e),fun p hp=>?_⟩
  ·rcases yn.mp (I.stkSub b z) with q|q
   ·exact(f2 b f).2.1 q
   ·exact(f2 b f).2.2.1 q
  ·have e:p=(s2.heap.objs.size,o):=yE.mp (show p∈[(s2.heap.objs.size,o)] from hp);subst e;exact yai (A b f)
 have L:∀tk,codeAny (am X.prog X.w) X.A (.compLoop (.ListComp elt [⟨tg,iter,ifs,0⟩] scope pos) 0 (.ref it) (.ref s2.heap.objs.size) (compEnvC scope cl G.objs.size X.env)) (RR (.ref s2.heap.objs.size) G.objs.size) { s2 with heap:=h₁,toks:=tk }:=by
  intro tk;refine znQ (fun n s'=>∃i ys its k H',Inv (X.comp N0 scope xs cl G.objs.size s2 H2 fp) [(s2.heap.objs.size,{ cls := .type "list", data := .seq (its:List af).toArray k })] (σ ++ yd xs.length none) H' s'/\tn i s'.heap/\(∀b∈fp,H' b=none)/\Vals ys its/\W i n ys H')
   ?_ m0 ⟨0,[],[],0,H2,I3 tk,l,fun b f=>(f2 b f).1,.nil,w0⟩
  rintro n s' ⟨i,ys,its,k,H',I',st',fr',rv,w'⟩;obtain⟨hlen,way⟩:=turn i n ys H' w';rcases way with⟨stop,qf⟩|⟨go,Y,Z,hY,hZ,step⟩
  ·refine thn (T.done (X.comp N0 scope xs cl G.objs.size s2 H2 fp) rfl rfl rfl hc i _ s' _ H' (fun _ _=>False) I' (w fr') st' stop) ?_;rintro r s1 ⟨hr,I1⟩;subst hr;obtain⟨e,n1,_⟩:=I1.pin _ (yE.mpr rfl);obtain⟨m1,hn1,_⟩:=I1.loc;refine hRR _ _ s1 ys H' m1 (zrT I f2 (yc _) I1 n1 e rv hlen) n1 hn1 ?_ qf;refine I.fpOk hC ?_;rw[zao N.symm];exact I1.free
  ·refine thn (T.item (X.comp N0 scope xs cl G.objs.size s2 H2 fp) rfl rfl rfl hc i _ s' _ H' (fun _ _=>False) I' (w fr') st' go) ?_;rintro r s1 ⟨u,hr,h1⟩;subst hr;refine thn h1 ?_;rintro _ O ⟨x,H5,I5,r5,y5,K,fr5⟩;have I5':=I5.pinned (w fr5) (T.obj _ _ K);have M:(X.comp N0 scope xs cl G.objs.size s2 H2 fp).xe=fun _ _=>False:=hx;have q6:=hg _ s2 H2 fp _ O _ H5 x u _ I5' r5 (step x H5 y5);rw[M]at q6;refine thn q6 ?_;rintro _ s6 ⟨t,H6,I6,q6⟩;have Q:=hf _ s2 H2 fp _ s6 t H6 _ I6 q6;rw[M]at Q;refine thn Q ?_;rintro b s7 ⟨H7,I7,Q⟩;have kept:∀{R:St}{H':Hp}{s':ai},Inv (X.comp N0 scope xs cl G.objs.size s2 H2 fp) ([(s2.heap.objs.size,{ cls := .type "list", data := .seq its.toArray k })]++zct fp O.heap) R H' s'->tn (i+1) s'.heap/\∀b∈fp,H' b=none:=fun {R H' s'} Z=>by
    refine⟨T.keep _ _ _ K fun b f o e=>(Z.pin (b,o) (yC _ (yC _ (zcn f e)))).1,fun b f=>?_⟩;obtain⟨o,e,d⟩:=T.obj _ _ K b f;exact(Z.pin (b,o) (yC _ (yC _ (zcn f e)))).2.1
   cases b with
   |false=>
    rw[if_neg yu];rw[if_neg yu]at Q;obtain⟨m',hm,w7⟩:=hZ _ Q;exact⟨m',hm,i+1,ys,its,k,H7,zdW I S f2 I7.unpinned,(kept I7).1,(kept I7).2,rv,w7⟩
   |true=>
    rw[if_pos rfl];rw[if_pos rfl]at Q;have q8:=he _ s2 H2 fp _ s7 t H7 _ I7 Q;rw[M]at q8;refine thn q8 ?_;rintro y B ⟨yv,H8,I8,r8,qY⟩;obtain⟨hz,m',hm,w8⟩:=hY _ _ qY;obtain⟨eD,nD,neC,nfD,_⟩:=I8.pin (s2.heap.objs.size,{ cls := .type "list", data := .seq its.toArray k }) (yC _ (yau _ (yE.mpr rfl)));have hl:=rv.length;refine bi F.slot_list_append ⟨_,eD,rfl⟩ ydl (ydm _ _) (ydn s2.heap.objs.size its.toArray k y (by rw[yp];omega)) ⟨eD,?_⟩;have eN:=ydk eD (fun(a:Array af)=>a.push y);have eA:its.toArray.push y=(its++[y]).toArray:=by simp
    rw[eA]at eN;have drop:Inv (X.comp N0 scope xs cl G.objs.size s2 H2 fp) (zct fp O.heap) t H8 B:=I8.pins_of fun p hp=>I8.pin p (yC _ (yC _ hp));have I9:Inv (X.comp N0 scope xs cl G.objs.size s2 H2 fp) (zct fp O.heap) t H8 { B with heap:=B.heap.update s2.heap.objs.size (yaH fun(a:Array af)=>a.push y) }:=by
     refine drop.turned (it:=s2.heap.objs.size) (t':=B.toks) (fun b o f q=>(yay B.heap _ (Ne.symm f)).trans q) nD neC (.inr (yc _)) (fun x c e z=>?_) fun p hp z=>?_
     ·obtain⟨v,q⟩:=I.cell x c (S.sub.at e);exact absurd (q.lt) (by rw[z];exact yO _)
     ·have hp':p∈zct fp O.heap:=hp;exact absurd (A _ (zgX hp').1) (by rw[z];exact yO _)
    have I10:Inv (X.comp N0 scope xs cl G.objs.size s2 H2 fp) ([(s2.heap.objs.size,{ cls := .type "list", data := .seq (its++[y]).toArray _ })]++zct fp O.heap) t H8 { B with heap:=B.heap.update s2.heap.objs.size (yaH fun(a:Array af)=>a.push y) }:=I9.pins_of fun p hp=>by
     rcases yJ.mp hp with z|z
     ·have e:=yE.mp z;subst e;exact⟨eN,nD,neC,nfD,fun _ z=>nomatch z⟩
     ·exact I9.pin p (yC _ z)
    have kp:tn (i+1) (B.heap.update s2.heap.objs.size (yaH fun(a:Array af)=>a.push y))/\∀b∈fp,H8 b=none:=by
     refine⟨T.keep _ _ _ (kept I8).1 fun b f o e=>(yay B.heap _ (yai (A b f))).trans e,(kept I8).2⟩
    exact⟨m',hm,i+1,ys++[yv],its++[y],_,H8,zdW I S f2 I10.unpinned,kp.1,kp.2,rv.append (.cons r8 .nil),w8⟩
 exact codeAny_compStart_list (L _) (T.self _ 0 _ _ _ l (L _))
theorem ze6(I:Inv X pins σ H s)(f:ze9 X pins H C)(k:yaP C s.heap h'):Inv X pins σ H { s with heap:=h' }:=by
 obtain⟨n,a,c,ab,nc,N⟩:=f;exact I.turned (it:=C) (t':=s.toks) (fun b o h e=>k.extBut b o h e) n a ab nc N
theorem ztB(l:X.calm=ac)(c:X.xe=fun _ _=>False)(S:CompOk X N0 scope xs cl)(hi:PI X tg iter wi)(d:∀C s H fp,PG (X.comp N0 scope xs cl C s H fp) tg g)(e:∀C s H fp,PIf (X.comp N0 scope xs cl C s H fp) ifs tf)(j:∀C s H fp,PE (X.comp N0 scope xs cl C s H fp) elt te)(hs:autoParam (∀x,bc iter X.env x=pure x) AutoP.a2._auto_1) : PE X (.ListComp elt [⟨tg,iter,ifs,0⟩] scope pos) (fun σ H Q=>tComp xs.length wi g tf te (fun ys H'=>∀p,H' p=none->Q (.ref p) (upd H' p (.lst ys))) σ H):=by
 intro pins s σ H Q I h;rw[eval_ListComp];refine cf (use:=none) rfl hs S.clos S.kind (fun y b hl=>(S.lo b hl).1) ?_;refine thn (hi pins s σ H _ I h) fun r s1 h1=>thn h1 fun i s2 m=>?_;obtain⟨it,fp,tn,J,t,rfl,o,T,a,f2,W,⟨m0,w0⟩,turn⟩:=m;refine zfA (RR:=fun A C=>compPost (am X.prog X.w) X.A X.xe none (EP X pins σ Q) A C) l c S d e j o T a f2 w0 turn ?_;intro D C s' ys H' m' q n hn F f;exact⟨m',hn,fun h' k=>⟨.ref D,_,ze6 q F k,rfl,f D n⟩⟩
end
section
theorem zqp{k:Nat}(P:Nat->List V->Hp->Prop)(o:k<=1000000)(h0:P 0 [] H)(l:∀i ys H,P i ys H->ys.length<=i)(j:∀i ys H,i<k->P i ys H->J.go i H/\∀x H',J.yld i H x H'->g x (σ ++ yd n none) H' fun a H2=>tf a H2 fun b h=>if b=ac then te a h (fun y d=>P (i+1) (ys++[y]) d) else P (i+1) ys h)(f:∀ys H,P k ys H->J.stop k H/\fin ys H) : ∃W:Nat->Nat->List V->Hp->Prop,(∃m,W 0 m [] H)/\∀i m ys H,W i m ys H->ys.length<=sizeLine/\((J.stop i H/\fin ys H)∨(J.go i H/\∃(Y:V->Hp->Prop)(Z:Hp->Prop),(∀y d,Y y d->ys.length<sizeLine/\∃m',m'<m/\W (i+1) m' (ys++[y]) d)∧(∀h,Z h->∃m',m'<m/\W (i+1) m' ys h)/\∀x H',J.yld i H x H'->g x (σ ++ yd n none) H' fun a H2=>tf a H2 fun b h=>if b=ac then te a h Y else Z h)):=by
 have hl:sizeLine=16777216:=bf;refine⟨fun i m ys H=>m=k-i/\i<=k/\P i ys H,⟨k,by simp,yZ _,h0⟩,?_⟩;rintro i m ys H ⟨rfl,hi,p⟩;have z:=l i ys H p;refine⟨by omega,?_⟩;by_cases c:i<k
 ·obtain⟨g1,G⟩:=j i ys H c p;exact .inr ⟨g1,fun y d=>P (i+1) (ys++[y]) d,fun h=>P (i+1) ys h,fun y d q=>⟨by omega,k-(i+1),by omega,rfl,c,q⟩,fun h q=>⟨k-(i+1),by omega,rfl,c,q⟩,G⟩
 ·have e:i=k:=by omega
  subst e;exact .inl (f ys H p)
end
variable{ns:List Int}{v:af}
theorem zn4(r:Vals (ns.map V.int) its)(e:its.toArray[i]?=aa v):∃t,v = .int (ns.getD i 0) t:=by
 have E:its[i]?=aa v:=by simpa using e
 have hi:i<ns.length:=by
  have h1:=r.length;have h:=(ye.mp E).1;rw[yg]at h1;omega
 obtain⟨u,q,t,z⟩:=r.get (i:=i) (x := .int (ns[i])) (by simp[hi]);rw[E]at q;cases q;exact⟨t,by rw[z];simp[hi]⟩
theorem zp2(h:i<ns.length):ns.getD i 0=ns[i]:=by simp[h]
theorem zrY{bs:List Bool}(r:Vals (bs.map V.bl) its)(e:its.toArray[i]?=aa v):v = .bool (bs.getD i ac):=by
 have E:its[i]?=aa v:=by simpa using e
 have hi:i<bs.length:=by
  have h1:=r.length;have h:=(ye.mp E).1;rw[yg]at h1;omega
 obtain⟨u,q,z⟩:=r.get (i:=i) (x := .bl (bs[i])) (by simp[hi]);rw[E]at q;cases q;rw[show v=ybf bs[i] from z];simp[hi]
theorem zhW:∀(bs:List Bool),((yw bs.length).all fun i=>bs.getD i ac)=bs.all id
 |[]=>rfl|b::r=>by
  rw[yt,ydp,ybm,List.all_map,ybm];have e:((fun i=>(b::r).getD i ac)∘Nat.succ)=fun i=>r.getD i ac:=by
   funext i;simp
  rw[e,zhW r];simp
section
theorem zqx(g:X.calm=ac):CallR X (.builtin "all") (fun xs H Q=>∃(l:ad)(bs:List Bool),xs=[.ref l]/\SqL X.K H l (bs.map V.bl)/\Q (.bl (bs.all id)) H):=by
 intro pins s σ H xs us Q I r h;obtain⟨l,bs,rfl,hq,q⟩:=h;obtain⟨u,rfl,d⟩:=zch r;cases d;obtain⟨its,R,pl,k⟩:=I.list hq;have hl:=pl.isList;have c:l<s.heap.objs.size:=by obtain⟨_,e,_⟩:=hl;exact yi e
 have a:bs.length=its.length:=by rw[<- R.length,yg]
 refine call_all_walk (cd hl ?_);refine⟨s.heap.objs.size,_,_,its.toArray.size,_,_,fun i=>bs.getD i ac,rfl,ycF (A:=X.A.in1) (I.ok.hd g) _ l (ym c) its.toArray,⟨⟨_,yr _ rfl,rfl,rfl⟩,hl.push _⟩,fun i v s' m E j hQ=>?_,fun h' tk f=>?_⟩
 ·rw[zrY R j];exact bo hQ
 ·rw[yp,<- a,zhW];exact⟨.bl (bs.all id),H,I.kept fun b o e=>f b o (fun z=>ym (yi e) (yE.mp z)) (yf _ e),rfl,q⟩
end
def Itf(f:Nat->V)(n:Nat):It:=⟨fun i _=>i<n,fun i H x H'=>H'=H/\x=f i,fun i _=>i=n⟩
variable{K:yb}{nm:String}
theorem zjp{w:al}{y:Nat->af->Prop}{St:Nat->au->Prop}{f:Nat->V}
  (W:∀A:ax,A.handled=none->Walks P w A it [it] [it] n y St) (x:∀i h,St i h->∃o vs,h.get? it=aa o/\o.cls = .type nm/\o.data = .fields vs)
  (r:∀i h h',St i h->(∀b∈[it],∀o,h.get? b=aa o->h'.get? b=aa o)->St i h') (hn:["enumerate", "zip", "dict_itemiterator", "dict_reverseitemiterator", "odict_iterator", "itertools.zip_longest", "itertools.pairwise"].contains nm=ag)
  (C:∀i v,i<n->y i v->RelV (f i) v) (a:∀(A:ax)(i:Nat)(s:ai)(Q:af->ai->Prop)(E:af->ai->Prop),St i s.heap->Q (.ref it) s->wpAny (am P w) A (pyIter (.ref it)) Q E s):Turn P w K tg (Itf f n) [it] it St where
 mem:=by simp
 obj:=fun i h st b g=>by
  have e:b=it:=by simpa using g
  subst e
  obtain⟨o,vs,e,c,d⟩:=x i h st
  exact⟨o,e,fun v z=>by rw[d]at z;cases z⟩
 keep:=fun i h h' st k=>r i h h' st k
 item:=by
  intro X j q u t i pins s σ H E I m st l
  subst j q u
  obtain⟨f0,f1,f2,f3,f4,F⟩:=m it (by simp)
  refine(W X.A (I.ok.hd t)).item i s _ _ l st fun v h' tk B S p=>?_
  have D:Inv X pins σ H { s with heap:=h',toks:=tk }:=I.turned (fun b o g e=>p b o (by simpa using g) e) f0 f1 f3 f4 F
  obtain⟨o,vs,e,c,d⟩:=x _ _ S
  exact⟨v,rfl,zp1 (s:={ s with heap:=h',toks:=tk }) e c d hn ⟨f i,H,D,C i v l B,⟨rfl,rfl⟩,S,fun b g=>(m b g).1⟩⟩
 done:=by
  intro X j q u t i pins s σ H E I m st l
  subst j q u
  obtain⟨f0,f1,f2,f3,f4,F⟩:=m it (by simp)
  have e:i=n:=l
  subst e
  exact(W X.A (I.ok.hd t)).done s _ _ st fun h' tk p=>⟨rfl,I.turned (fun b o g e=>p b o (by simpa using g) e) f0 f1 f3 f4 F⟩
 self:=a
def sgn(z:ae)(i:Nat):V := .str ⟨#[z.cps.getD i 0]⟩
def iTxt(t:TE):TI:=fun σ H R=>t σ H fun x H1=>∃z,x = .str z/\R (Itf (sgn z) z.cps.size) H1
variable{t:Tok}
theorem zd5(st:h.IsStrIter it nm x t i):∃o vs,h.get? it=aa o/\o.cls = .type nm/\o.data = .fields vs:=by
 obtain⟨o,e,c,d⟩:=st;exact⟨o,_,e,c,d⟩
theorem zfG(st:h.IsStrIter it nm x t i)(k:∀b∈[it],∀o,h.get? b=aa o->h'.get? b=aa o):h'.IsStrIter it nm x t i:=let ⟨o,ho,r⟩:=st;⟨o,k it (by simp) o ho,r⟩
variable{z:ae}
theorem zk0(h:SignAt z i v):RelV (sgn z i) v:=by
 obtain⟨c,u,e,rfl⟩:=h;refine⟨u,?_⟩;have:z.cps.getD i 0=c:=by simp[Array.getD_eq_getD_getElem?,e]
 rw[this]
theorem pi_txt{l:ak}{T:TE}(hl:PE X l T):PI X tg l (iTxt T):=by
 intro pins s σ H R I h;refine thn (hl pins s σ H _ I h) ?_;rintro v s1 ⟨x,f,a,r,g⟩;obtain⟨z,e,q⟩:=g;subst e;obtain⟨t,rfl⟩:=r;have fp:∀b∈[s1.heap.objs.size],ze9 X pins f b:=fun b j=>by
  have e:b=s1.heap.objs.size:=by simpa using j
  subst e;exact a.fpOk (yc _) (a.hok.fresh (yc _))
 cases ha:z.cps.all (· < 128)
 ·refine wpAny_pyIter_wide ha ?_;exact⟨s1.heap.objs.size,[s1.heap.objs.size],_,_,f,rfl,a.kept (t':=s1.toks) fun b o e=>yf _ e,zjp (nm := "str_iterator") (St:=fun i h=>h.IsStrIter s1.heap.objs.size "str_iterator" z t i) (fun A d=>Walks.strWide d _ z t) (fun i h st=>zd5 st) (fun i h h' st k=>zfG st k) (by decide) (fun i v _ c=>zk0 c) (fun A i s Q E st q=>wpAny_pyIter_striter_wide st q),⟨_,yr _ rfl,rfl,rfl⟩,fp,q⟩
 ·refine wpAny_pyIter_ascii ha ?_;exact⟨s1.heap.objs.size,[s1.heap.objs.size],_,_,f,rfl,a.kept (t':=s1.toks) fun b o e=>yf _ e,zjp (nm := "str_ascii_iterator") (St:=fun i h=>h.IsStrIter s1.heap.objs.size "str_ascii_iterator" z t i) (fun A d=>Walks.strAscii d _ z t) (fun i h st=>zd5 st) (fun i h h' st k=>zfG st k) (by decide) (fun i v _ c=>zk0 c) (fun A i s Q E st q=>wpAny_pyIter_striter_ascii st q),⟨_,yr _ rfl,rfl,rfl⟩,fp,q⟩
theorem zr4:SlR X (fun x lo hi H Q=>∃z,x = .str z/\z.length<=sizeLine/\Q (.str (Txt.slice z lo hi)) H):=by
 intro pins s σ H x v f V lo hi sl Q I r hs pl pu q;obtain⟨z,rfl,a,q⟩:=q;obtain⟨t,rfl⟩:=r;obtain⟨o,e,c,d⟩:=hs;have hp:∀{v:af}{o:Option Int},aZ v o->∃p:Option (Int×Tok),v=partValue p/\p.map (·.1)=o:=by
  intro v o h;cases h with
  |none=>exact⟨none,rfl,rfl⟩|int i t=>exact⟨aa (i,t),rfl,rfl⟩
 obtain⟨l,rfl,hl⟩:=hp pl;obtain⟨u,rfl,b⟩:=hp pu;subst hl b;refine⟨"str", _,F.slot_str_getitem.lookup,typeIs_str _ _ _,wpAny_getItem_str_slice (l:=l) (u:=u) (st:=none) ⟨o,e,c,d⟩ rfl ?_⟩;exact post_val_or_str ⟨yx (Txt.slice_le z _ _) a,fun t' k=>⟨.str (Txt.slice z (l.map (·.1)) (u.map (·.1))),H,I.tok _,⟨t',rfl⟩,q⟩⟩
theorem zm5{a:Array af}(h:ItemsOf (SignAt z) a z.cps.size):Vals ((yw z.cps.size).map (sgn z)) a.toList:=by
 obtain⟨h1,b⟩:=h;have gen:∀(n k:Nat)(l:List af),l.length=n->(∀j v,l[j]?=aa v->SignAt z (k+j) v)->Vals ((ybr k n).map (sgn z)) l:=by
  intro n;induction n with
  |zero=>intro k l hl _;have:l=[]:=ybW.mp hl;subst this;exact .nil|succ n i=>
   intro k l hl H;cases l with
   |nil=>cases hl|cons v l=>
    rw[ycG,yl];refine .cons (zk0 (by simpa using H 0 v rfl)) (i (k+1) l (by simpa using hl) fun j v e=>?_);have:=H (j+1) v (by simpa using e)
    rwa [show k+(j+1)=k+1+j by omega]at this
 rw[ydq];refine gen _ 0 _ (by simpa using h1) fun j v e=>?_;rw[yq];exact b j v (by simpa using e)
theorem zhL(f:X.calm=ac):CallR X (.type "tuple") (fun xs H Q=>∃z,xs=[.str z]/\z.cps.size<=sizeLine/\∀l,H l=none->Q (.ref l) (upd H l (.tup ((yw z.cps.size).map (sgn z))))):=by
 intro pins s σ H xs us Q I r h;obtain⟨z,rfl,c,q⟩:=h;obtain⟨u,rfl,t,rfl⟩:=zch r;refine call_tuple_str (I.ok.hd f) z t (fun h' tk a kp it=>?_) c;have d:=zm5 it;have i:Inv X pins σ H { s with heap:=h',toks:=tk }:=I.kept kp;have g:Inv X pins σ (upd H h'.objs.size (.tup ((yw z.cps.size).map (sgn z)))) { s with heap:=h'.push { cls := .type "tuple", data := .seq a },toks:=tk } :=
  i.laid (t':=tk) (fun b o e=>yf _ e) (yc _) (show ObjOk X.prog X.w _ _ _ (.tup _) from ⟨by simpa using c,a.toList,d,by simpa using IsTup.new h' a,_,yr _ rfl,rfl⟩)
 exact⟨.ref h'.objs.size,_,g,rfl,q _ (i.hok.fresh (yc _))⟩
end L2
namespace PySem
open Sem (wp)
open Builtin
namespace F
end F
end PySem
namespace L2
open PySem PySem.Spec PyProof.Rows
section
variable{X:Cx}{tg:ak}
theorem zrW:CallR X (.type "range") (fun xs H Q=>∃n:Int,xs=[.int n]/\0<=n/\n<2^62/\∀p,H p=none->Q (.ref p) (upd H p (.rng 0 n))):=by
 intro pins s σ H xs us Q I r h;obtain⟨n,rfl,h0,h1,q⟩:=h;obtain⟨u,rfl,t,rfl⟩:=zch r;refine call_range_1 ?_;exact⟨.ref s.heap.objs.size,_,I.laid (o := .rng 0 n) (fun b o e=>yf _ e) (yc _) ⟨_,_,_,yr _ rfl⟩,rfl,q _ (I.hok.fresh (yc _))⟩
end
end L2
namespace PySem
open Sem (wp)
open Builtin Builtin.Str
namespace F
end F
end PySem
namespace PySem
open Sem (wp)
open Builtin Builtin.Str
end PySem
namespace L2
open PySem PySem.Spec PyProof.Rows
variable{X:Cx}{pins:List (ad×ar)}{σ : St}{H:Hp}{s:ai}{h':au}{t':Nat}{a b:ad}
theorem Inv.turn2(I:Inv X pins σ H s)(g:ze9 X pins H a)(F:ze9 X pins H b)(k:∀c o,c≠a->c≠b->s.heap.get? c=aa o->h'.get? c=aa o):Inv X pins σ H { s with heap:=h',toks:=t' }:=by
 obtain⟨a0,a1,a2,a3,a4,a5⟩:=g;obtain⟨b0,b1,b2,b3,b4,B⟩:=F;have N:∀c u,H c=aa u->c≠a:=fun c u e z=>by rw[z,a0]at e;cases e
 have nb:∀c u,H c=aa u->c≠b:=fun c u e z=>by rw[z,b0]at e;cases e
 refine I.step (g':=s.gens) (d':=s.drawn) (ch:=[a,b]) (fun c h=>?_) (fun c o _ _ h e _=>k c o (fun z=>h (by simp[z])) (fun z=>h (by simp[z])) e) (fun c o _ _ h e _=>⟨o.slots,k c o (fun z=>h (by simp[z])) (fun z=>h (by simp[z])) e⟩)
  (fun _ _ _ _ n=>n) (fun c o h e=>⟨o,k c o (fun z=>h (by simp[z])) (fun z=>h (by simp[z])) e⟩) (fun _ _ e=>e) (fun _ _ _ e=>e) (fun c ps e=>⟨#[],by rw[e];simp⟩) (fun m hm=>?_) (fun c u e=>?_) I.bare
 ·have e:c=a∨c=b:=by simpa using h
  rcases e with rfl|rfl
  ·exact⟨a3,a1,a4,a5⟩
  ·exact⟨b3,b1,b4,B⟩
 ·obtain⟨o,es,ep,f,r⟩:=hm;exact⟨o,es,ep,k _ o (Ne.symm a1) (Ne.symm b1) f,r⟩
 ·refine(I.hok c u e).stay (fun d v hd q=>?_) (fun _ q=>q) fun _ _ q=>q;rcases hd with z|z
  ·rw[z]at q ⊢;exact k c v (N c u e) (nb c u e) q
  ·exact k d v (N d _ z) (nb d _ z) q
theorem Inv.turn2l{T:ad}{o':HO}(I:Inv X pins σ H s)(F:ze9 X pins H a)(f:ze9 X pins H b)(k:∀c o,c≠a->c≠b->s.heap.get? c=aa o->h'.get? c=aa o)(d:s.heap.objs.size<=T)(new:ObjOk X.prog X.w (upd H T o') h' T o'):Inv X pins σ (upd H T o') { s with heap:=h',toks:=t' }:=by
 have J:Inv X pins σ H { s with heap:=h',toks:=t' }:=I.turn2 F f k;have hn:H T=none:=I.hok.fresh d;obtain⟨a0,a1,a2,a3,a4,a5⟩:=F;obtain⟨b0,b1,b2,b3,b4,B⟩:=f;have N:∀c o,s.heap.get? c=aa o->c≠T:=fun c o q=>ym (yB (yi q) d);refine I.step (g':=s.gens) (d':=s.drawn) (ch:=[a,b]) (fun c h=>?_) (fun c o _ _ h e _=>k c o (fun z=>h (by simp[z])) (fun z=>h (by simp[z])) e) (fun c o _ _ h e _=>⟨o.slots,k c o (fun z=>h (by simp[z])) (fun z=>h (by simp[z])) e⟩)
  (fun c o _ q n=>by rw[zao (N c o q)];exact n) (fun c o h e=>⟨o,k c o (fun z=>h (by simp[z])) (fun z=>h (by simp[z])) e⟩) (fun c xs e=>by rw[zao (zau e hn)];exact e) (fun c u xs e=>by rw[zao (zau e hn)];exact e)
  (fun c ps e=>⟨#[],by rw[zao (zau e hn),e];simp⟩) (fun m hm=>?_) (zeW J.hok hn new) I.bare
 ·have e:c=a∨c=b:=by simpa using h
  rcases e with rfl|rfl
  ·exact⟨a3,a1,a4,a5⟩
  ·exact⟨b3,b1,b4,B⟩
 ·obtain⟨o,es,ep,g,r⟩:=hm;exact⟨o,es,ep,k _ o (Ne.symm a1) (Ne.symm b1) g,r⟩
end L2
namespace PySem
open Sem (wp)
open Builtin
variable{prog:aq}{A:ax}{E:af->ai->Prop}{s:ai}{it l:ad}{i:Nat}{items:Array af}{Q:af->ai->Prop}
section
variable{w:al}
theorem zg0{x:af}(h:s.heap.IsTupleIter it l i)(hl:s.heap.IsTuple l items)(c:items[i]?=aa x)(hQ:∀h',h'.IsTupleIter it l (i+1)->yaP it s.heap h'->Q x { s with heap:=h' }):wpAny (am prog w) A (SmallTypes.nextOf (.ref it)) Q E s:=by
 obtain⟨o,H,d,hd⟩:=id h;obtain⟨O,a,_,n,b⟩:=hl;have e : ¬ ((yo l==yab)=ac):=yu;unfold SmallTypes.nextOf;refine aj (bR (name:=yH "__next__") h.typeIs ybX (bw ybX h.typeIs ydr ?_ (yds _)));refine aj (m:=field (.ref it) 0) (aJ H hd (x := .ref l) rfl ?_);show wpAny _ _ (if (yo l==yab)=ac then _ else _) _ _ s;rw[if_neg e];refine aj (m:=field (.ref it) 1) (aJ H hd (x := .int i 0) rfl ?_);refine aj (m:=b9 (.ref l)) (a9 a b ?_);simp only[yax,c];refine aj (bU H hd (by simp) (av ⟨x,rfl,av (hQ _ ⟨_,ybl _ H (Obj.isFreed_of_fields (ydt hd _)),(Obj.cls_mapFields ..).trans d,?_⟩ (ydu ..))⟩));rw[ydt hd];simp[rawInt]
theorem zhF(g:A.handled=none)(h:s.heap.IsTupleIter it l i)(hl:s.heap.IsTuple l items)(f:items[i]?=none)(j:∀h' e,Heap.ExtBut it s.heap h'->(∃o,h'.get? e=aa o/\o.cls = .type "StopIteration")->E (.ref e) { s with heap:=h' }):wpAny (am prog w) A (SmallTypes.nextOf (.ref it)) Q E s:=by
 obtain⟨o,b,p,hd⟩:=id h;obtain⟨O,H,_,n,d⟩:=hl;have k : ¬ ((yo l==yab)=ac):=yu;unfold SmallTypes.nextOf;refine aj (bR (name:=yH "__next__") h.typeIs ybX (bw ybX h.typeIs ydr ?_ (yds _)));refine aj (m:=field (.ref it) 0) (aJ b hd (x := .ref l) rfl ?_);show wpAny _ _ (if (yo l==yab)=ac then _ else _) _ _ s;rw[if_neg k];refine aj (m:=field (.ref it) 1) (aJ b hd (x := .int i 0) rfl ?_);refine aj (m:=b9 (.ref l)) (a9 H d ?_);simp only[yax,f];refine aj (bq (aj (bU b hd (by simp) ?_)));show wpAny _ _ (newExc (.type "StopIteration") [] >>= _) _ _ _;refine aj ?_;simp only[newExc,newTuple];refine aj (aR ?_ (by size_fits));refine aj (m:=firstArgMember _ _) (wpAny_of_eq (a:=yab) (by first | rfl | (simp only[firstArgMember];rfl)) (aR ?_ (by size_fits)));simp only[raiseNew];have c:A.in1.handled=none:=g;refine aj (wpAny_handled ?_);rw[c];exact aj (av (wpAny_throw (j _ _ (((ydu ..).extBut.push _).push _) ⟨_,yr _ rfl,rfl⟩)))
end
theorem Draws.tup{w:al}(d:A.handled=none)(it l:ad)(b:l≠it)(items:Array af) :
  Draws prog w A it [it,l] items.size (fun i v=>items[i]?=aa v) (fun i h=>h.IsTupleIter it l i/\h.IsTuple l items) where
 live:=fun _ _ st=>let ⟨o,ho,_⟩:=st.1;⟨o,ho⟩
 frame:=fun _ _ _ st c=>⟨let ⟨o,ho,r⟩:=st.1;⟨o,c it (by simp) o ho,r⟩,let ⟨o,ho,r⟩:=st.2;⟨o,c l (by simp) o ho,r⟩⟩
 item:=fun i s Q E hi st hQ=>zg0 st.1 st.2 (x:=items[i]) (by simp[hi]) fun h' a H=>hQ _ h' s.toks (by simp[hi]) ⟨a,st.2.extBut H.extBut b⟩ H
 done:=fun s Q E st e=>zhF d st.1 st.2 (by simp) e
theorem zeu(l:ad)(items:Array af) :
  Meets (aO.«enumerate.__new__» ⟨[.type "enumerate", .ref l],[]⟩) (fun _ R s=>s.heap.IsTuple l items ∧
   R (.ok (.ret (.ref (s.heap.push { cls := .type "tuple_iterator", data := .fields #[.ref l,.int 0 0] }).objs.size)))
    { s with heap:=(s.heap.push { cls := .type "tuple_iterator", data := .fields #[.ref l,.int 0 0] }).push { cls := .type "enumerate", data := .fields #[.none,.bool ag,.ref s.heap.objs.size,rawInt 0,.none,.none] } }) :=
 .of_wp fun prog w A R s h=>by
  obtain⟨hp,g,d,tk,os⟩:=s;obtain⟨a,h⟩:=h;have H:=sub_enumerate
  wp_walk
  refine wpAny_stack_any fun st=>av ?_;split
  ·rename_i c _ _ _ _ _;cases (c==yat "enumerate") <;> (wp_walk using bM a;exact⟨_,rfl,h⟩)
  ·wp_walk using bM a
   exact⟨_,rfl,h⟩
theorem ze7{w:al}(c:s.heap.IsTuple l items)
  (h:∀h',IsEnum h' (s.heap.objs.size+1) s.heap.objs.size 0 .none->h'.IsTupleIter s.heap.objs.size l 0->(∀b o,s.heap.get? b=aa o->h'.get? b=aa o)->Q (.ref (s.heap.objs.size+1)) { s with heap:=h' }) :
  wpAny (am prog w) A (call (.type "enumerate") [.ref l]) Q E s:=by
 refine callType_new F.called_enumerate (by decide) (F.typeCall_enumerate_1 _) (F.newCall_enumerate_1 _) (fun obj=>F.args_object_init_2 obj _) F.entry_enumerate_new (zeu l items) ⟨c,?_⟩;have H:(s.heap.push { cls := .type "tuple_iterator", data := .fields #[.ref l,.int 0 0] }).objs.size=s.heap.objs.size+1:=yS ..;show _/\_;rw[H];have a:IsEnum ((s.heap.push { cls := .type "tuple_iterator", data := .fields #[.ref l,.int 0 0] }).push { cls := .type "enumerate", data := .fields #[.none,.bool ag,.ref s.heap.objs.size,rawInt 0,.none,.none] }) (s.heap.objs.size+1) s.heap.objs.size 0 .none:=by
  rw[<- H];exact yr _ rfl
 exact⟨⟨_,a,rfl⟩,h _ a ⟨_,yf _ (yr _ rfl),rfl,rfl⟩ fun b o e=>yf _ (yf _ e)⟩
end PySem
namespace L2
open PySem PySem.Spec PyProof.Rows
structure SeqKind(c:List V->HO)(IsS:au->ad->Array af->Prop)(IsI:au->ad->ad->Nat->Prop):Prop where
 obj:∀h it l i,IsI h it l i->∃o,h.get? it=aa o/\∀v,o.data ≠ .cell v
 kp:∀(h h':au) it l i,IsI h it l i->(∀o,h.get? it=aa o->h'.get? it=aa o)->IsI h' it l i
 seq:∀(X:Cx)(pins:List (ad×ar))(σ : St)(H:Hp)(s:ai)(l:ad)(xs:List V),Inv X pins σ H s->H l=aa (c xs)->∃its:List af,Vals xs its/\IsS s.heap l its.toArray
 dr:∀(P:aq)(w:al)(A:ax),A.handled=none->∀(it l:ad),l≠it->∀items:Array af,Draws P w A it [it,l] items.size (fun i v=>items[i]?=aa v) (fun i h=>IsI h it l i/\IsS h l items)
 inj:∀a b,c a=c b->a=b
theorem seq_lst:SeqKind HO.lst Heap.IsList Heap.IsListIter where
 obj:=fun h it l i st=>by obtain⟨o,e,_,d⟩:=st;exact⟨o,e,fun v z=>by rw[d]at z;cases z⟩
 kp:=fun h h' it l i st k=>let ⟨o,e,r⟩:=st;⟨o,k o e,r⟩
 seq:=fun X pins σ H s l xs I e=>by
  obtain⟨its,r,p,_⟩:=I.list (SqL.of e)
  exact⟨its,r,p.isList⟩
 dr:=fun P w A f it l c items=>Draws.list f it l c items
 inj:=fun a b e=>by cases e;rfl
theorem seq_tup:SeqKind HO.tup Heap.IsTuple ydv where
 obj:=fun h it l i st=>by obtain⟨o,e,_,d⟩:=st;exact⟨o,e,fun v z=>by rw[d]at z;cases z⟩
 kp:=fun h h' it l i st k=>let ⟨o,e,r⟩:=st;⟨o,k o e,r⟩
 seq:=fun X pins σ H s l xs I e=>by
  obtain⟨its,r,p,_⟩:=I.tuple (SqT.of e)
  exact⟨its,r,p⟩
 dr:=fun P w A f it l c items=>Draws.tup f it l c items
 inj:=fun a b e=>by cases e;rfl
theorem zes(ns:List Int):∀j,j<=ns.length->preSum (fun i=>ns.getD i 0) j=(ns.take j).sum
 |0,_=>by simp[preSum]|j+1,h=>by
  have h2:=zes ns j (by omega);rw[preSum,h2,ycH,yh (by omega),ybY];have H:j<ns.length:=by omega
  simp[H]
theorem zjr(B:Int)(c:0<=B):∀ns:List Int,(∀a,a∈ns->0<=a/\a<=B)->0<=ns.sum/\ns.sum<=ns.length*B
 |[],_=>by simp|a::r,h=>by
  have h1:=zjr B c r fun b H=>h b (yK _ H);have d:=h a (by simp);rw[List.sum_cons,yt];push_cast;rw[ycI];omega
theorem zkC{X:Cx}(w:X.calm=ac):CallR X (.builtin "sum") (fun xs H Q=>∃(l:ad)(ns:List Int),xs=[.ref l]/\SqL X.K H l (ns.map V.int)/\(∀a,a∈ns->0<=a/\a<=2^50)/\ns.length<=1000/\Q (.int ns.sum) H):=by
 intro pins s σ H xs us Q I r h;obtain⟨l,ns,rfl,hq,m,hn,q⟩:=h;obtain⟨u,rfl,p⟩:=zch r;cases p;obtain⟨its,R,pl,x⟩:=I.list hq;have hl:=pl.isList;have g:l<s.heap.objs.size:=by obtain⟨_,e,_⟩:=hl;exact yi e
 have c:ns.length=its.length:=by rw[<- R.length,yg]
 have f:∀j,j<=ns.length->0<=preSum (fun i=>ns.getD i 0) j/\preSum (fun i=>ns.getD i 0) j<=1000*2^50:=fun j d=>by
  rw[zes ns j d];have h1:=zjr (2^50) (by decide) (ns.take j) fun a ha=>m a (ybZ ha);have n:((ns.take j).length:Int)<=1000:=by rw[yap];omega
  have y:((ns.take j).length:Int)*2^50<=1000*2^50:=ydw n (by decide);omega
 refine call_sum_walk (cd hl ?_);refine⟨s.heap.objs.size,_,_,its.toArray.size,_,_,fun i=>ns.getD i 0,rfl,ycF (A:=X.A.in1) (I.ok.hd w) _ l (ym g) its.toArray,⟨⟨_,yr _ rfl,rfl,rfl⟩,hl.push _⟩,fun b k=>?_,fun i v e=>zn4 R e,fun j d=>?_,fun h' tk t' t=>?_⟩
 ·have e:b=s.heap.objs.size∨b=l:=by simpa using k
  have z:(s.heap.push { cls := .type "list_iterator", data := .fields #[.ref l,.int 0 0] }).objs.size=s.heap.objs.size+1:=yS ..;show b<(s.heap.push { cls := .type "list_iterator", data := .fields #[.ref l,.int 0 0] }).objs.size;rw[z];rcases e with rfl|rfl
  ·exact yaS _
  ·exact ydx g
 ·rw[yp,<- c]at d;have h1:=f (j+1) d;have n:=m (ns.getD j 0) (by rw[zp2 d];exact yaB d);refine⟨⟨?_,?_⟩,⟨by omega,by omega⟩⟩
  ·show -(2^63)<=ns.getD j 0;omega
  ·show ns.getD j 0<2^63;omega
 ·rw[yp,<- c,zes ns _ (yc _),ybs];exact⟨.int ns.sum,H,I.kept fun b o e=>t b o (fun z=>ym (yi e) (yE.mp z)) (yf _ e),⟨t',rfl⟩,q⟩
end L2
namespace PySem
open Sem (wp)
open Builtin
open AutoSeq1 (wpAny_loadPart')
theorem zin(l:ad)(items:Array af)(n:Nat)(dd:Option ad)(sl:Array (Option af))(x:af)(e:af->Bool)(j:Nat)(u:j<items.size)(f:e items[j]=ac)(c:∀m (hm:m<items.size),m<j->e items[m]=ag) : Meets (aO.«tuple.index» ⟨[.ref l,x],[]⟩) (fun A R s=>s.heap.get? l=aa { cls := .type "tuple", dict:=dd,data := .seq items n,slots:=sl }/\(∀y,y∈items->SeqAt.EqAt A.in1 s y x (e y))/\R (.ok (.ret (.int j s.toks))) { s with toks:=s.toks+1 }) :=
 .of_wp fun prog w A R s h=>by
  obtain⟨hp,g,d,tk,os⟩:=s;obtain⟨hl,t,h⟩:=h;unfold aO.«tuple.index»;refine aj (wpAny_of_eq (a:=(yo l,[x])) rfl ?_);refine aj (wpAny_tupleItemsOf hl rfl ?_);dsimp only;refine aj (av ?_);refine aj (av ?_);rw[Nat.min_self,Std.Legacy.Range.forIn_eq_forIn_range'];have p:ybr ([:items.size]).start ([:items.size]).size ([:items.size]).step=ybr 0 items.size 1:=by
   simp[Std.Legacy.Range.size]
  rw[p];refine aj (wpAny_forIn_list _ (fun r b s'=>b=(none,())/\s'=⟨hp,g,d,tk,os⟩/\∃i,i<=j/\r=ybr i (items.size-i) 1) _ ?_ ?_ _ _ ⟨rfl,rfl,0,yZ _,by simp⟩)
  ·rintro i r b s' ⟨rfl,rfl,k,q,hr⟩;have H:k<items.size:=by omega
   rw[show items.size-k=(items.size-(k+1))+1 by omega,ycG]at hr;obtain⟨rfl,rfl⟩:=List.cons.inj hr;have hi:items[i]?=aa items[i]:=by simp[H]
   rw[hi];dsimp only;refine aj (t _ (Array.getElem_mem H) prog w _ _ ?_);by_cases o:i=j
   ·subst o;rw[f,if_pos rfl];refine aj (aj (wpAny_mkInt (av ?_)));exact av (av ⟨_,rfl,h⟩)
   ·rw[c i H (by omega),if_neg yu];exact av ⟨rfl,rfl,i+1,by omega,rfl⟩
  ·rintro b s' ⟨rfl,rfl,k,q,hr⟩;have:=congrArg yaG hr;simp at this;omega
end PySem
namespace L2
open PySem PySem.Spec PyProof.Rows
variable{o:Option V}{y:V}{u:af}
section
variable{κ : Type}[DecidableEq κ]
def zjk(kvs:List (κ × V))(k : κ):Option V:=(kvs.find? fun kv=>decide (kv.1=k)).map (·.2)
def zeI(kvs:List (κ × V))(k : κ)(v:V):List (κ × V) :=
 if (kvs.any fun kv=>decide (kv.1=k))=ac then kvs.map (fun kv=>if kv.1=k then (kv.1,v) else kv) else kvs++[(k,v)]
def zhK(kvs:List (κ × V))(k : κ):List (κ × V):=kvs.filter fun kv=>decide (kv.1≠k)
theorem zgc{p : κ × V}{r:List (κ × V)}{k : κ}(e:p.1=k):zjk (p::r) k=aa p.2:=by simp[zjk,ya7,e]
theorem zgd{p : κ × V}{r:List (κ × V)}{k : κ}(e : ¬ p.1=k):zjk (p::r) k=zjk r k:=by simp[zjk,ya7,e]
theorem zl7(k : κ):∀kvs:List (κ × V),(kvs.any fun kv=>decide (kv.1=k))=(zjk kvs k).isSome
 |[]=>rfl|p::r=>by
  rw[ya8];by_cases e:p.1=k
  ·simp only[zgc e,decide_eq_true e,Bool.true_or,ycJ]
  ·rw[zgd e,decide_eq_false e,ycK];exact zl7 k r
theorem zev(kvs:List (κ × V))(k : κ)(v:V):(zeI kvs k v).length<=kvs.length+1:=by
 unfold zeI;split
 ·rw[yg];omega
 ·rw[yj,yt,List.length_nil];omega
theorem RelO.isSome_eq{u:Option af}(r:RelO o u):o.isSome=u.isSome:=by
 cases o with
 |none=>cases u with
  |none=>rfl|some _=>exact(show False from r).elim
 |some _=>cases u with
  |none=>exact(show False from r).elim|some _=>rfl
theorem KV.val{kvs:List (κ × V)}{vs:List (κ × af)}(r:KV kvs vs)(k : κ):RelO (zjk kvs k) (bd vs k):=by
 unfold KV at r;induction r with
 |nil=>exact True.intro|@cons p q ps Q h t i=>
  obtain⟨h1,H⟩:=h;by_cases e:p.1=k
  ·have E:q.1=k:=h1.symm.trans e;have b:bd (q::Q) k=aa q.2:=by simp[bd,ya7,E]
   rw[zgc e,b];exact H
  ·have E : ¬ q.1=k:=fun z=>e (h1.trans z);have b:bd (q::Q) k=bd Q k:=by simp[bd,ya7,E]
   rw[zgd e,b];exact i
theorem KV.any{kvs:List (κ × V)}{vs:List (κ × af)}(r:KV kvs vs)(k : κ):(kvs.any fun kv=>decide (kv.1=k))=vs.any fun kv=>decide (kv.1=k):=by
 unfold KV at r;induction r with
 |nil=>rfl|cons h t i=>rw[ya8,ya8,i,h.1]
theorem KV.repl{kvs:List (κ × V)}{vs:List (κ × af)}(r:KV kvs vs)(k : κ)(R:RelV y u) : KV (kvs.map fun kv=>if kv.1=k then (kv.1,y) else kv) (vs.map fun kv=>if kv.1=k then (kv.1,u) else kv):=by
 unfold KV at r ⊢;induction r with
 |nil=>exact .nil|@cons p q ps Q h t i=>
  rw[yl,yl];refine .cons ?_ i;obtain⟨h1,H⟩:=h;by_cases e:p.1=k
  ·rw[if_pos e,if_pos (h1.symm.trans e)];exact⟨h1,R⟩
  ·rw[if_neg e,if_neg (fun z=>e (h1.trans z))];exact⟨h1,H⟩
theorem KV.put{kvs:List (κ × V)}{vs:List (κ × af)}(r:KV kvs vs)(k : κ)(R:RelV y u):KV (zeI kvs k y) (stored vs k u):=by
 unfold zeI stored;rw[r.any k];by_cases e:(vs.any fun kv=>decide (kv.1=k))=ac
 ·rw[if_pos e,if_pos e];exact r.repl k R
 ·rw[if_neg e,if_neg e];exact Paired.snoc r ⟨rfl,R⟩
theorem KV.drop{kvs:List (κ × V)}{vs:List (κ × af)}(r:KV kvs vs)(k : κ):KV (zhK kvs k) (without vs k):=by
 unfold KV at r ⊢;unfold zhK without;induction r with
 |nil=>exact .nil|@cons p q ps Q h t i=>
  obtain⟨h1,H⟩:=h;rw[yaK,yaK];by_cases e:p.1=k
  ·have a : ¬ decide (p.1≠k)=ac:=by simp[e]
   have b : ¬ decide (q.1≠k)=ac:=by simp[h1.symm.trans e]
   rw[if_neg a,if_neg b];exact i
  ·have E : ¬ q.1=k:=fun z=>e (h1.trans z);have a:decide (p.1≠k)=ac:=by simp[e]
   have b:decide (q.1≠k)=ac:=by simp[E]
   rw[if_pos a,if_pos b];exact .cons ⟨h1,H⟩ i
theorem KV.keys{kvs:List (κ × V)}{vs:List (κ × af)}(r:KV kvs vs):kvs.map (·.1)=vs.map (·.1):=by
 unfold KV at r;induction r with
 |nil=>rfl|cons h t i=>rw[yl,yl,i,h.1]
theorem KV.length{kvs:List (κ × V)}{vs:List (κ × af)}(r:KV kvs vs):kvs.length=vs.length:=Paired.length r
theorem zrP(kvs:List (κ × V))(k : κ):(zhK kvs k).length<=kvs.length:=ydy _ _
end
variable{P:aq}
theorem zj9{w:al}{k:Key}(r:RelV (kV k) u):(zaK P w).is k u=ac:=by
 cases k with
 |inl i=>obtain⟨t,e⟩:=(show ∃t,u=yaD i t from r);subst e;exact zlB P w i t
 |inr x=>obtain⟨t,e⟩:=(show ∃t,u=yaY x t from r);subst e;exact zlA P w x t
theorem zkb{P:aq}{w:al}:∀{ks:List Key}{us:List af},Vals (ks.map kV) us->ItemsAre (zaK P w) ks us
 |[],_,r=>by rw[yaz]at r;cases r;exact .nil|k::ks,_,r=>by
  rw[yl]at r;cases r with
  |cons h t=>exact .cons (zj9 h) (zkb t)
abbrev KT(H:Hp):List (List Key×V)->List (List Key×ad×af)->Prop:=Paired fun p q=>p.1=q.1/\H q.2.1=aa (.tup (p.1.map kV))/\RelV p.2 q.2.2
variable{kvs:List (List Key×V)}{H:Hp}{xs:List (List Key×ad×af)}
theorem KT.val(r:KT H kvs xs)(k:List Key):RelO (zjk kvs k) ((bn xs k).map (·.2)):=by
 induction r with
 |nil=>exact True.intro|@cons p q ps Q h t i=>
  obtain⟨h1,_,a⟩:=h;by_cases e:p.1=k
  ·have E:q.1=k:=h1.symm.trans e;have b:bn (q::Q) k=aa q.2:=by simp[bn,ya7,E]
   rw[zgc e,b];exact a
  ·have E : ¬ q.1=k:=fun z=>e (h1.trans z);have b:bn (q::Q) k=bn Q k:=by simp[bn,ya7,E]
   rw[zgd e,b];exact i
theorem KT.repl(r:KT H kvs xs)(k:List Key)(R:RelV y u) : KT H (kvs.map fun kv=>if kv.1=k then (kv.1,y) else kv) (xs.map (putAt k u)):=by
 induction r with
 |nil=>exact .nil|@cons p q ps Q h t i=>
  rw[yl,yl];refine .cons ?_ i;obtain⟨h1,a,b⟩:=h;unfold putAt;by_cases e:p.1=k
  ·rw[if_pos e,if_pos (h1.symm.trans e)];exact⟨h1,a,R⟩
  ·rw[if_neg e,if_neg (fun z=>e (h1.trans z))];exact⟨h1,a,b⟩
theorem KT.put(r:KT H kvs xs)(k:List Key){b:ad}(h:H b=aa (.tup (k.map kV)))(R:RelV y u) : KT H (zeI kvs k y) (storedH xs k b u):=by
 have e:(kvs.any fun kv=>decide (kv.1=k))=(bn xs k).isSome:=by
  rw[zl7,(r.val k).isSome_eq,yb0]
 unfold zeI storedH;rw[e];by_cases q:(bn xs k).isSome=ac
 ·rw[if_pos q,if_pos q];exact r.repl k R
 ·rw[if_neg q,if_neg q];exact Paired.snoc r ⟨rfl,h,R⟩
variable{H':Hp}
theorem KT.keeps(r:KT H kvs xs)(h:∀b ys,H b=aa (.tup ys)->H' b=aa (.tup ys)):KT H' kvs xs :=
 Paired.mapP r fun _ _ z=>⟨z.1,h _ _ z.2.1,z.2.2⟩
variable{a:ad}
section
variable{w:al}{h:au}
theorem rd_of{u:HO}(ok:HOk P w H h)(e:Rd H a u):ObjOk P w H h a u:=e.ok ok
theorem ze5{kvs:List (Key×V)}(ok:HOk P w H h)(e:Rd H a (.dK kvs)):kvs.length<=sizeLine/\(a==aT)=ag/\∃vs,KV kvs vs/\h.DictOf (zaK P w) a vs :=
 show ObjOk P w H h a (.dK kvs) from rd_of ok e
theorem zuw{kvs:List (Key×V)}(ok:HOk P w H h)(e:H a=aa (.dK kvs)):kvs.length<=sizeLine/\(a==aT)=ag/\∃vs,KV kvs vs/\h.DictOf (zaK P w) a vs:=ze5 ok (.inl e)
theorem zj7{ks:List Key}(ok:HOk P w H h)(e:H a=aa (.tup (ks.map kV))):(bX (zaK P w)).is h ks a:=by
 obtain⟨_,its,r,⟨o,h1,c,n,b⟩,_⟩:=(show ObjOk P w H h a (.tup (ks.map kV)) from ok a _ e);exact⟨o,its.toArray,n,h1,c,b,by simpa using zkb r⟩
theorem znP(ok:HOk P w H h)(e:Rd H a (.dT kvs)):kvs.length<=sizeLine/\(a==aT)=ag∧∃xs,KT H kvs xs/\h.DictOfH (bX (zaK P w)) a xs:=by
 obtain⟨z,y,xs,r,o,es,ep,h1,g,f,d,c⟩:=(show ObjOk P w H h a (.dT kvs) from rd_of ok e);refine⟨z,y,xs,r,o,es,ep,h1,g,f,d,fun x b=>?_,c⟩;have all:∀{l:List (List Key×V)}{m:List (List Key×ad×af)},KT H l m->∀x∈m,(bX (zaK P w)).is h x.1 x.2.1:=by
  intro l m q;induction q with
  |nil=>intro x b;exact nomatch b|@cons p q ps Q hq t i=>
   intro x b;rcases yn.mp b with e|b
   ·subst e;exact zj7 ok (by rw[<- hq.1];exact hq.2.1)
   ·exact i x b
 exact all r x b
theorem dt_of(ok:HOk P w H h)(e:H a=aa (.dT kvs)):kvs.length<=sizeLine/\(a==aT)=ag ∧
  ∃xs,KT H kvs xs/\h.DictOfH (bX (zaK P w)) a xs:=znP ok (.inl e)
end
def DGet(H:Hp)(a:ad)(y:V)(r:Option V):Prop :=
 (∃kvs k,Rd H a (.dK kvs)/\y=kV k/\r=zjk kvs k)∨∃kvs k b,Rd H a (.dT kvs)/\y = .ref b/\H b=aa (.tup (k.map kV))/\r=zjk kvs k
def DPut(H:Hp)(a:ad)(y v:V)(H':Hp):Prop :=
 (∃kvs k,H a=aa (.dK kvs)/\y=kV k/\kvs.length<sizeLine/\H'=upd H a (.dK (zeI kvs k v))) ∨
 ∃kvs k b,H a=aa (.dT kvs)/\y = .ref b/\H b=aa (.tup (k.map kV))/\kvs.length<sizeLine/\H'=upd H a (.dT (zeI kvs k v))
theorem DGet.k{kvs:List (Key×V)}{k:Key}(e:H a=aa (.dK kvs)):DGet H a (kV k) (zjk kvs k) := .inl ⟨kvs,k,.inl e,rfl,rfl⟩
variable{v:V}
theorem DPut.k{kvs:List (Key×V)}{k:Key}(e:H a=aa (.dK kvs))(hl:kvs.length<sizeLine):DPut H a (kV k) v (upd H a (.dK (zeI kvs k v))) := .inl ⟨kvs,k,e,rfl,hl,rfl⟩
variable{X:Cx}{pins:List (ad×ar)}{σ : St}{s:ai}{A:ax}{E Q:af->ai->Prop}{h':au}
section
variable{r:af}
theorem Inv.big(I:Inv X pins σ H s):aT<s.heap.objs.size:=by
 have h:aE<s.heap.objs.size:=(I.mod.glob.keeps I.bk).lt;exact Nat.lt_trans (by decide) h
theorem zqn(j:A.units+1<aC)(I:Inv X pins σ H s)(g:DGet H a y (aa v))(i:RelV y u)(h:∀w s',Inv X pins σ H s'->RelV v w->Q w s') : wpAny (am X.prog X.w) A (bv (.ref a) u) Q E s:=by
 rcases g with⟨kvs,k,e,f,l⟩|⟨kvs,k,b,e,f,m,l⟩
 ·subst f;obtain⟨z,hd,vs,R,dd⟩:=ze5 I.hok e;obtain⟨w,c,r⟩:=RelO.some_of (v:=v) (o:=bd vs k) (by rw[l];exact R.val k);exact wpAny_getItem_of (zj9 i) dd.mapOf c (h w _ (I.tok _) r)
 ·subst f;cases (show u=yo b from i);obtain⟨z,hd,xs,R,dd⟩:=znP I.hok e;obtain⟨w,c,r⟩:=RelO.some_of (v:=v) (o:=(bn xs k).map (·.2)) (by rw[l];exact R.val k);obtain⟨p,hp,d⟩:=yak.mp c;refine wpAny_getItem_heap (cg j) (zj7 I.hok m) dd hp ?_;rw[d];exact h w _ (I.tok _) r
theorem d_in(d:A.units+1<aC)(I:Inv X pins σ H s)(g:DGet H a y o)(R:RelV y u)(h:∀s',Inv X pins σ H s'->Q (.bool o.isSome) s') : wpAny (am X.prog X.w) A (aB .In u (.ref a)) Q E s:=by
 rcases g with⟨kvs,k,e,c,l⟩|⟨kvs,k,b,e,c,f,l⟩
 ·subst c;obtain⟨z,hd,vs,r,dd⟩:=ze5 I.hok e;refine wpAny_in_of (zj9 R) hd dd.mapOf ?_;rw[<- (r.val k).isSome_eq,<- l];exact h _ (I.tok _)
 ·subst c;cases (show u=yo b from R);obtain⟨z,hd,xs,r,dd⟩:=znP I.hok e;refine wpAny_in_heap (cg d) (zj7 I.hok f) hd dd ?_;have q:=(r.val k).isSome_eq;rw[yb0]at q;rw[<- q,<- l];exact h _ (I.tok _)
theorem zuy(d:A.units+1<aC)(I:Inv X pins σ H s)(g:DGet H a y o)(R:RelV y u)(h:∀s',Inv X pins σ H s'->Q (.bool (!o.isSome)) s') : wpAny (am X.prog X.w) A (aB .NotIn u (.ref a)) Q E s:=by
 rcases g with⟨kvs,k,e,c,l⟩|⟨kvs,k,b,e,c,f,l⟩
 ·subst c;obtain⟨z,hd,vs,r,dd⟩:=ze5 I.hok e;refine wpAny_notIn_of (zj9 R) hd dd.mapOf ?_;rw[<- (r.val k).isSome_eq,<- l];exact h _ (I.tok _)
 ·subst c;cases (show u=yo b from R);obtain⟨z,hd,xs,r,dd⟩:=znP I.hok e;refine wpAny_notIn_heap (cg d) (zj7 I.hok f) hd dd ?_;have q:=(r.val k).isSome_eq;rw[yb0]at q;rw[<- q,<- l];exact h _ (I.tok _)
theorem zje{t':Nat}{ob:HO}(I:Inv X pins σ H s)(m:Mut (H a))(hs:yaP a s.heap h')(h:∃q,h'.get? a=aa q)(new:ObjOk X.prog X.w (upd H a ob) h' a ob) : Inv X pins σ (upd H a ob) { s with heap:=h',toks:=t' } :=
 I.write (x:=a) (e:=a) m (.inl rfl) (fun b q c z=>(hs.2 b c).trans z) h new
theorem zmO{w:al}{kvs:List (Key×V)}{vs:List (Key×af)}(z:kvs.length<=sizeLine)(hd:(a==aT)=ag)(r:KV kvs vs)(dd:h'.DictOf (zaK P w) a vs) :
  ObjOk P w H' h' a (.dK kvs):=⟨z,hd,vs,r,dd⟩
theorem zqm{Q:Unit->ai->Prop}(t:A.units+1<aC)(I:Inv X pins σ H s)(g:DPut H a y v H')(m:RelV y u)(n:RelV v r)(h:∀s',Inv X pins σ H' s'->Q () s') : wpAny (am X.prog X.w) A (setItem (.ref a) u r) Q E s:=by
 rcases g with⟨kvs,k,e,i,l,j⟩|⟨kvs,k,b,e,i,p,l,j⟩
 ·subst i j;obtain⟨z,hd,vs,R,dd⟩:=zuw I.hok e;have f:vs.length<=sizeLine:=by rw[<- R.length];exact z
  have hl:(zeI kvs k v).length<=sizeLine:=by have:=zev kvs k v;omega
  refine wpAny_setItem_pairs (hsz:=f) (zj9 m) dd fun h' d hs=>h _ ?_;have w:∃q,h'.get? a=aa q:=let ⟨q,_,_,hq,_⟩:=d;⟨q,hq⟩;exact zje I (by rw[e];exact True.intro) hs w (zmO hl hd (R.put k n) d)
 ·subst i j;cases (show u=yo b from m);obtain⟨z,hd,xs,R,dd⟩:=dt_of I.hok e;have f:xs.length<=sizeLine:=by rw[<- Paired.length R];exact z
  have hl:(zeI kvs k v).length<=sizeLine:=by have:=zev kvs k v;omega
  refine wpAny_setItem_heap (hsz:=f) (cg t) (zj7 I.hok p) dd fun h' d hs=>h _ ?_;obtain⟨q,es,ep,hq,D,C,B,_,x⟩:=d;refine zje I (by rw[e];exact True.intro) hs ⟨q,hq⟩ ⟨hl,hd,_,(R.put k p n).keeps fun c ys o=>?_,q,es,ep,hq,D,C,B,x⟩;rw[zao (ne_of o e (fun z=>nomatch z))];exact o
end
section
variable{kvs:List (Key×V)}{k:Key}
theorem d_pop{more:List af}(I:Inv X pins σ H s)(e:H a=aa (.dK kvs))(R:RelV (kV k) u)(l:zjk kvs k=aa v)(hm:more=[]∨∃x,more=[x])(h:∀w s',Inv X pins σ (upd H a (.dK (zhK kvs k))) s'->RelV v w->Q w s'):wpAny (am X.prog X.w) A (call (.builtin "dict.pop") (.ref a::u::more)) Q E s:=by
 obtain⟨z,hd,vs,r,dd⟩:=zuw I.hok e;obtain⟨w,c,b⟩:=RelO.some_of (v:=v) (o:=bd vs k) (by rw[<- l];exact r.val k);have hp:(keyPart u).isSome=ac:=by
  cases k with
  |inl i=>obtain⟨t,q⟩:=(show ∃t,u=yaD i t from R);subst q;rfl
  |inr x=>obtain⟨t,q⟩:=(show ∃t,u=yaY x t from R);subst q;rfl
 have ha:argsOk "dict.pop" ⟨.ref a::u::more,[]⟩:=by
  rcases hm with q|⟨x,q⟩
  ·subst q;exact PySem.F.args_dict_pop_2 _ _
  ·subst q;exact PySem.F.args_dict_pop_3 _ _ _
 refine call_meetsIn ydz dd.typeIs PySem.F.entry_dict_pop ha (meets_dict_pop_there (zaK X.prog X.w) a (zj9 R) more hm hp)
  ⟨vs,w,dd,by rw[<- r.length];exact z,c,fun h' d hs=>h w _ ?_ b⟩
 have f:∃q,h'.get? a=aa q:=let ⟨q,_,_,hq,_⟩:=d;⟨q,hq⟩;exact zje I (by rw[e];exact True.intro) hs f (zmO (yx (zrP kvs k) z) hd (r.drop k) d)
theorem d_len(I:Inv X pins σ H s)(e:Rd H a (.dK kvs))(h:∀t s',Inv X pins σ H s'->Q (.int kvs.length t) s'):wpAny (am X.prog X.w) A (call (.builtin "len") [.ref a]) Q E s:=by
 obtain⟨z,hd,vs,r,dd⟩:=ze5 I.hok e;refine call_len_dict hd dd (by rw[<- r.length];rw[bf]at z;omega) ?_;rw[<- r.length];exact h _ _ (I.tok _)
end
theorem zlO(I:Inv X pins σ H s)(g:DGet H a y o):s.TypeIs (.ref a) "dict" := by
 rcases g with⟨kvs,k,e,_,_⟩|⟨kvs,k,b,e,_,_,_⟩
 ·obtain⟨_,_,vs,_,dd⟩:=ze5 I.hok e;exact dd.typeIs
 ·obtain⟨_,_,xs,_,dd⟩:=znP I.hok e;exact dd.typeIs
def sDPut(td ty tv:TE):TS:=fun D σ H=>tv σ H fun v H1=>td σ H1 fun x H2=>ty σ H2 fun y h=>∃a H4,x = .ref a/\DPut h a y v H4/\D.nx σ H4
variable{pos:aw}{td ty tv:TE}
section
variable{o i e value:ak}{pos' tpos:aw}
theorem ztk(f:X.A.units+1<aC)(j:PE X o td)(hi:PE X i ty)(e:PE X value tv)(hs:aU value (aa (.Subscript o i pos')) pos.line X.env=pure ag) : PS X (.Assign [.Subscript o i pos'] value pos) (sDPut td ty tv):=by
 intro pins s σ H D I h;refine wpAny_Assign_Subscript (thn (e pins s σ H _ I h) fun r s1 ⟨v,w,n,c,d⟩=>thn (j pins s1 σ w _ n d) fun u s2 ⟨x,t,m,b,Q⟩=>thn (hi pins s2 σ t _ m Q) fun A z ⟨y,B,l,R,a,p,ex,g,q⟩=>?_) hs;subst ex;obtain rfl:u=yo a:=b;exact zqm f l g R c fun S k=>⟨σ,p,k,q⟩
end
theorem zmP{w:al}(h:au)(a:aT<h.objs.size):ObjOk P w H (h.push { cls := .type "dict", data := .dict #[] }) h.objs.size (.dK []) :=
 ⟨yZ _,beq_eq_false_iff_ne.mpr (Ne.symm (ym a)),[],.nil,ydA h⟩
def tDNewK:TE:=fun _ H Q=>∀p,H p=none->Q (.ref p) (upd H p (.dK []))
section
theorem zrg:PE X (.Dict [] [] pos) tDNewK:=fun pins s σ H Q I h=>
 wpAny_Dict_empty ⟨.ref s.heap.objs.size,_,I.laid (a:=s.heap.objs.size) (o := .dK []) (t':=s.toks) (fun _ _ q=>yf _ q) (yc _) (zmP s.heap I.big),rfl,h _ (I.hok.fresh (yc _))⟩
end
def zmb:List (TE×TE)->St->Hp->(List (V×V)->Hp->Prop)->Prop
 |[],_,H,Q=>Q [] H| (tk,tv)::r,σ,H,Q=>tk σ H fun x H1=>tv σ H1 fun y H2=>zmb r σ H2 fun ps h=>Q ((x,y)::ps) h
abbrev VV:List (V×V)->List (af×af)->Prop:=Paired fun p q=>RelV p.1 q.1/\RelV p.2 q.2
def PPs(X:Cx)(pos:aw)(keys:List (Option ak))(v:List ak)(t:List (TE×TE)):Prop :=
 ∀(pins:List (ad×ar))(s:ai)(σ : St)(H:Hp)(Q:List (V×V)->Hp->Prop),Inv X pins σ H s->zmb t σ H Q →
  wpAny (am X.prog X.w) X.A (evalPairs (pairTrees keys v X.env pos)) (fun vs s'=>∃ps H',Inv X pins σ H' s'/\VV ps vs/\Q ps H') X.xe s
theorem ztl:PPs X pos [] [] []:=fun pins s σ H Q I h=>pairTrees_nil_walk ⟨[],H,I,.nil,h⟩
variable{trs:List (TE×TE)}
theorem zq9{k v:ak}{ks:List (Option ak)}{vs:List ak}{tk:TE}(e:PE X k tk)(d:PE X v tv)(hr:PPs X pos ks vs trs) :
  PPs X pos (aa k::ks) (v::vs) ((tk,tv)::trs):=fun pins s σ H Q I h=>
 pairTrees_cons_walk (thn (e pins s σ H _ I h) fun u s1 ⟨x,m,g,a,c⟩=>thn (d pins s1 σ m _ g c) fun w s2 ⟨y,l,f,R,b⟩=>
  thn (hr pins s2 σ l _ f b) fun ws S ⟨ps,j,i,r,q⟩=>⟨(x,y)::ps,j,i,.cons ⟨a,R⟩ r,q⟩)
def zdD(kvs more:List (Key×V)):List (Key×V):=more.foldl (fun a kv=>zeI a kv.1 kv.2) kvs
theorem KV.merge:∀{more:List (Key×V)}{rs:List (Key×af)}{kvs:List (Key×V)}{vs:List (Key×af)},KV more rs->KV kvs vs->KV (zdD kvs more) (merged vs rs):=by
 intro more rs kvs vs r;unfold KV at r;induction r generalizing kvs vs with
 |nil=>intro q;exact q|@cons p q ps Q h t i=>
  intro r0;have e:KV (zeI kvs p.1 p.2) (stored vs q.1 q.2):=by
   have:=r0.put p.1 h.2;rw[<- h.1];exact this
  exact i e
theorem zeQ:∀(more kvs:List (Key×V)),(zdD kvs more).length<=kvs.length+more.length
 |[],kvs=>by show kvs.length<=kvs.length+0;omega|p::r,kvs=>by
  have h1:=zeQ r (zeI kvs p.1 p.2);have h:=zev kvs p.1 p.2;show (zdD (zeI kvs p.1 p.2) r).length<=_;rw[yt];omega
theorem zih{P:aq}{w:al}:∀{kvs:List (Key×V)}{ws:List (af×af)},VV (kvs.map fun kv=>(kV kv.1,kv.2)) ws->∃rs,Carries (zaK P w) ws rs/\KV kvs rs
 |[],_,r=>by rw[yaz]at r;cases r;exact⟨[],True.intro,.nil⟩|p::kvs,_,r=>by
  rw[yl]at r;cases r with
  |@cons a b as bs h t=>
   obtain⟨rs,c,q⟩:=zih (P:=P) (w:=w) t;obtain⟨b1,b2⟩:=b;exact⟨(p.1,b2)::rs,⟨zj9 h.1,rfl,c⟩,.cons ⟨rfl,h.2⟩ q⟩
def tDisp(t:List (TE×TE)):TE:=fun σ H Q=>∀p,H p=none->zmb t σ (upd H p (.dK [])) fun ps H2=>H2 p=aa (.dK [])/\∃kvs:List (Key×V),ps=kvs.map (fun kv=>(kV kv.1,kv.2))/\kvs.length<=15/\Q (.ref p) (upd H2 p (.dK (zdD [] kvs)))
theorem ztA{keys:List (Option ak)}{v:List ak}(h:PPs X pos keys v trs)(b:keys.all (·.isSome)=ac)(hl:keys.length=v.length)(h0:keys≠[])(f:keys.length<=15):PE X (.Dict keys v pos) (tDisp trs):=by
 intro pins s σ H Q I q;have hn:=I.hok.fresh (yc s.heap.objs.size);have l:=I.laid (a:=s.heap.objs.size) (o := .dK []) (h':=s.heap.push { cls := .type "dict", data := .dict #[] }) (t':=s.toks) (fun _ _ q=>yf _ q) (yc _) (zmP s.heap I.big);refine wpAny_Dict_walk (knd:=zaK X.prog X.w) b hl h0 f (thn (h pins _ σ _ _ l (q _ hn)) ?_);rintro ws s2 ⟨ps,m,i,r,e,kvs,ep,L,g⟩;subst ep;obtain⟨rs,c,rk⟩:=zih (P:=X.prog) (w:=X.w) r;obtain⟨z,hd,V,r0,dd⟩:=zuw i.hok e;cases r0;refine⟨rs,c,dd,fun h' d hs=>⟨.ref s.heap.objs.size,_,?_,rfl,g⟩⟩;have j:(zdD [] kvs).length<=sizeLine:=by
  have h1:=zeQ kvs [];rw[List.length_nil]at h1;rw[bf];omega
 have k:∃q,h'.get? s.heap.objs.size=aa q:=let ⟨q,_,_,hq,_⟩:=d;⟨q,hq⟩;exact zje i (by rw[e];exact True.intro) hs k (zmO j hd (rk.merge .nil) d)
structure M1(X:Cx)(o:ak)(m:ae)(apos:aw)(e:ak)(cpos:aw):Prop where
 base:br o m X.env (eval o X.env)=eval o X.env
 few:((az cpos (ap [e] X.env)).all (fun x=> !x.1)&&(aL cpos (aM [] X.env)).all (fun x=>x.1.isSome)
  && decide (([e]:List ak).length+([]:List aS).length+(if ([]:List aS).isEmpty then 0 else 1)<30))=ac
 line:(apos.endLine==cpos.line)=ac
 trees:az cpos (ap [e] X.env)=[(ag,eval e X.env)]
def IsD(H:Hp)(a:ad):Prop:=(∃kvs,Rd H a (.dK kvs))∨∃kvs,Rd H a (.dT kvs)
theorem isD_at(I:Inv X pins σ H s)(d:IsD H a) : s.TypeIs (.ref a) "dict" /\ (∀b,yo a = .ref b->∃ob,s.heap.get? b=aa ob/\ob.dict=none)/\(a==aT)=ag:=by
 rcases d with⟨kvs,e⟩|⟨kvs,e⟩
 ·obtain⟨_,hd,vs,_,dd⟩:=ze5 I.hok e;refine⟨dd.typeIs,fun b q=>?_,hd⟩;cases q;obtain⟨ob,_,_,h1,h,_⟩:=dd;exact⟨ob,h1,h.2.1⟩
 ·obtain⟨_,hd,xs,_,dd⟩:=znP I.hok e;refine⟨dd.typeIs,fun b q=>?_,hd⟩;cases q;obtain⟨ob,_,_,h1,h,_⟩:=dd;exact⟨ob,h1,h.2.1⟩
def tDPop1(td ty:TE):TE:=fun σ H Q=>td σ H fun x H1=>∃a,x = .ref a/\IsD H1 a/\ty σ H1 fun y H2=>∃kvs k v,H2 a=aa (.dK kvs)/\y=kV k/\zjk kvs k=aa v/\Q v (upd H2 a (.dK (zhK kvs k)))
section
variable{o e f:ak}{apos cpos:aw}{tx:TE}
theorem zrf(f:PE X o td)(g:PE X e ty)(m:M1 X o "pop" apos e cpos):PE X (.Call (.Attribute o "pop" apos) [e] [] cpos) (tDPop1 td ty):=by
 intro pins s σ H Q I h;refine wpAny_Call_method m.base m.few m.line PySem.F.plainAttrs_dict ydz PySem.F.type_dict_pop (thn (f pins s σ H _ I h) ?_);rintro u s1 ⟨x,w,i,b,a,ex,d,c⟩;subst ex;obtain rfl:u=yo a:=b;obtain⟨T,t,_⟩:=isD_at i d;refine⟨T,t,?_⟩;rw[m.trees];refine ycA rfl (ycB (ydd (thn (g pins s1 σ w _ i c) fun z s2 ⟨y,A,p,R,kvs,k,v,j,E,l,q⟩=>ydc ?_)));subst E;exact d_pop p j R l (.inl rfl) fun W S n r=>⟨v,_,n,r,q⟩
end
section
variable{kvs:List (Key×V)}
theorem zrS(I:Inv X pins σ H s)(e:Rd H a (.dK kvs))(h:∀p s',H p=none->Inv X pins σ (upd H p (.dK kvs)) s'->Q (.ref p) s'):wpAny (am X.prog X.w) A (call (.type "dict") [.ref a]) Q E s:=by
 obtain⟨z,hd,vs,r,dd⟩:=ze5 I.hok e;refine kt_call_dict hd dd (by rw[<- r.length];exact z) fun h' d hs=>?_;refine h _ _ (I.hok.fresh (yc _)) (I.laid (a:=s.heap.objs.size) (o := .dK kvs) (t':=s.toks) (fun b q hq=>?_) (yc _) (zmO z (beq_eq_false_iff_ne.mpr (Ne.symm (ym I.big))) r d));exact(hs.2 b (ym (yi hq))).trans (yf _ hq)
end
section
theorem op_isT:OpR X (aB .Is) (fun x y H Q=>∃b c,x = .bl b/\y = .bl c/\Q (.bl (b==c)) H):=by
 intro pins s σ H x y v u Q I R r h;obtain⟨b,c,rfl,rfl,q⟩:=h;cases R;cases r;exact is_bool ⟨.bl (b==c),H,I,rfl,q⟩
theorem zrm:OpR X (aB .IsNot) (fun x y H Q=>∃b c,x = .bl b/\y = .bl c/\Q (.bl (b != c)) H):=by
 intro pins s σ H x y v u Q I R r h;obtain⟨b,c,rfl,rfl,q⟩:=h;cases R;cases r;exact isnot_bool ⟨.bl (b != c),H,I,rfl,q⟩
end
end L2
namespace PySem
open Sem (wp)
open Builtin
variable{prog:aq}{A:ax}{E:af->ai->Prop}{s:ai}{a b:af}{z i1 i2:ad}{fp1 fp2:List ad}{n1 n2:Nat}{P1 P2:Nat->af->Prop}{S1 S2:Nat->au->Prop}{Q:af->ai->Prop}
section
variable{w:al}
theorem zgu{h h':au}{c T:ad}(hs:yaP c h h')(n:T≠c)(e:aD h T a b):aD h' T a b:=(hs.2 T n).trans e
theorem zhv{TI TO:ad}{k:Nat}
  (D1:Draws prog w A i1 fp1 n1 P1 S1) (V:Draws prog w A i2 fp2 n2 P2 S2) (L:aP s.heap z TI TO .none) (hTI:aD s.heap TI (.ref i1) (.ref i2)) (hTO:aD s.heap TO a b)
  (h1:S1 k s.heap) (h2:S2 k s.heap) (k1:k<n1) (k2:k<n2) (N:TO≠z) (nTI:TI≠z) (n1z:i1≠z) (n2z:i2≠z) (n1T:i1≠TO) (n2T:i2≠TO)
  (R:z∉fp1) (f1T:TO∉fp1) (f12:i2∉fp1) (O:z∉fp2) (P:TO∉fp2) (f21:i1∉fp2)
  (hQ:∀x y h' tk,P1 k x->P2 k y->aP h' z TI TO (rawInt s.heap.objs.size)->aD h' TO x y->S1 (k+1) h'->S2 (k+1) h'->aD h' s.heap.objs.size x y->h'.objs.size=s.heap.objs.size+1 →
   (∀c o,c≠z->c≠TO->c≠i1->c≠i2->s.heap.get? c=aa o->h'.get? c=aa o)->Q (.ref s.heap.objs.size) { s with heap:=h',toks:=tk }) :
  wpAny (am prog w) A (aO.«zip.__next__» ⟨[.ref z],[]⟩) (fun fin s'=>∃v,fin = .done (.ret v)/\Q v s') E s:=by
 show wpAny _ _ (field (.ref z) 2 >>= _) _ _ s;refine aj (aJ L rfl (x := .bool ag) rfl ?_);refine aj (aJ L rfl (x := .ref TI) rfl ?_);refine aj (a9 hTI rfl ?_);refine aj (m:=SmallTypes.ownedTupleIsFree (.ref z)) (aj (aJ L rfl (x := .none) rfl (av ?_)));show wpAny _ _ (if ac=ac then _ else _) _ _ s;rw[if_pos rfl];refine aj (bq ?_);refine aj (aJ L rfl (x := .ref TO) rfl ?_);refine aj (ca L (by simp) fun g1 hz1 f=>?_);have Z:S1 k g1:=D1.frame k _ _ h1 fun c H o e=>(f.2 c fun q=>R (q ▸ H)).trans e;have Y:S2 k g1:=V.frame k _ _ h2 fun c H o e=>(f.2 c fun q=>O (q ▸ H)).trans e;have M:=zgu f N hTO;refine aj ?_;show wpAny _ _ (forIn [(yo i1,0),(yo i2,1)] _ _) _ _ _;rw[ybt];refine aj (aj (cr ?_));refine aj (m:=SmallTypes.nextOf (.ref i1)) (D1.item k { s with heap:=g1 } _ _ k1 Z fun x g2 W px I d=>av ?_);have t:=zgu d (Ne.symm n1T) M;refine aj (a9 t rfl ?_);refine aj (wpAny_updateSeq_pair t fun g3 g l=>?_);refine aj (bW (av ?_));have g:aD g3 TO x b:=g;have F:S2 k g3:=V.frame k _ _ Y fun c H o e=>(l.2 c fun q=>P (q ▸ H)).trans ((d.2 c fun q=>f21 (q ▸ H)).trans e);show wpAny _ _ (forIn [(yo i2,1)] _ _) _ _ _;rw[ybt];refine aj (aj (cr ?_));refine aj (m:=SmallTypes.nextOf (.ref i2)) (V.item k { s with heap:=g3,toks:=W } _ _ k2 F fun y g4 T py u j=>av ?_);have r:=zgu j (Ne.symm n2T) g;refine aj (a9 r rfl ?_);refine aj (wpAny_updateSeq_pair r fun G h i=>?_);refine aj (bW (av ?_));have h:aD G TO x y:=h;show wpAny _ _ (forIn [] _ _) _ _ _;rw[ycL];refine av ?_;refine aj (a9 h rfl ?_);refine aj (wpAny_newTuple ?_);have K:aP G z TI TO .ellipsis:=(i.2 z (Ne.symm N)).trans ((j.2 z (Ne.symm n2z)).trans ((l.2 z (Ne.symm N)).trans ((d.2 z (Ne.symm n1z)).trans hz1)));have S:G.objs.size=s.heap.objs.size:=by rw[i.1,j.1,l.1,d.1,f.1]
 have hz6:=yf { cls:=yat "tuple", data:=Data.seq #[x,y] } K;refine aj (m:=SmallTypes.ownedTupleHandOut _ _) ?_;refine aj (m:=setField _ 0 _) (ca hz6 (by simp) fun g7 hz7 C=>?_);refine ca hz7 (by simp) fun D hz8 B=>?_;have lt:∀{c:ad}{o:ar},s.heap.get? c=aa o->c<G.objs.size:=fun e=>by rw[S];exact yi e
 have nw:G.objs.size≠z:=yai (yi K);have fr:∀c o,c≠z->G.get? c=aa o->D.get? c=aa o:=fun c o n e=>(B.2 c n).trans ((C.2 c n).trans (yf _ e));have up:∀c o,c≠z->c≠TO->c≠i2->g2.get? c=aa o->D.get? c=aa o:=fun c o c1 U c3 e=>fr c o c1 ((i.2 c U).trans ((j.2 c c3).trans ((l.2 c U).trans e)));have p:D.get? G.objs.size=aa { cls:=yat "tuple", data:=Data.seq #[x,y] }:=(B.2 _ nw).trans ((C.2 _ nw).trans (yr _ rfl));have X:D.objs.size=s.heap.objs.size+1:=by
  rw[B.1];show g7.objs.size=_;rw[C.1];show (G.push _).objs.size=_;rw[yS,S]
 have J:aP D z TI TO (rawInt s.heap.objs.size):=by
  rw[<- S];exact hz8
 refine av ⟨_,rfl,?_⟩;show Q (yo G.objs.size) { s with heap:=D,toks:=T };rw[S]at p ⊢;refine hQ x y D T px py J (fr _ _ N h) (D1.frame _ _ _ I fun c H o e=>up c o (fun q=>R (q ▸ H)) (fun q=>f1T (q ▸ H)) (fun q=>f12 (q ▸ H)) e) (V.frame _ _ _ u fun c H o e=>fr c o (fun q=>O (q ▸ H)) ((i.2 c fun q=>P (q ▸ H)).trans e)) p X fun c o c1 U c3 c4 e=>up c o c1 U c4 ((d.2 c c3).trans ((f.2 c c1).trans e))
theorem zij{TI TO:ad}
  (D:Draws prog w A i1 fp1 n1 P1 S1) (H:aP s.heap z TI TO .none) (j:aD s.heap TI (.ref i1) (.ref i2)) (y:aD s.heap TO a b)
  (h1:S1 n1 s.heap) (N:TO≠z) (n:i1≠z) (k:z∉fp1)
  (B:∀h' e,(∃o,h'.get? e=aa o/\o.cls = .type "StopIteration")->(∀c o,c≠z->c≠TO->c≠i1->c≠i2->s.heap.get? c=aa o->h'.get? c=aa o)->E (.ref e) { s with heap:=h' }) :
  wpAny (am prog w) A (aO.«zip.__next__» ⟨[.ref z],[]⟩) (fun F s'=>∃v,F = .done (.ret v)/\Q v s') E s:=by
 show wpAny _ _ (field (.ref z) 2 >>= _) _ _ s;refine aj (aJ H rfl (x := .bool ag) rfl ?_);refine aj (aJ H rfl (x := .ref TI) rfl ?_);refine aj (a9 j rfl ?_);refine aj (m:=SmallTypes.ownedTupleIsFree (.ref z)) (aj (aJ H rfl (x := .none) rfl (av ?_)));show wpAny _ _ (if ac=ac then _ else _) _ _ s;rw[if_pos rfl];refine aj (bq ?_);refine aj (aJ H rfl (x := .ref TO) rfl ?_);refine aj (ca H (by simp) fun g1 i g=>?_);have S:S1 n1 g1:=D.frame n1 _ _ h1 fun c u o e=>(g.2 c fun q=>k (q ▸ u)).trans e;refine aj ?_;show wpAny _ _ (forIn [(yo i1,0),(yo i2,1)] _ _) _ _ _;rw[ybt];refine aj (aj (cr ?_));refine aj (m:=SmallTypes.nextOf (.ref i1)) (D.done { s with heap:=g1 } _ _ S fun G e f t=>?_);have h:G.get? z=aa _:=f z _ (Ne.symm n) i;refine ca h (by simp) fun g3 r d=>?_;obtain⟨O,l,p⟩:=t;have C:e≠z:=fun q=>by
  rw[q,h]at l;cases l;exact absurd (Value.type.inj p) (by decide)
 exact B g3 e ⟨O,(d.2 e C).trans l,p⟩ fun c o c1 K I J q=>(d.2 c c1).trans (f c o I ((g.2 c c1).trans q))
theorem zdj{TI TO:ad}{k:Nat}{Q:Option af->ai->Prop}
  (v:Draws prog w A.in1 i1 fp1 n1 P1 S1) (D:Draws prog w A.in1 i2 fp2 n2 P2 S2) (r:aP s.heap z TI TO .none) (H:aD s.heap TI (.ref i1) (.ref i2)) (h:aD s.heap TO a b)
  (h1:S1 k s.heap) (u:S2 k s.heap) (k1:k<n1) (k2:k<n2) (n:TO≠z) (N:TI≠z) (f:i1≠z) (d:i2≠z) (g:i1≠TO) (e:i2≠TO)
  (m:z∉fp1) (p:TO∉fp1) (q:i2∉fp1) (i:z∉fp2) (j:TO∉fp2) (l:i1∉fp2)
  (hQ:∀x y h' tk,P1 k x->P2 k y->aP h' z TI TO (rawInt s.heap.objs.size)->aD h' TO x y->S1 (k+1) h'->S2 (k+1) h'->aD h' s.heap.objs.size x y->h'.objs.size=s.heap.objs.size+1 →
   (∀c o,c≠z->c≠TO->c≠i1->c≠i2->s.heap.get? c=aa o->h'.get? c=aa o)->Q (aa (.ref s.heap.objs.size)) { s with heap:=h',toks:=tk }) :
  wpAny (am prog w) A (be (.ref z)) Q E s:=by
 have t:s.TypeIs (.ref z) "zip" := ⟨_,r,rfl⟩;exact aj (wpAny_attempt (bR t yb1 (bw yb1 t F.entry_zip_next
  (zhv v D r H h h1 u k1 k2 n N f d g e m p q i j l fun x y h' tk a0 b0 a1 a2 a3 a4 a5 a6 a7=>av (hQ x y h' tk a0 b0 a1 a2 a3 a4 a5 a6 a7)) (F.args_zip_next_1 (yo z)))))
theorem zdl{TI TO:ad}{Q:Option af->ai->Prop}
  (D:Draws prog w A.in1 i1 fp1 n1 P1 S1) (d:aP s.heap z TI TO .none) (H:aD s.heap TI (.ref i1) (.ref i2)) (h:aD s.heap TO a b)
  (h1:S1 n1 s.heap) (n:TO≠z) (N:i1≠z) (f:z∉fp1)
  (hQ:∀h',(∀c o,c≠z->c≠TO->c≠i1->c≠i2->s.heap.get? c=aa o->h'.get? c=aa o)->Q none { s with heap:=h' }) :
  wpAny (am prog w) A (be (.ref z)) Q E s:=by
 have g:s.TypeIs (.ref z) "zip" := ⟨_,d,rfl⟩;exact aj (wpAny_attempt (bR g yb1 (bw yb1 g F.entry_zip_next
  (zij D d H h h1 n N f fun h' e i k=>let ⟨o,ho,hc⟩:=i;aj (wpAny_isInstance ⟨o,ho,hc⟩ isSubtype_stop (av (hQ h' k)))) (F.args_zip_next_1 (yo z)))))
end
def zpH(h:au)(o O:ar):au :=
 ((((h.push o).push O).push { cls := .type "tuple", data := .seq #[.ref h.objs.size,.ref (h.push o).objs.size] }).push { cls := .type "tuple", data := .seq #[.none,.none] }).push
  { cls := .type "zip", data := .fields #[.none,.bool ag,.bool ag,.ref ((h.push o).push O).objs.size,.ref (((h.push o).push O).push { cls := .type "tuple", data := .seq #[.ref h.objs.size,.ref (h.push o).objs.size] }).objs.size] }
abbrev tIt(l:ad):ar:={ cls := .type "tuple_iterator", data := .fields #[.ref l,.int 0 0] }
abbrev lIt(l:ad):ar:={ cls := .type "list_iterator", data := .fields #[.ref l,.int 0 0] }
theorem zj0(l1 l2:ad)(xs ys:Array af) :
  Meets (aO.«zip.__new__» ⟨[.type "zip", .ref l1,.ref l2],[]⟩) (fun _ R s=>s.heap.IsTuple l1 xs/\s.heap.IsList l2 ys ∧
   R (.ok (.ret (.ref ((((s.heap.push (tIt l1)).push (lIt l2)).push { cls := .type "tuple", data := .seq #[.ref s.heap.objs.size,.ref (s.heap.push (tIt l1)).objs.size] }).push { cls := .type "tuple", data := .seq #[.none,.none] }).objs.size)))
    { s with heap:=zpH s.heap (tIt l1) (lIt l2) }) :=
 .of_wp fun prog w A R s h=>by
  obtain⟨hp,g,d,tk,os⟩:=s;obtain⟨hl1,hl2,h⟩:=h;have b:=sub_zip;have a:=hl1;have H:=Heap.IsList.push hl2 (tIt l1)
  wp_walk using bM a,cd H
  exact⟨_,rfl,h⟩
variable{l2:ad}{xs:Array af}
theorem zlT{w:al}{l1:ad}{ys:Array af}(h1:s.heap.IsTuple l1 xs)(H:s.heap.IsList l2 ys)
  (h:∀h',aP h' (s.heap.objs.size+4) (s.heap.objs.size+2) (s.heap.objs.size+3) .none->aD h' (s.heap.objs.size+2) (.ref s.heap.objs.size) (.ref (s.heap.objs.size+1))->aD h' (s.heap.objs.size+3) .none .none →
   h'.IsTupleIter s.heap.objs.size l1 0->h'.IsListIter (s.heap.objs.size+1) l2 0->(∀b o,s.heap.get? b=aa o->h'.get? b=aa o)->Q (.ref (s.heap.objs.size+4)) { s with heap:=h' }) :
  wpAny (am prog w) A (call (.type "zip") [.ref l1,.ref l2]) Q E s:=by
 refine callType_new F.called_zip (by decide) (F.typeCall_zip_2 _ _) (F.newCall_zip_2 _ _) (fun obj=>ydB obj _ _) F.entry_zip_new (zj0 l1 l2 xs ys) ⟨h1,H,?_⟩;have z:(s.heap.push (tIt l1)).objs.size=s.heap.objs.size+1:=yS ..;have z2:((s.heap.push (tIt l1)).push (lIt l2)).objs.size=s.heap.objs.size+2:=by rw[yS,z]
 have z3:(((s.heap.push (tIt l1)).push (lIt l2)).push { cls := .type "tuple", data := .seq #[.ref s.heap.objs.size,.ref (s.heap.push (tIt l1)).objs.size] }).objs.size=s.heap.objs.size+3:=by rw[yS,z2]
 have Z:((((s.heap.push (tIt l1)).push (lIt l2)).push { cls := .type "tuple", data := .seq #[.ref s.heap.objs.size,.ref (s.heap.push (tIt l1)).objs.size] }).push { cls := .type "tuple", data := .seq #[.none,.none] }).objs.size=s.heap.objs.size+4:=by rw[yS,z3]
 have g:aP (zpH s.heap (tIt l1) (lIt l2)) (s.heap.objs.size+4) (s.heap.objs.size+2) (s.heap.objs.size+3) .none:=by
  rw[<- Z,<- z3,<- z2];exact yr _ rfl
 have G:aD (zpH s.heap (tIt l1) (lIt l2)) (s.heap.objs.size+3) .none .none:=by
  rw[<- z3];exact yf _ (yr _ rfl)
 have g3:aD (zpH s.heap (tIt l1) (lIt l2)) (s.heap.objs.size+2) (.ref s.heap.objs.size) (.ref (s.heap.objs.size+1)):=by
  rw[<- z2,<- z];exact yf _ (yf _ (yr _ rfl))
 have a:(zpH s.heap (tIt l1) (lIt l2)).get? (s.heap.objs.size+1)=aa (lIt l2):=by
  rw[<- z];exact yf _ (yf _ (yf _ (yr _ rfl)))
 have g1:(zpH s.heap (tIt l1) (lIt l2)).get? s.heap.objs.size=aa (tIt l1):=yf _ (yf _ (yf _ (yf _ (yr _ rfl))));show _/\_;rw[Z];exact⟨⟨_,g,rfl⟩,h _ g g3 G ⟨_,g1,rfl,rfl⟩ ⟨_,a,rfl,rfl⟩ fun b o e=>yf _ (yf _ (yf _ (yf _ (yf _ e))))⟩
theorem zjZ(l1 l2:ad)(xs ys:Array af) :
  Meets (aO.«zip.__new__» ⟨[.type "zip", .ref l1,.ref l2],[]⟩) (fun _ R s=>s.heap.IsTuple l1 xs/\s.heap.IsTuple l2 ys ∧
   R (.ok (.ret (.ref ((((s.heap.push (tIt l1)).push (tIt l2)).push { cls := .type "tuple", data := .seq #[.ref s.heap.objs.size,.ref (s.heap.push (tIt l1)).objs.size] }).push { cls := .type "tuple", data := .seq #[.none,.none] }).objs.size)))
    { s with heap:=zpH s.heap (tIt l1) (tIt l2) }) :=
 .of_wp fun prog w A R s h=>by
  obtain⟨hp,g,d,tk,os⟩:=s;obtain⟨hl1,hl2,h⟩:=h;have b:=sub_zip;have a:=hl1;have H:=Heap.IsTuple.push hl2 (tIt l1)
  wp_walk using bM a,bM H
  exact⟨_,rfl,h⟩
theorem zlS{w:al}{l1:ad}{ys:Array af}(h1:s.heap.IsTuple l1 xs)(H:s.heap.IsTuple l2 ys)
  (h:∀h',aP h' (s.heap.objs.size+4) (s.heap.objs.size+2) (s.heap.objs.size+3) .none->aD h' (s.heap.objs.size+2) (.ref s.heap.objs.size) (.ref (s.heap.objs.size+1))->aD h' (s.heap.objs.size+3) .none .none →
   h'.IsTupleIter s.heap.objs.size l1 0->h'.IsTupleIter (s.heap.objs.size+1) l2 0->(∀b o,s.heap.get? b=aa o->h'.get? b=aa o)->Q (.ref (s.heap.objs.size+4)) { s with heap:=h' }) :
  wpAny (am prog w) A (call (.type "zip") [.ref l1,.ref l2]) Q E s:=by
 refine callType_new F.called_zip (by decide) (F.typeCall_zip_2 _ _) (F.newCall_zip_2 _ _) (fun obj=>ydB obj _ _) F.entry_zip_new (zjZ l1 l2 xs ys) ⟨h1,H,?_⟩;have z:(s.heap.push (tIt l1)).objs.size=s.heap.objs.size+1:=yS ..;have z2:((s.heap.push (tIt l1)).push (tIt l2)).objs.size=s.heap.objs.size+2:=by rw[yS,z]
 have z3:(((s.heap.push (tIt l1)).push (tIt l2)).push { cls := .type "tuple", data := .seq #[.ref s.heap.objs.size,.ref (s.heap.push (tIt l1)).objs.size] }).objs.size=s.heap.objs.size+3:=by rw[yS,z2]
 have Z:((((s.heap.push (tIt l1)).push (tIt l2)).push { cls := .type "tuple", data := .seq #[.ref s.heap.objs.size,.ref (s.heap.push (tIt l1)).objs.size] }).push { cls := .type "tuple", data := .seq #[.none,.none] }).objs.size=s.heap.objs.size+4:=by rw[yS,z3]
 have g:aP (zpH s.heap (tIt l1) (tIt l2)) (s.heap.objs.size+4) (s.heap.objs.size+2) (s.heap.objs.size+3) .none:=by
  rw[<- Z,<- z3,<- z2];exact yr _ rfl
 have G:aD (zpH s.heap (tIt l1) (tIt l2)) (s.heap.objs.size+3) .none .none:=by
  rw[<- z3];exact yf _ (yr _ rfl)
 have g3:aD (zpH s.heap (tIt l1) (tIt l2)) (s.heap.objs.size+2) (.ref s.heap.objs.size) (.ref (s.heap.objs.size+1)):=by
  rw[<- z2,<- z];exact yf _ (yf _ (yr _ rfl))
 have a:(zpH s.heap (tIt l1) (tIt l2)).get? (s.heap.objs.size+1)=aa (tIt l2):=by
  rw[<- z];exact yf _ (yf _ (yf _ (yr _ rfl)))
 have g1:(zpH s.heap (tIt l1) (tIt l2)).get? s.heap.objs.size=aa (tIt l1):=yf _ (yf _ (yf _ (yf _ (yr _ rfl))));show _/\_;rw[Z];exact⟨⟨_,g,rfl⟩,h _ g g3 G ⟨_,g1,rfl,rfl⟩ ⟨_,a,rfl,rfl⟩ fun b o e=>yf _ (yf _ (yf _ (yf _ (yf _ e))))⟩
end PySem
namespace L2
open PySem PySem.Spec PyProof.Rows
variable{X:Cx}{pins:List (ad×ar)}{σ : St}{H:Hp}{s:ai}{h':au}{t':Nat}{ch:List ad}
theorem Inv.turnN(I:Inv X pins σ H s)(f:∀b∈ch,ze9 X pins H b)(k:∀c o,c∉ch->s.heap.get? c=aa o->h'.get? c=aa o):Inv X pins σ H { s with heap:=h',toks:=t' }:=by
 have N:∀c u,H c=aa u->c∉ch:=fun c u e z=>by have:=(f c z).1;rw[e]at this;cases this
 refine I.step (g':=s.gens) (d':=s.drawn) (ch:=ch) (fun c h=>?_) (fun c o _ _ h e _=>k c o h e) (fun c o _ _ h e _=>⟨o.slots,k c o h e⟩)
  (fun _ _ _ _ n=>n) (fun c o h e=>⟨o,k c o h e⟩) (fun _ _ e=>e) (fun _ _ _ e=>e) (fun c ps e=>⟨#[],by rw[e];simp⟩) (fun m hm=>?_) (fun c u e=>?_) I.bare
 ·obtain⟨a0,a1,a2,a3,a4,a5⟩:=f c h;exact⟨a3,a1,a4,a5⟩
 ·obtain⟨o,es,ep,a,r⟩:=hm;exact⟨o,es,ep,k _ o (fun z=>(f _ z).2.1 rfl) a,r⟩
 ·refine(I.hok c u e).stay (fun d v hd q=>?_) (fun _ q=>q) fun _ _ q=>q;rcases hd with z|z
  ·rw[z]at q ⊢;exact k c v (N c u e) q
  ·exact k d v (N d _ z) q
theorem Inv.turnNl{T:ad}{o':HO}(I:Inv X pins σ H s)(f:∀b∈ch,ze9 X pins H b)(k:∀c o,c∉ch->s.heap.get? c=aa o->h'.get? c=aa o)(a:s.heap.objs.size<=T)(new:ObjOk X.prog X.w (upd H T o') h' T o'):Inv X pins σ (upd H T o') { s with heap:=h',toks:=t' }:=by
 have J:Inv X pins σ H { s with heap:=h',toks:=t' }:=I.turnN f k;have hn:H T=none:=I.hok.fresh a;have N:∀c o,s.heap.get? c=aa o->c≠T:=fun c o q=>ym (yB (yi q) a);refine I.step (g':=s.gens) (d':=s.drawn) (ch:=ch) (fun c h=>?_) (fun c o _ _ h e _=>k c o h e) (fun c o _ _ h e _=>⟨o.slots,k c o h e⟩)
  (fun c o _ q n=>by rw[zao (N c o q)];exact n) (fun c o h e=>⟨o,k c o h e⟩) (fun c xs e=>by rw[zao (zau e hn)];exact e) (fun c u xs e=>by rw[zao (zau e hn)];exact e)
  (fun c ps e=>⟨#[],by rw[zao (zau e hn),e];simp⟩) (fun m hm=>?_) (zeW J.hok hn new) I.bare
 ·obtain⟨a0,a1,a2,a3,a4,a5⟩:=f c h;exact⟨a3,a1,a4,a5⟩
 ·obtain⟨o,es,ep,d,r⟩:=hm;exact⟨o,es,ep,k _ o (fun z=>(f _ z).2.1 rfl) d,r⟩
end L2
namespace PySem
open Sem (wp)
open Builtin
theorem zkd(a:Int)(t:Tok)(l:ad)(items:Array af)(n:Nat)(dd:Option ad)(sl:Array (Option af)) : Meets (aO.«int.__rmul__» ⟨[.int a t,.ref l],[]⟩) (fun _ R s=>s.heap.get? l=aa ⟨.type "tuple", dd,.seq items n,sl⟩/\R (.ok (.ret .notImplemented)) s) :=
 .of_wp fun prog w A R s h=>by
  obtain⟨hp,g,d,tk,os⟩:=s;obtain⟨hl,h⟩:=h
  wp_walk
  exact⟨_,rfl,h⟩
theorem zf6:fillsNumberSlot (yat "tuple") "mul" = pure ag:=PySem.fillsNumberSlot_seq yb2.lookup (by first | rfl | decide) F.slot_tuple_rmul.lookup (by first | rfl | decide)
theorem zjC:seqRepeat? (yat "tuple")=pure (aa (Value.builtin "tuple.__mul__")):=by
 unfold seqRepeat?;have h1:seqSlot? (yat "tuple") (yH "__mul__")=_:=ydC yb2.lookup (by first | rfl | decide);have h:seqSlot? (yat "tuple") (yH "__rmul__")=_:=ydC F.slot_tuple_rmul.lookup (by first | rfl | decide);rw[h1,h];rfl
theorem zqJ(l:ad)(v:af)(t:Tok)(n:Nat)(dd:Option ad)(sl:Array (Option af)) : Meets (aO.«tuple.__mul__» ⟨[.ref l,.int 1 t],[]⟩) (fun _ R s=>s.heap.get? l=aa ⟨.type "tuple", dd,.seq #[v] n,sl⟩/\R (.ok (.ret (.ref l))) s) :=
 .of_wp fun prog w A R s h=>by
  obtain⟨hp,g,d,tk,os⟩:=s;obtain⟨hl,h⟩:=h;unfold aO.«tuple.__mul__»
  wp_walk
  exact⟨_,rfl,h⟩
theorem zf0(v:af):∀(n:Nat)(a:Array af),ya5 (fun x1 x2=>x1++x2) a (yd n #[v])=a++(yd n v).toArray
 |0,a=>by simp|n+1,a=>by
  rw[y7,yaT,zf0 v n,y7];apply ycM;simp
theorem zmJ(v:af)(n:Nat):ya5 (fun x1 x2=>x1++x2) #[] (yd n #[v])=(yd n v).toArray:=by rw[zf0];simp
theorem zqI(l:ad)(v:af)(x:Int)(t:Tok)(n:Nat)(dd:Option ad)(sl:Array (Option af))(c:2<=x)(H:x<=1000) : Meets (aO.«tuple.__mul__» ⟨[.ref l,.int x t],[]⟩) (fun _ R s=>s.heap.get? l=aa ⟨.type "tuple", dd,.seq #[v] n,sl⟩∧R (.ok (.ret (.ref s.heap.objs.size))) { s with heap:=s.heap.push { cls := .type "tuple", data := .seq (ya5 (fun x1 x2=>x1++x2) #[] (yd x.toNat #[v])) } }) :=
 .of_wp fun prog w A R s h=>by
  obtain⟨hp,g,d,tk,os⟩:=s;obtain⟨hl,h⟩:=h;have b:(decide (x < -2^63)||decide (x ≥ 2^63))=ag:=by simp;omega
  have a:((#[v]:Array af).isEmpty||x==1)=ag:=by simp;omega
  have E:(decide (x<=0)||(#[v]:Array af).isEmpty)=ag:=by simp;omega
  have e : ¬ (((#[v]:Array af).size:Int)*x>(2^63-1)/8):=by simp;omega
  have e5:ycN (((#[v]:Array af).size:Int)*x)=ag:=by
   unfold ycN;have:(sizeLine:Int)=16777216:=by decide
   rw[this];simp;omega
  unfold aO.«tuple.__mul__»
  wp_walk
  rw[b,if_neg yu];refine aj (m:=ycz _) (aj (a9 hl rfl (av ?_)));show wpAny _ _ (if ((#[v]:Array af).isEmpty||x==1)=ac then _ else _) _ _ _;rw[a,if_neg yu];show wpAny _ _ (if (decide (x<=0)||(#[v]:Array af).isEmpty)=ac then _ else _) _ _ _;rw[E,if_neg yu];show wpAny _ _ (if (((#[v]:Array af).size:Int)*x>(2^63-1)/8) then _ else _) _ _ _;rw[if_neg e];show wpAny _ _ (if ycN (((#[v]:Array af).size:Int)*x)=ac then _ else _) _ _ _;rw[e5,if_neg yu];refine aj (m:=ybk _) (aR (av ⟨_,rfl,h⟩) ?_);rw[zmJ];show (yd x.toNat v).toArray.size<=sizeLine;rw[yp,ya2];have:sizeLine=16777216:=by decide
  omega
end PySem
namespace L2
open PySem PySem.Spec PyProof.Rows
section
variable{X:Cx}
theorem zl6{v:V}{u:af}(r:RelV v u):∀n:Nat,Vals (yd n v) (yd n u)
 |0=>.nil|n+1=>.cons r (zl6 r n)
def tPar3(i j k:Nat)(t:TA):TS:=fun D σ H=>t σ H fun vs H1=>∃u v w,vs=[u,v,w]/\D.nx (((σ.set i (aa u)).set j (aa v)).set k (aa w)) H1
theorem zti{i j k:Nat}{x y z:ae}{a b c:ak}{T:TA}{f py P pt pos:aw} {kt k2 pt2} (W:X.calm=ac) (t:X.N.Nodup) (hi:X.N[i]?=aa x) (V:X.N[j]?=aa y) (S:X.N[k]?=aa z) (n:i≠j) (m:i≠k) (l:j≠k) (C:X.env.scope.names.lookup x=aa .local) (B:X.env.scope.names.lookup y=aa .local) (A:X.env.scope.names.lookup z=aa .local) (ha:PA X [a,b,c] T) (O:bE [.Tuple [.Name x f,.Name y py,.Name z P] kt pt] (.Tuple [a,b,c] k2 pt2) X.env=pure (aa [x,y,z])) (hs:autoParam (bD [.Tuple [.Name x f,.Name y py,.Name z P] kt pt] (.Tuple [a,b,c] k2 pt2) pos.line X.env=pure ag) AutoP.a3._auto_1) : PS X (.Assign [.Tuple [.Name x f,.Name y py,.Name z P] kt pt] (.Tuple [a,b,c] k2 pt2) pos) (tPar3 i j k T):=by
 intro pins s σ H D I h
 rw[exec_Assign_arm]
 refine aj (bp ?_)
 rw[hs]
 refine aj (av ?_)
 rw[if_neg (by decide)]
 refine aj (Tuple_ (thn (ha _ pins s σ H _ I h) ?_))
 rintro us s1 ⟨vs,F,I1,J,Q⟩
 obtain⟨v0,v,w,Y,Q⟩:=Q
 subst Y
 obtain⟨d,U,u,rfl,G,R,r⟩:∃d U u,us=[d,U,u]/\RelV v0 d/\RelV v U/\RelV w u:=by
  cases J with
  |cons M K=>
   cases K with
   |cons p q=>
    cases q with
    |cons N L=>
     cases L
     exact⟨_,_,_,rfl,M,p,N⟩
 refine aR ?_ (by show 3<=sizeLine;decide)
 have I2:Inv X pins σ F { s1 with heap:=s1.heap.push { cls := .type "tuple", data := .seq [d,U,u].toArray } }:=I1.kept (t':=s1.toks) fun b o e=>yf _ e
 rw[O]
 refine aj (av ?_)
 show wpAny (am X.prog X.w) X.A (do rule "assign.swapped-stores"; let items <- unpackItems (.ref s1.heap.objs.size) 3 none;bZ [fun v=>bb X.env z v,fun v=>bb X.env y v,fun v=>bb X.env x v] items.reverse;pure Flow.next) _ _ _
 refine aj (bq (aj (unpackItems_tuple (items := #[d,U,u]) (I.ok.hd W) (IsTup.new s1.heap _) fun h' g=>?_)))
 have I3:=I2.kept (h':=h') (t':=s1.toks) fun b o e=>g b o (ym (yi e)) e
 show wpAny _ _ (bZ [fun v=>bb X.env z v,fun v=>bb X.env y v,fun v=>bb X.env x v] [u,U,d] >>= fun _=>pure Flow.next) _ _ _
 refine aj (bL (b5 (zcB I3 t S (.inl A) r (fun s2 I4=>?_) (.inr A))))
 refine bL (b5 (zcB I4 t V (.inl B) R (fun s3 Z=>?_) (.inr B)))
 refine bL (b5 (zcB Z t hi (.inl C) G (fun s4 E=>cj (av ?_)) (.inr C)))
 rw[ybL _ _ (Ne.symm n),ybL _ _ (Ne.symm m),ybL _ _ (Ne.symm l)]at E
 exact⟨_,F,E,Q⟩
end
end L2
namespace Mth
open PySem PyProof.Rows
theorem zrJ(xs:Array Nat)(a n:Nat)(h:a+n<=xs.size):List.filterMap (fun i=>xs[i]?) ((yw n).map fun k=>a+k)=(xs.toList.drop a).take n:=by
 induction n with
 |zero=>simp|succ n I=>
  rw[ycO,yN,List.filterMap_append,I (by omega),ycH];have h1:a+n<xs.size:=by omega
  simp[h1]
theorem zlJ(u:Option Int)(n:Nat):yU none u 1 n=yU (aa ((0:Nat):Int)) u 1 n:=by
 unfold yU;simp;rw[show min 0 (n:Int)=0 by omega,Int.max_self]
theorem zlK(l:Option Int)(n:Nat):yU l none 1 n=yU l (aa (n:Int)) 1 n:=by
 unfold yU;simp;rw[if_neg (by omega),Int.min_self,show max 0 (n:Int)=n by omega]
theorem slice_mid(z:ae)(a b:Nat)(h1:a<=b)(H:b<=z.cps.size):(Txt.slice z (aa (a:Int)) (aa (b:Int))).cps.toList=(z.cps.toList.drop a).take (b-a):=by
 unfold Txt.slice;have hl:z.length=z.cps.size:=rfl;rw[hl,StrLaws.strSliceIndices_plain h1 H,yg,yaL];split
 ·rename_i h;have c:b-a=z.cps.size:=by simpa using h
  have ha:a=0:=by omega
  subst ha;rw[yb3,yae (by simp;omega)]
 ·exact zrJ z.cps a (b-a) (by omega)
theorem slice_lo(z:ae)(b:Nat)(h:b<=z.cps.size):(Txt.slice z none (aa (b:Int))).cps.toList=z.cps.toList.take b:=by
 have e:Txt.slice z none (aa (b:Int))=Txt.slice z (aa ((0:Nat):Int)) (aa (b:Int)):=by
  unfold Txt.slice;rw[zlJ]
 rw[e,slice_mid z 0 b (yZ _) h];simp
theorem slice_hi(z:ae)(a:Nat)(h:a<=z.cps.size):(Txt.slice z (aa (a:Int)) none).cps.toList=z.cps.toList.drop a:=by
 have e:Txt.slice z (aa (a:Int)) none=Txt.slice z (aa (a:Int)) (aa (z.cps.size:Int)):=by
  unfold Txt.slice;rw[zlK];rfl
 rw[e,slice_mid z a z.cps.size h (yc _),yae (by simp)]
end Mth
namespace L2
open PySem PySem.Spec PyProof.Rows
variable{X:Cx}
theorem zqZ{a:Array af}{n:Nat}(h:ItemsOf (fun i v=>∃t,v=yaD (0+(i:Int)*1) t) a n):Vals ((yw n).map fun i:Nat=>V.int (i:Int)) a.toList:=by
 obtain⟨h1,b⟩:=h;have gen:∀(n k:Nat)(l:List af),l.length=n->(∀j v,l[j]?=aa v->∃t,v=yaD (0+((k+j:Nat):Int)*1) t)->Vals ((ybr k n).map fun i:Nat=>V.int (i:Int)) l:=by
  intro n;induction n with
  |zero=>intro k l hl _;have:l=[]:=ybW.mp hl;subst this;exact .nil|succ n I=>
   intro k l hl H;cases l with
   |nil=>cases hl|cons v l=>
    rw[ycG,yl];refine .cons ?_ (I (k+1) l (by simpa using hl) fun j v e=>?_)
    ·obtain⟨t,rfl⟩:=H 0 v rfl;refine⟨t,?_⟩;simp
    ·have:=H (j+1) v (by simpa using e)
     rwa [show k+(j+1)=k+1+j by omega]at this
 have:=gen n 0 a.toList (by simpa using h1) fun j v e=>by simpa using b j v (by simpa using e)
 rwa [← ydq]at this
theorem zjj(b:X.calm=ac):CallR X (.type "list") (fun xs H Q=>∃(p:ad)(n:Nat),xs=[.ref p]/\H p=aa (.rng 0 (n:Int))/\n<=1000/\∀l,H l=none->Q (.ref l) (upd H l (.lst ((yw n).map fun i:Nat=>V.int (i:Int))))):=by
 intro pins s σ H xs us Q I r h;obtain⟨p,n,rfl,hp,hn,q⟩:=h;obtain⟨u,rfl,R⟩:=zch r;cases R;obtain⟨t,u,v,e⟩:=(show ObjOk X.prog X.w H s.heap p (.rng 0 (n:Int)) from I.hok p _ hp);have hs:yc5 0 (n:Int) 1=n:=by rw[rangeSize_nat];omega
 have f:∀i:Int,0<=i->i<=1000->ydD i=ac:=by
  intro i h0 h1;unfold ydD;simp;omega
 refine call_list_range (I.ok.hd b) e ?_ hs (by omega) fun h' tk a c' kp E it=>?_
 ·unfold Builtin.Range.small;rw[hs,f 0 (by decide) (by decide),f n (by omega) (by omega),f 1 (by decide) (by decide),if_pos (by decide),f ((n:Int)+(1-1)) (by omega) (by omega)];simp
 ·exact⟨.ref s.heap.objs.size,_,I.laid (t':=tk) kp (yc _) (show ObjOk X.prog X.w _ h' _ (.lst _) from ⟨by simp;have:=bf;omega,a.toList,c',zqZ it,by simpa using E⟩),rfl,q _ (I.hok.fresh (yc _))⟩
end L2
namespace PySem
open Sem (wp)
open Builtin
end PySem
namespace L2
open PySem PySem.Spec PyProof.Rows
end L2
namespace MD
open PySem PySem.Spec PyProof.Rows L2
inductive D where
 |non | bl (b:Bool) | int (i:Int) | str (x:ae) | flt (b:UInt64) | byt (b:Array UInt8) | ob (k:Nat) | tup (xs:List D) | lst (xs:List D) | scr (xs:List D)
 |exn (c:ae) (ds:List D)
inductive MO where
 |lst (xs:List D) | dct (kvs:List (L2.Key×D)) | ins (c:ae) (fs:List (ae×D))
 |hid
abbrev Sto:=List MO
abbrev En:=List (Option D)
structure Exc where
 cls:ae
 args:List D
inductive Res(α : Type) where
 |ok (a:α) (m:Sto) | exc (c:Exc) (m:Sto) | bad
def Res.bind{α β : Type}(r:Res α)(k:α -> Sto->Res β):Res β := match r with
 |.ok a m=>k a m|.exc c m=>.exc c m|.bad=>.bad
def Post{α : Type}(r:Res α)(Q:α -> Sto->Prop)(E:Exc->Sto->Prop):Prop:=match r with
 |.ok a m=>Q a m|.exc c m=>E c m|.bad=>False
def TupAt(K:yb)(H:Hp)(a:ad)(xs:List V):Prop :=
 H a=aa (.tup xs)∨∃(o:ar)(its:Array af)(n:Nat),K.lookup a=aa o/\o.cls = .type "tuple" /\ o.dict=none/\o.data = .seq its n/\its.size<=sizeLine/\Vals xs its.toList
variable{K:yb}{H:Hp}{a:ad}{xs:List V}
theorem TupAt.sq(h:TupAt K H a xs):SqT K H a xs:=by
 rcases h with h|⟨o,its,n,h1,e,_,d,c,b⟩
 ·exact .inl (.inl h)
 ·exact .inr ⟨o,its,n,h1,e,d,c,b⟩
def KL(K:yb)(a:ad)(xs:List V):Prop:=∃(o:ar)(its:Array af)(n:Nat),K.lookup a=aa o/\o.cls = .type "list" /\ o.dict=none/\o.data = .seq its n/\its.size<=sizeLine/\Vals xs its.toList
def LstAt(K:yb)(α : List ad)(H:Hp)(a:ad)(xs:List V):Prop:=(a∉α /\ Rd H a (.lst xs))∨KL K a xs
variable{α : List ad}
theorem LstAt.sq(h:LstAt K α H a xs):SqL K H a xs:=by
 rcases h with h|h
 ·exact .inl h.2
 ·exact .inr h
def zsA(C:af)(dd:Option ad)(e:ad):au->Prop:=fun h=>∃o vs,h.get? e=aa o/\o.cls=C/\o.dict=dd/\o.data = .fields vs
def XdAt(H:Hp)(dd:Option ad)(xs:List V):Prop:=(dd=none/\xs=[])∨∃dx x,dd=aa dx/\xs=[x]/\H dx=aa (.xd [("row", x)])
mutual
def Rep(K:yb)(α : List ad)(H:Hp):D->V->Prop
 |.non,v=>v = .non|.bl b,v=>v = .bl b|.int i,v=>v = .int i|.str x,v=>v = .str x|.flt x,v=>v = .flt x|.byt x,v=>v = .byt x|.ob k,v=>∃a,α[k]?=aa a/\v = .ref a|.tup ds,v=>∃a xs,v = .ref a/\TupAt K H a xs/\RepL K α H ds xs|.lst ds,v=>∃a xs,v = .ref a/\a∉α /\ Rd H a (.lst xs)/\RepL K α H ds xs|.scr ds,v=>∃a xs,v = .ref a/\LstAt K α H a xs/\RepL K α H ds xs|.exn c ds,v=>∃a C dd xs,v = .ref a/\yaj K aE c=aa (aa (.ref C))/\H a=aa (.ext (zsA (.ref C) dd a))/\XdAt H dd xs/\RepL K α H ds xs
def RepL(K:yb)(α : List ad)(H:Hp):List D->List V->Prop
 |[],vs=>vs=[]|d::ds,vs=>∃v r,vs=v::r/\Rep K α H d v/\RepL K α H ds r
end
def RepKV(K:yb)(α : List ad)(H:Hp):List (L2.Key×D)->List (L2.Key×V)->Prop
 |[],vs=>vs=[]|d::ds,vs=>∃v r,vs=(d.1,v)::r/\Rep K α H d.2 v/\RepKV K α H ds r
def RepF(K:yb)(α : List ad)(H:Hp):List (ae×D)->List (ae×V)->Prop
 |[],vs=>vs=[]|d::ds,vs=>∃v r,vs=(d.1,v)::r/\Rep K α H d.2 v/\RepF K α H ds r
def MoRep(K:yb)(cl:ae->ad)(α : List ad)(H:Hp)(a:ad):MO->Prop
 |.lst ds=>∃xs,H a=aa (.lst xs)/\RepL K α H ds xs|.dct ds=>∃xs,H a=aa (.dK xs)/\RepKV K α H ds xs|.ins c ds=>∃dx xs,H a=aa (.ins (cl c) dx xs)/\RepF K α H ds xs|.hid=>∃o xs,H a=aa (.frz o (.dK xs))
structure Wd(K:yb)(cl:ae->ad)(α : List ad)(m:Sto)(H:Hp):Prop where
 len:α.length=m.length
 nd:α.Nodup
 at':∀(k:Nat)(a:ad)(o:MO),α[k]?=aa a->m[k]?=aa o->MoRep K cl α H a o
structure Ext(α : List ad)(H:Hp)(α':List ad)(H':Hp):Prop where
 pre:∃β,α'=α ++ β /\ ∀b ∈ β,H b=none
 keep:∀a o,H a=aa o->a∉α -> H' a=aa o
 there:∀a∈α,H' a≠none
 frzs:∀a o u,H a=aa (.frz o u)->H' a=aa (.frz o u)
variable{cl:ae->ad}{α' α2:List ad}{m m':Sto}{H' H2:Hp}{u:HO}{d:D}{v:V}{ds:List D}{vs:List V}{o:MO}{p:ad}
section
theorem Wd.is(W:Wd K cl α m H)(ha:a∈α):(∃xs,H a=aa (.lst xs))∨(∃xs,H a=aa (.dK xs))∨(∃c dx xs,H a=aa (.ins c dx xs))∨∃o xs,H a=aa (.frz o (.dK xs)):=by
 obtain⟨k,b,rfl⟩:=ycP.mp ha;have hm:k<m.length:=by rw[<- W.len];exact b
 have h:=W.at' k α[k] m[k] (by simp[b]) (by simp[hm]);cases e:m[k] with
 |lst ds=>rw[e]at h;obtain⟨xs,h,_⟩:=h;exact .inl ⟨xs,h⟩
 |dct ds=>rw[e]at h;obtain⟨xs,h,_⟩:=h;exact .inr (.inl ⟨xs,h⟩)
 |ins c ds=>rw[e]at h;obtain⟨dx,xs,h,_⟩:=h;exact .inr (.inr (.inl ⟨_,dx,xs,h⟩))
 |hid=>rw[e]at h;obtain⟨o,xs,h⟩:=h;exact .inr (.inr (.inr ⟨o,xs,h⟩))
theorem Wd.has(W:Wd K cl α m H)(ha:a∈α):H a≠none:=by
 rcases W.is ha with⟨_,h⟩|⟨_,h⟩|⟨_,_,_,h⟩|⟨_,_,h⟩ <;> rw[h] <;> exact fun z=>nomatch z
theorem Wd.notup(W:Wd K cl α m H)(h:Rd H a (.tup xs)):a∉α := fun ha=>by
 rcases h with h|⟨o,h⟩ <;> rcases W.is ha with⟨_,e⟩|⟨_,e⟩|⟨_,_,_,e⟩|⟨_,_,e⟩ <;> rw[h]at e <;> cases e
theorem Wd.noext(W:Wd K cl α m H){φ : au->Prop}(h:H a=aa (.ext φ)):a∉α := fun ha=>by
 rcases W.is ha with⟨_,e⟩|⟨_,e⟩|⟨_,_,_,e⟩|⟨_,_,e⟩ <;> rw[h]at e <;> cases e
theorem Wd.noxd(W:Wd K cl α m H){fs:List (ae×V)}(h:H a=aa (.xd fs)):a∉α := fun ha=>by
 rcases W.is ha with⟨_,e⟩|⟨_,e⟩|⟨_,_,_,e⟩|⟨_,_,e⟩ <;> rw[h]at e <;> cases e
theorem Ext.rd(E:Ext α H α' H')(h:Rd H a u)(n:a∉α):Rd H' a u:=by
 rcases h with h|⟨o,h⟩
 ·exact .inl (E.keep a _ h n)
 ·exact .inr ⟨o,E.keep a _ h n⟩
theorem Rd.ne(h:Rd H a u):H a≠none:=by
 rcases h with h|⟨o,h⟩ <;> rw[h] <;> exact fun z=>nomatch z
theorem Ext.sqt(E:Ext α H α' H')(W:Wd K cl α m H)(h:SqT K H a xs):SqT K H' a xs:=by
 rcases h with h|h
 ·exact .inl (E.rd h (W.notup h))
 ·exact .inr h
structure Kp(α : List ad)(H:Hp)(α':List ad)(H':Hp):Prop where
 pre:∃β,α'=α ++ β
 tup:∀a xs,H a=aa (.tup xs)->H' a=aa (.tup xs)
 lst:∀a xs,a∉α -> Rd H a (.lst xs)->a∉α'/\Rd H' a (.lst xs)
 ext:∀a φ,H a=aa (.ext φ)->H' a=aa (.ext φ)
 xd:∀a fs,H a=aa (.xd fs)->H' a=aa (.xd fs)
theorem Ext.kp(E:Ext α H α' H')(W:Wd K cl α m H):Kp α H α' H':=⟨let ⟨β,e,_⟩:=E.pre;⟨β,e⟩,fun a xs h=>E.keep a _ h (W.notup (.inl h)),fun a xs n h=>⟨fun z=>by
  obtain⟨β,rfl,b⟩:=E.pre;rcases yJ.mp z with z|z
  ·exact n z
  ·exact Rd.ne h (b a z),E.rd h n⟩,(fun a φ h=>E.keep a _ h (W.noext h)),(fun a fs h=>E.keep a _ h (W.noxd h))⟩
theorem Kp.xdAt(E:Kp α H α' H'){dd:Option ad}(h:XdAt H dd xs):XdAt H' dd xs:=by
 rcases h with h|⟨dx,x,h1,b,a⟩
 ·exact .inl h
 ·exact .inr ⟨dx,x,h1,b,E.xd _ _ a⟩
theorem Kp.lstAt(E:Kp α H α' H')(h:LstAt K α H a xs):LstAt K α' H' a xs:=by
 rcases h with h|h
 ·exact .inl (E.lst a xs h.1 h.2)
 ·exact .inr h
mutual
theorem Rep.kp(E:Kp α H α' H'):∀{d:D}{v:V},Rep K α H d v->Rep K α' H' d v
 |.non,_,h=>by simpa [Rep] using h|.bl _,_,h=>by simpa [Rep] using h|.int _,_,h=>by simpa [Rep] using h|.str _,_,h=>by simpa [Rep] using h|.flt _,_,h=>by simpa [Rep] using h|.byt _,_,h=>by simpa [Rep] using h|.ob k,_,h=>by
  rw[Rep]at h ⊢;obtain⟨a,h1,h2⟩:=h;obtain⟨β,rfl⟩:=E.pre;exact⟨a,by rw[yI (ye.mp h1).1];exact h1,h2⟩
 |.tup ds,_,h=>by
  rw[Rep]at h ⊢;obtain⟨a,xs,e,h1,h2⟩:=h;refine⟨a,xs,e,?_,RepL.kp E h2⟩;rcases h1 with h1|h1
  ·exact .inl (E.tup a xs h1)
  ·exact .inr h1
 |.lst ds,_,h=>by
  rw[Rep]at h ⊢;obtain⟨a,xs,e,n,h1,h2⟩:=h;exact⟨a,xs,e,(E.lst a xs n h1).1,(E.lst a xs n h1).2,RepL.kp E h2⟩
 |.scr ds,_,h=>by
  rw[Rep]at h ⊢;obtain⟨a,xs,e,h1,h2⟩:=h;exact⟨a,xs,e,E.lstAt h1,RepL.kp E h2⟩
 |.exn c ds,_,h=>by
  rw[Rep]at h ⊢;obtain⟨a,C,dd,xs,e,n,h1,h2,b⟩:=h;exact⟨a,C,dd,xs,e,n,E.ext _ _ h1,E.xdAt h2,RepL.kp E b⟩
theorem RepL.kp(E:Kp α H α' H'):∀{ds:List D}{vs:List V},RepL K α H ds vs->RepL K α' H' ds vs
 |[],_,h=>by rw[RepL]at h ⊢;exact h|_::_,_,h=>by
  rw[RepL]at h ⊢;obtain⟨v,r,e,h1,h2⟩:=h;exact⟨v,r,e,Rep.kp E h1,RepL.kp E h2⟩
end
theorem Rep.mono(W:Wd K cl α m H)(E:Ext α H α' H')(h:Rep K α H d v):Rep K α' H' d v:=h.kp (E.kp W)
theorem RepL.mono(W:Wd K cl α m H)(E:Ext α H α' H')(h:RepL K α H ds vs):RepL K α' H' ds vs:=h.kp (E.kp W)
theorem Ext.refl(W:Wd K cl α m H):Ext α H α H:=⟨⟨[],by simp,fun _ h=>nomatch h⟩,fun _ _ h _=>h,fun _ h=>W.has h,fun _ _ _ h=>h⟩
theorem Ext.trans(a:Ext α H α' H')(b:Ext α' H' α2 H2):Ext α H α2 H2:=by
 obtain⟨β,rfl,f⟩:=a.pre;obtain⟨g,rfl,d⟩:=b.pre;refine⟨⟨β ++ g,by simp,fun c h=>?_⟩,fun x o h n=>b.keep x o (a.keep x o h n) fun z=>?_,fun x h=>b.there x (yau _ h),fun x o u h=>b.frzs x o u (a.frzs x o u h)⟩
 ·rcases yJ.mp h with h|h
  ·exact f c h
  ·cases e:H c with
   |none=>rfl|some o=>
    by_cases hm:c∈α
    ·exact absurd (d c h) (a.there c hm)
    ·have:=a.keep c o e hm;rw[d c h]at this;cases this
 ·rcases yJ.mp z with z|z
  ·exact n z
  ·rw[f x z]at h;cases h
theorem Ext.of_same(W:Wd K cl α m H)(s:Same H H'):Ext α H α H':=by
 refine⟨⟨[],by simp,fun _ h=>nomatch h⟩,fun a o h _=>s a o h,fun a ha z=>?_,fun a o u h=>s a _ h⟩;cases e:H a with
 |none=>exact W.has ha e|some o=>rw[s a o e]at z;cases z
theorem RepKV.kp(E:Kp α H α' H'):∀{ds:List (L2.Key×D)}{vs:List (L2.Key×V)},RepKV K α H ds vs->RepKV K α' H' ds vs
 |[],_,h=>h|_::_,_,⟨v,r,e,h1,h2⟩=>⟨v,r,e,Rep.kp E h1,RepKV.kp E h2⟩
theorem RepF.kp(E:Kp α H α' H'):∀{ds:List (ae×D)}{vs:List (ae×V)},RepF K α H ds vs->RepF K α' H' ds vs
 |[],_,h=>h|_::_,_,⟨v,r,e,h1,h2⟩=>⟨v,r,e,Rep.kp E h1,RepF.kp E h2⟩
theorem RepKV.mono(W:Wd K cl α m H)(E:Ext α H α' H'){ds:List (L2.Key×D)}{vs:List (L2.Key×V)}(h:RepKV K α H ds vs):RepKV K α' H' ds vs:=h.kp (E.kp W)
theorem RepF.mono(W:Wd K cl α m H)(E:Ext α H α' H'){ds:List (ae×D)}{vs:List (ae×V)}(h:RepF K α H ds vs):RepF K α' H' ds vs:=h.kp (E.kp W)
theorem MoRep.kp(E:Kp α H α' H')(s:∀o,H a=aa o->H' a=aa o):∀{o:MO},MoRep K cl α H a o->MoRep K cl α' H' a o
 |.lst _,⟨xs,h1,h2⟩=>⟨xs,s _ h1,h2.kp E⟩|.dct _,⟨xs,h1,h2⟩=>⟨xs,s _ h1,h2.kp E⟩|.ins _ _,⟨dx,xs,h1,h2⟩=>⟨dx,xs,s _ h1,h2.kp E⟩|.hid,⟨o,xs,h1⟩=>⟨o,xs,s _ h1⟩
theorem MoRep.mono(W:Wd K cl α m H)(E:Ext α H α' H')(s:∀o,H a=aa o->H' a=aa o)(h:MoRep K cl α H a o):MoRep K cl α' H' a o:=h.kp (E.kp W) s
theorem Wd.same(W:Wd K cl α m H)(s:Same H H'):Wd K cl α m H':=⟨W.len,W.nd,fun k a o h1 b=>(W.at' k a o h1 b).mono W (Ext.of_same W s) fun o h=>s a o h⟩
theorem Wd.join(W:Wd K cl α m H)(hn:p∉α)(kp:Kp α H (α ++ [p]) (upd H p u))(h:MoRep K cl (α ++ [p]) (upd H p u) p o):Wd K cl (α ++ [p]) (m++[o]) (upd H p u):=by
 refine⟨by rw[yj,yj,W.len];rfl,?_,fun k a o' h1 c=>?_⟩
 ·rw[ybu];exact⟨W.nd,by simp,fun a ha b g e=>hn (by rw[<- yE.mp g,<- e];exact ha)⟩
 ·by_cases f:k < α.length
  ·rw[yI f]at h1;rw[yI (by rw[<- W.len];exact f)]at c;exact(W.at' k a o' h1 c).kp kp fun o h=>by rw[zao (fun z=>hn (by rw[<- z];exact yM h1))];exact h
  ·have d:k=α.length:=by
    have:=(ye.mp h1).1;rw[yj]at this;have:[p].length=1:=rfl;omega
   subst d;rw[yT (yc _)]at h1;rw[W.len,yT (yc _)]at c;simp at h1 c;subst h1 c;exact h
theorem Wd.new(W:Wd K cl α m H)(hp:H p=none)(h:MoRep K cl (α ++ [p]) (upd H p u) p o):Wd K cl (α ++ [p]) (m++[o]) (upd H p u)/\Ext α H (α ++ [p]) (upd H p u):=by
 have s:Same H (upd H p u):=fun b o e=>by rw[zao (zau e hp)];exact e
 have E:Ext α H (α ++ [p]) (upd H p u):=⟨⟨[p],rfl,fun b c=>by rw[yE.mp c];exact hp⟩,fun a o h _=>s a o h,(Ext.of_same W s).there,fun a o u h=>s a _ h⟩;exact⟨W.join (fun z=>W.has z hp) (E.kp W) h,E⟩
end
theorem ex3{A B C:Type}{P Q R:A->B->C->Prop}{G:Prop}(h:∃a b c,P a b c/\Q a b c/\R a b c)(k:∀a b c,P a b c->Q a b c->R a b c->G):G:=h.elim fun a h=>h.elim fun b h=>h.elim fun c h=>k a b c h.1 h.2.1 h.2.2
abbrev XD:=Exc->List ad->Sto->Hp->Prop
abbrev RD(a : Type) := a -> List ad->Sto->Hp->Prop
variable{τ : Type}
def PQ(K:yb)(cl:ae->ad)(ex:XD)(r:Res τ)(α : List ad)(H:Hp)(R:RD τ):Prop :=
 Post r (fun d m'=>∀α' H',Ext α H α' H'->Wd K cl α' m' H'->R d α' m' H') fun c m'=>∀α' H',Ext α H α' H'->Wd K cl α' m' H'->ex c α' m' H'
structure RepE(K:yb)(α : List ad)(H:Hp)(ρ : En)(σ : L2.St):Prop where
 len:ρ.length=σ.length
 at':∀(i:Nat)(d:D),ρ[i]?=aa (aa d)->∃v,σ[i]?=aa (aa v)/\Rep K α H d v
variable{ex:XD}{i:Nat}{R:RD τ}
section
variable{ρ ρ':En}{σ σ':L2.St}{υ : Type}
theorem RepE.mono(W:Wd K cl α m H)(E:Ext α H α' H')(h:RepE K α H ρ σ):RepE K α' H' ρ σ := ⟨h.len,fun i d e=>let ⟨v,a,b⟩:=h.at' i d e;⟨v,a,b.mono W E⟩⟩
theorem RepE.set(h:RepE K α H ρ σ)(r:Rep K α H d v):RepE K α H (ρ.set i (aa d)) (σ.set i (aa v)):=by
 refine⟨by rw[yad,yad,h.len],fun j e a=>?_⟩;by_cases b:i=j
 ·subst b;have hl:i < ρ.length:=by
   have:=(ye.mp a).1
   rwa [yad]at this
  rw[yaQ hl]at a;cases a;exact⟨v,yaQ (by rw[<- h.len];exact hl),r⟩
 ·rw[yaZ b]at a ⊢;exact h.at' j e a
theorem RepE.more(h:RepE K α H ρ σ)(n:Nat):RepE K α H (ρ ++ yd n none) (σ ++ yd n none):=by
 refine⟨by simp[h.len],fun j e a=>?_⟩;by_cases hl:j < ρ.length
 ·rw[yI hl]at a;rw[yI (by rw[<- h.len];exact hl)];exact h.at' j e a
 ·rw[yT (by omega),yct]at a;split at a <;> cases a
theorem PQ.mono{r:Res τ}{a:RD τ}(E:Ext α H α' H')(h:PQ K cl ex r α H R)(b:∀d α2 m2 H2,Ext α' H' α2 H2->Wd K cl α2 m2 H2->R d α2 m2 H2->a d α2 m2 H2):PQ K cl ex r α' H' a:=by
 cases r with
 |ok d m2=>exact fun α2 H2 e W=>b d α2 m2 H2 e W (h α2 H2 (E.trans e) W)|exc c m2=>exact fun α2 H2 e W=>h α2 H2 (E.trans e) W|bad=>exact h
theorem PQ.bind{r:Res τ}{k : τ -> Sto->Res υ}{R:RD υ}(h:PQ K cl ex (r.bind k) α H R):PQ K cl ex r α H fun d a m1 H1=>PQ K cl ex (k d m1) a H1 R:=by
 cases r with
 |ok d m1=>exact fun a H1 E _=>PQ.mono E h fun _ _ _ _ _ _ q=>q|exc c m1=>exact h|bad=>exact h
theorem PQ.ok{d : τ}(W:Wd K cl α m H)(h:PQ K cl ex (.ok d m) α H R):R d α m H:=h α H (Ext.refl W) W
theorem PQ.okS{d : τ}(W:Wd K cl α m H)(s:Same H H')(h:PQ K cl ex (.ok d m) α H R):R d α m H':=h α H' (Ext.of_same W s) (W.same s)
def tD(K:yb)(cl:ae->ad)(ex:XD)(f:En->Sto->Res D):TE:=fun σ H Q=>∃α ρ m,Wd K cl α m H/\RepE K α H ρ σ /\ PQ K cl ex (f ρ m) α H fun d α' _ H'=>∀v,Rep K α' H' d v->Q v H'
def tDT(K:yb)(cl:ae->ad)(ex:XD)(f:En->Sto->Res Bool):TT:=fun σ H Q=>∃α ρ m,Wd K cl α m H/\RepE K α H ρ σ /\ PQ K cl ex (f ρ m) α H fun d _ _ H'=>Q d H'
def tDA(K:yb)(cl:ae->ad)(ex:XD)(f:En->Sto->Res (List D)):TA:=fun σ H Q=>∃α ρ m,Wd K cl α m H/\RepE K α H ρ σ /\ PQ K cl ex (f ρ m) α H fun d α' _ H'=>∀v,RepL K α' H' d v->Q v H'
theorem tD.use{f:En->Sto->Res D}{k:D->Sto->Res τ}{Q:VK}(W:Wd K cl α m H)(hr:RepE K α H ρ σ)(h:PQ K cl ex ((f ρ m).bind k) α H R)(hQ:∀a m1 H1 d v,Ext α H a H1->Wd K cl a m1 H1->RepE K a H1 ρ σ -> Rep K a H1 d v->PQ K cl ex (k d m1) a H1 R->Q v H1):tD K cl ex f σ H Q :=
 ⟨α,ρ,m,W,hr,PQ.mono (Ext.refl W) h.bind fun d a m1 H1 E w q v r=>hQ a m1 H1 d v E w (hr.mono W E) r q⟩
theorem tDT.use{f:En->Sto->Res Bool}{k:Bool->Sto->Res τ}{Q:Bool->Hp->Prop}(W:Wd K cl α m H)(hr:RepE K α H ρ σ)(h:PQ K cl ex ((f ρ m).bind k) α H R)(hQ:∀a m1 H1 d,Ext α H a H1->Wd K cl a m1 H1->RepE K a H1 ρ σ -> PQ K cl ex (k d m1) a H1 R->Q d H1):tDT K cl ex f σ H Q :=
 ⟨α,ρ,m,W,hr,PQ.mono (Ext.refl W) h.bind fun d a m1 H1 E w q=>hQ a m1 H1 d E w (hr.mono W E) q⟩
theorem tDA.use{f:En->Sto->Res (List D)}{k:List D->Sto->Res τ}{Q:List V->Hp->Prop}(W:Wd K cl α m H)(hr:RepE K α H ρ σ)(h:PQ K cl ex ((f ρ m).bind k) α H R)(hQ:∀a m1 H1 d v,Ext α H a H1->Wd K cl a m1 H1->RepE K a H1 ρ σ -> RepL K a H1 d v->PQ K cl ex (k d m1) a H1 R->Q v H1):tDA K cl ex f σ H Q :=
 ⟨α,ρ,m,W,hr,PQ.mono (Ext.refl W) h.bind fun d a m1 H1 E w q v r=>hQ a m1 H1 d v E w (hr.mono W E) r q⟩
end
section
variable(X:Cx)(cl:ae->ad)(ex:XD)
abbrev EV:=En->Sto->Res D
abbrev TV:=En->Sto->Res Bool
abbrev AV:=En->Sto->Res (List D)
structure QE(e:ak)(f:EV):Prop where
 out:PE X e (tD X.K cl ex f)
structure QT(e:ak)(f:TV):Prop where
 out:PT X e (tDT X.K cl ex f)
structure QW(e:ak)(f:TV):Prop where
 out:PW X e (tDT X.K cl ex f)
structure QA(es:List ak)(f:AV):Prop where
 out:PA X es (tDA X.K cl ex f)
end
variable{X:Cx}{t:TE}
theorem PE.weak{e:ak}{t':TE}(h:PE X e t)(w:∀σ H Q,t' σ H Q->t σ H Q):PE X e t':=fun pins s σ H Q I q=>h pins s σ H Q I (w σ H Q q)
variable{t':TT}
theorem PT.weak{e:ak}{t:TT}(h:PT X e t)(w:∀σ H Q,t' σ H Q->t σ H Q):PT X e t':=fun pins s σ H Q I q=>h pins s σ H Q I (w σ H Q q)
theorem PW.weak{e:ak}{t:TT}(h:PW X e t)(w:∀σ H Q,t' σ H Q->t σ H Q):PW X e t':=fun W pins s σ H Q I q=>h W pins s σ H Q I (w σ H Q q)
theorem PA.weak{e:List ak}{t t':TA}(h:PA X e t)(w:∀σ H Q,t' σ H Q->t σ H Q):PA X e t':=fun p pins s σ H Q I q=>h p pins s σ H Q I (w σ H Q q)
theorem PS.weak{e:ao}{t t':TS}(h:PS X e t)(w:∀D σ H,t' D σ H->t D σ H):PS X e t':=fun pins s σ H D I q=>h pins s σ H D I (w D σ H q)
theorem PSs.weak{e:List ao}{t t':TS}(h:PSs X e t)(w:∀D σ H,t' D σ H->t D σ H):PSs X e t':=fun pins s σ H D I q=>h pins s σ H D I (w D σ H q)
def zad(i:Nat):EV:=fun ρ m=>match ρ[i]? with
 |some (aa d)=>.ok d m|_=>.bad
def eC(d:D):EV:=fun _ m=>.ok d m
def eOp(g:D->D->Sto->Res D)(F f:EV):EV:=fun ρ m=>(F ρ m).bind fun x m1=>(f ρ m1).bind fun y m2=>g x y m2
def eUn(g:D->Sto->Res D)(f:EV):EV:=fun ρ m=>(f ρ m).bind g
def eIf(c:TV)(F f:EV):EV:=fun ρ m=>(c ρ m).bind fun b m1=>if b=ac then F ρ m1 else f ρ m1
def zaj:AV:=fun _ m=>.ok [] m
def zac(f:EV)(fr:AV):AV:=fun ρ m=>(f ρ m).bind fun x m1=>(fr ρ m1).bind fun xs m2=>.ok (x::xs) m2
def eFn(g:List D->Sto->Res D)(f:AV):EV:=fun ρ m=>(f ρ m).bind g
def asB(d:D)(m:Sto):Res Bool:=match d with
 |.bl b=>.ok b m|_=>.bad
def tV(f:EV):TV:=fun ρ m=>(f ρ m).bind asB
def zci(a b:TV):TV:=fun ρ m=>(a ρ m).bind fun c m1=>if c=ac then b ρ m1 else .ok ag m1
def zoc(a b:TV):TV:=fun ρ m=>(a ρ m).bind fun c m1=>if c=ac then .ok ac m1 else b ρ m1
def zf2(a:TV):TV:=fun ρ m=>(a ρ m).bind fun c m1=>.ok (!c) m1
def zst(a b:EV):EV:=fun ρ m=>(a ρ m).bind fun c m1=>(asB c m1).bind fun c m1=>if c=ac then b ρ m1 else .ok (.bl ag) m1
def eOr(a b:EV):EV:=fun ρ m=>(a ρ m).bind fun c m1=>(asB c m1).bind fun c m1=>if c=ac then .ok (.bl ac) m1 else b ρ m1
def eNot(a:EV):EV:=fun ρ m=>(a ρ m).bind fun c m1=>(asB c m1).bind fun c m1=>.ok (.bl (!c)) m1
def OpD(K:yb)(cl:ae->ad)(ex:XD)(r:R2)(g:D->D->Sto->Res D):Prop :=
 ∀(α : List ad)(m:Sto)(H:Hp)(x y:D)(vx vy:V)(Q:VK),Wd K cl α m H->Rep K α H x vx->Rep K α H y vy->PQ K cl ex (g x y m) α H (fun d α' _ H'=>∀v,Rep K α' H' d v->Q v H')->r vx vy H Q
def UnD(K:yb)(cl:ae->ad)(ex:XD)(r:V->Hp->VK->Prop)(g:D->Sto->Res D):Prop :=
 ∀(α : List ad)(m:Sto)(H:Hp)(x:D)(vx:V)(Q:VK),Wd K cl α m H->Rep K α H x vx->PQ K cl ex (g x m) α H (fun d α' _ H'=>∀v,Rep K α' H' d v->Q v H')->r vx H Q
def FnD(K:yb)(cl:ae->ad)(ex:XD)(r:List V->Hp->VK->Prop)(g:List D->Sto->Res D):Prop :=
 ∀(α : List ad)(m:Sto)(H:Hp)(x:List D)(vx:List V)(Q:VK),Wd K cl α m H->RepL K α H x vx->PQ K cl ex (g x m) α H (fun d α' _ H'=>∀v,Rep K α' H' d v->Q v H')->r vx H Q
variable{r:List V->Hp->VK->Prop}{b c:ak}{es:List ak}{fa fb:EV}{ta tb:TV}{pos:aw}{x:ae}{g:D->D->Sto->Res D}{op:CmpOp}
section
variable{a e:ak}{rest:List ak}{fr:AV}
theorem zab(i:Nat)(f:autoParam (X.N[i]?=aa x) AutoP.a3._auto_1)(b:Vis X.env.scope x:=by first | exact yD rfl | exact Or.inr (yD rfl) | exact Or.inr (Or.inr rfl))(hd:autoParam ((x==("__debug__" : ae))=ag) AutoP.a1._auto_1)(a:autoParam ((x==("__classdict__" : ae))=ag) AutoP.a1._auto_1):QE X cl ex (.Name x pos) (zad i) :=
 ⟨PE.weak (pe_var f b hd a) fun σ H Q c=>ex3 c fun α ρ m W hr h=>by
  unfold zad at h;split at h
  ·rename_i d e;obtain⟨v,E,r⟩:=hr.at' i d e;exact⟨v,E,PQ.ok W h v r⟩
  ·exact h.elim⟩
theorem qe_c(h:PE X e (tC v))(r:∀α H,Rep X.K α H d v):QE X cl ex e (eC d) :=
 ⟨PE.weak h fun σ H Q a=>ex3 a fun α ρ m W hr h=>PQ.ok W h v (r α H)⟩
theorem zae{i:Int} {j}:QE X cl ex (.Constant (.int i) j pos) (eC (.int i)):=qe_c pe_int fun α H=>by rw[Rep]
theorem ziL{i:Bool} {j}:QE X cl ex (.Constant (.bool i) j pos) (eC (.bl i)):=qe_c pe_bl fun α H=>by rw[Rep]
theorem zaQ {j}:QE X cl ex (.Constant .none j pos) (eC .non):=qe_c pe_non fun α H=>by rw[Rep]
theorem zap{i:ae} {j}:QE X cl ex (.Constant (.str i) j pos) (eC (.str i)):=qe_c zsa fun α H=>by rw[Rep]
theorem zmc{r:R2}(hd:OpD X.K cl ex r g):∀σ H Q,tD X.K cl ex (eOp g fa fb) σ H Q->tOp r (tD X.K cl ex fa) (tD X.K cl ex fb) σ H Q:=fun σ H Q e=>ex3 e fun α ρ m W hr h=>
 tD.use W hr h fun b m1 k d v l w hr1 c h1=>tD.use w hr1 h1 fun a m2 j D V E i hr2 R f=>hd a m2 j d D v V Q i (c.mono w E) R f
theorem zak{op:Operator}{r:R2}(h:OpR X (aK op) r)(hd:OpD X.K cl ex r g)(ha:QE X cl ex a fa)(H:QE X cl ex b fb):QE X cl ex (.BinOp a op b pos) (eOp g fa fb) :=
 ⟨PE.weak (pe_op h ha.out H.out) (zmc hd)⟩
theorem znd{op:UnaryOp}{r:V->Hp->VK->Prop}{g:D->Sto->Res D}(c:UnR X (unaryOp op) r)(hd:UnD X.K cl ex r g)(ha:QE X cl ex a fa):QE X cl ex (.UnaryOp op a pos) (eUn g fa) :=
 ⟨PE.weak (pe_un c ha.out) fun σ H Q e=>ex3 e fun α ρ m W hr h=>tD.use W hr h fun b m1 f d v E w hr1 R h1=>hd b m1 f d v Q w R h1⟩
theorem qe_ix{r:R2}(h:IxR X r)(hd:OpD X.K cl ex r g)(ha:QE X cl ex a fa)(H:QE X cl ex b fb)(hs:zl1 b):QE X cl ex (.Subscript a b pos) (eOp g fa fb) :=
 ⟨PE.weak (pe_ix h ha.out H.out hs) (zmc hd)⟩
theorem zcQ{r:R2}(h:OpR X (aB op) r)(hd:OpD X.K cl ex r g)(ha:QE X cl ex a fa)(H:QE X cl ex b fb)(hm:bN op b=ag):QE X cl ex (.Compare a [op] [b] pos) (eOp g fa fb) :=
 ⟨PE.weak (ztC h ha.out H.out hm) (zmc hd)⟩
theorem zma(h:∀σ H Q,tD X.K cl ex fa σ H Q->t σ H Q):∀σ H Q,tDT X.K cl ex (tV fa) σ H Q->tTest t σ H Q:=fun σ H Q c=>ex3 c fun α ρ m W hr q=>
 h σ H _ (tD.use W hr q fun a m1 e d v E w hr1 r h1=>by
  cases d with
  |bl b=>rw[Rep]at r;exact⟨b,r,PQ.ok w h1⟩|_=>exact h1.elim)
theorem zat{r:R2}(h:OpR X (aB op) r)(hd:OpD X.K cl ex r g)(ha:QE X cl ex a fa)(H:QE X cl ex b fb)(hm:bN op b=ag):QT X cl ex (.Compare a [op] [b] pos) (tV (eOp g fa fb)) :=
 ⟨PT.weak (ztg h ha.out H.out hm) (zma (zmc hd))⟩
theorem zd8(hq:QE X cl ex e fa)(H:autoParam (∀whole,isTrue e X.env whole=(do let v <- whole;aX e.pos;holding [v] (truthy v))) AutoP.a2._auto_1):QT X cl ex e (tV fa) :=
 ⟨PT.weak (pt_val hq.out H) (zma fun _ _ _ h=>h)⟩
def eChain(g g':D->D->Sto->Res D)(a F f:EV):EV:=fun ρ m=>(a ρ m).bind fun x m1=>(F ρ m1).bind fun y m2=>(g x y m2).bind fun z m3=>(asB z m3).bind fun k m3=>if k=ac then (f ρ m3).bind fun w M=>g' y w M else .ok (.bl ag) m3
theorem zcI(ha:QT X cl ex a ta):QW X cl ex (.BoolOp .And [a] pos) ta:=⟨zte ha.out⟩
theorem zml(ha:QT X cl ex a ta):QW X cl ex (.BoolOp .Or [a] pos) ta:=⟨pw_or1 ha.out⟩
theorem zdv(ha:QT X cl ex a ta)(f:QW X cl ex (.BoolOp .And (b::rest) pos) tb):QW X cl ex (.BoolOp .And (a::b::rest) pos) (zci ta tb) :=
 ⟨PW.weak (pw_and ha.out f.out) fun σ H Q e=>ex3 e fun α ρ m W hr h=>tDT.use W hr h fun c m1 g d E w hr1 h1=>by
  cases d with
  |true=>exact⟨c,ρ,m1,w,hr1,h1⟩|false=>exact PQ.ok w h1⟩
theorem zq3(ha:QT X cl ex a ta)(f:QW X cl ex (.BoolOp .Or (b::rest) pos) tb):QW X cl ex (.BoolOp .Or (a::b::rest) pos) (zoc ta tb) :=
 ⟨PW.weak (pw_or ha.out f.out) fun σ H Q e=>ex3 e fun α ρ m W hr h=>tDT.use W hr h fun c m1 g d E w hr1 h1=>by
  cases d with
  |false=>exact⟨c,ρ,m1,w,hr1,h1⟩|true=>exact PQ.ok w h1⟩
theorem zbS(hq:QW X cl ex a ta):QT X cl ex a ta:=⟨PW.pt hq.out⟩
theorem zhX(ha:QT X cl ex a ta):QT X cl ex (.UnaryOp .Not a pos) (zf2 ta) :=
 ⟨PT.weak (pt_not ha.out) fun σ H Q c=>ex3 c fun α ρ m W hr h=>tDT.use W hr h fun b m1 e d E w hr1 h1=>PQ.ok w h1⟩
theorem zhZ {op} (ha:QE X cl ex a fa):QE X cl ex (.BoolOp op [a] pos) fa:=⟨pe_one ha.out⟩
theorem asB.use{k:Bool->Sto->Res τ}(W:Wd X.K cl α m H)(r:Rep X.K α H d v)(h:PQ X.K cl ex ((asB d m).bind k) α H R):∃b,v = .bl b/\PQ X.K cl ex (k b m) α H R:=by
 cases d with
 |bl b=>rw[Rep]at r;exact⟨b,r,h⟩|_=>exact h.elim
theorem zjH(ha:QE X cl ex a fa)(j:QE X cl ex (.BoolOp .And (b::rest) pos) fb):QE X cl ex (.BoolOp .And (a::b::rest) pos) (zst fa fb) :=
 ⟨PE.weak (pe_and ha.out j.out) fun σ H Q i=>ex3 i fun α ρ m W hr h=>tD.use W hr h fun f m1 k d v E w hr1 r h1=>by
  obtain⟨c,e,g⟩:=asB.use w r h1;refine⟨c,e,?_⟩;cases c with
  |true=>exact⟨f,ρ,m1,w,hr1,g⟩|false=>exact PQ.ok w g _ (by rw[Rep])⟩
theorem qe_or(ha:QE X cl ex a fa)(j:QE X cl ex (.BoolOp .Or (b::rest) pos) fb):QE X cl ex (.BoolOp .Or (a::b::rest) pos) (eOr fa fb) :=
 ⟨PE.weak (pe_or ha.out j.out) fun σ H Q i=>ex3 i fun α ρ m W hr h=>tD.use W hr h fun f m1 k d v E w hr1 r h1=>by
  obtain⟨c,e,g⟩:=asB.use w r h1;refine⟨c,e,?_⟩;cases c with
  |false=>exact⟨f,ρ,m1,w,hr1,g⟩|true=>exact PQ.ok w g _ (by rw[Rep])⟩
theorem qe_not(ha:QE X cl ex a fa):QE X cl ex (.UnaryOp .Not a pos) (eNot fa) :=
 ⟨PE.weak (pe_not ha.out) fun σ H Q f=>ex3 f fun α ρ m W hr h=>tD.use W hr h fun b m1 i d v E w hr1 r h1=>by
  obtain⟨c,e,g⟩:=asB.use w r h1;exact⟨c,e,PQ.ok w g _ (by rw[Rep])⟩⟩
theorem ztb(g:QT X cl ex c ta)(ha:QE X cl ex a fa)(i:QE X cl ex b fb):QE X cl ex (.IfExp c a b pos) (eIf ta fa fb) :=
 ⟨PE.weak (zre g.out ha.out i.out) fun σ H Q f=>ex3 f fun α ρ m W hr h=>tDT.use W hr h fun e m1 j d E w hr1 h1=>by
  cases d with
  |true=>exact⟨e,ρ,m1,w,hr1,h1⟩|false=>exact⟨e,ρ,m1,w,hr1,h1⟩⟩
theorem zaf:QA X cl ex [] zaj:=⟨PA.weak zfL fun σ H Q a=>ex3 a fun α ρ m W hr h=>PQ.ok W h _ (by rw[RepL])⟩
theorem zaa(ha:QE X cl ex e fa)(a:QA X cl ex es fr)(hs:autoParam (ap (e::es) X.env=(ag,eval e X.env)::ap es X.env) AutoP.a3._auto_1):QA X cl ex (e::es) (zac fa fr) :=
 ⟨PA.weak (zcu ha.out a.out hs) fun σ H Q f=>ex3 f fun α ρ m W hr h=>tD.use W hr h fun c m1 k d v l w hr1 R h1=>tDA.use w hr1 h1 fun b m2 j D V E i hr2 r g=>PQ.ok i g _ (by rw[RepL];exact⟨v,V,rfl,R.mono w E,r⟩)⟩
theorem RepL.length{K:yb}{α : List ad}{H:Hp}:∀{ds:List D}{vs:List V},RepL K α H ds vs->ds.length=vs.length
 |[],_,h=>by rw[RepL]at h;rw[h];rfl|_::_,_,h=>by
  rw[RepL]at h;obtain⟨v,r,rfl,_,h2⟩:=h;rw[yt,yt,RepL.length h2]
def zbg:List D->Sto->Res D:=fun ds m=>if ds.length<=sizeLine then .ok (.tup ds) m else .bad
def zcA:List D->Sto->Res D:=fun ds m=>if ds.length<=sizeLine then .ok (.lst ds) m else .bad
def zkg:List D->Sto->Res D:=fun ds m=>if ds.length<=sizeLine then .ok (.ob m.length) (m++[.lst ds]) else .bad
theorem PQ.if{c:Prop}[Decidable c]{r:Res τ}(h:PQ K cl ex (if c then r else .bad) α H R):c/\PQ K cl ex r α H R:=by
 by_cases a:c
 ·rw[if_pos a]at h;exact⟨a,h⟩
 ·rw[if_neg a]at h;exact h.elim
theorem Same.new{o:HO}(hp:H p=none):Same H (upd H p o):=fun b u e=>by rw[zao (zau e hp)];exact e
theorem zaG {x1} (hq:QA X cl ex es fr):QE X cl ex (.Tuple es x1 pos) (eFn zbg fr) :=
 ⟨PE.weak (pe_tup hq.out) fun σ H Q b=>ex3 b fun α ρ m W hr h=>tDA.use W hr h fun a m1 e d v E w hr1 r h1=>by
  obtain⟨hl,c⟩:=h1.if;refine⟨by rw[<- r.length];exact hl,fun p hp=>?_⟩;have s:=Same.new (o := .tup v) hp;exact PQ.okS w s c _ (by rw[Rep];exact⟨p,v,rfl,.inl zaw,r.mono w (Ext.of_same w s)⟩)⟩
theorem Wd.nin(W:Wd K cl α m H)(hp:H p=none):p∉α := fun z=>W.has z hp
theorem zbF(W:Wd K cl α m H)(hp:H p=none)(r:RepL K α H ds vs):Rep K α (upd H p (.lst vs)) (.lst ds) (.ref p):=by
 rw[Rep];exact⟨p,vs,rfl,W.nin hp,.inl zaw,r.mono W (Ext.of_same W (Same.new hp))⟩
theorem zbn(hq:QA X cl ex es fr):QE X cl ex (.List es pos) (eFn zcA fr) :=
 ⟨PE.weak (zsb hq.out) fun σ H Q b=>ex3 b fun α ρ m W hr h=>tDA.use W hr h fun a m1 e d v E w hr1 r h1=>by
  obtain⟨hl,c⟩:=h1.if;exact⟨by rw[<- r.length];exact hl,fun p hp=>PQ.okS w (Same.new hp) c _ (zbF w hp r)⟩⟩
theorem ztY{R:RD D}(W:Wd K cl α m H)(hp:H p=none)(r:RepL K α H ds vs)(h:PQ K cl ex (.ok (.ob m.length) (m++[.lst ds])) α H R):∃α' m',R (.ob m.length) α' m' (upd H p (.lst vs))/\Rep K α' (upd H p (.lst vs)) (.ob m.length) (.ref p):=by
 have E0:Ext α H (α ++ [p]) (upd H p (.lst vs)):=⟨⟨[p],rfl,fun b c=>by rw[yE.mp c];exact hp⟩,fun a o h _=>Same.new hp a o h,(Ext.of_same W (Same.new hp)).there,fun a o u h=>Same.new hp a _ h⟩;obtain⟨w,E⟩:=W.new (u := .lst vs) (o := .lst ds) hp ⟨vs,zaw,r.mono W E0⟩;refine⟨_,_,h _ _ E w,?_⟩;rw[Rep];refine⟨p,?_,rfl⟩;rw[<- W.len,yT (yc _)];simp
theorem ziJ(hq:QA X cl ex es fr):QE X cl ex (.List es pos) (eFn zkg fr) :=
 ⟨PE.weak (zsb hq.out) fun σ H Q b=>ex3 b fun α ρ m W hr h=>tDA.use W hr h fun a m1 e d v E w hr1 R h1=>by
  obtain⟨hl,c⟩:=h1.if;refine⟨by rw[<- R.length];exact hl,fun p hp=>?_⟩;obtain⟨_,_,q,r⟩:=ztY w hp R c;exact q _ r⟩
theorem zr3{g:List D->Sto->Res D}(hd:FnD X.K cl ex r g):∀σ H Q,tD X.K cl ex (eFn g fr) σ H Q->tCB r (tDA X.K cl ex fr) σ H Q:=fun σ H Q b=>ex3 b fun α ρ m W hr h=>
 tDA.use W hr h fun a m1 c d v E w hr1 R h1=>hd a m1 c d v Q w R h1
theorem zaF{id:String}{p:aw}{g:List D->Sto->Res D}(d:CallR X (.builtin id) r)(hd:FnD X.K cl ex r g)(b:Gl X x)(hm:X.mg x=none)(a:ba x=aa (.builtin id))(ha:QA X cl ex (e::es) fr)(hn:autoParam (x ≠ "__name__") AutoP.a1._auto_1)(H:autoParam ((x==("__debug__" : ae))=ag) AutoP.a1._auto_1)(c:autoParam (ap (e::es) X.env=(ag,eval e X.env)::ap es X.env) AutoP.a3._auto_1)(h:autoParam ((az pos (ap es X.env)).any (·.1)=ag) AutoP.a3._auto_1):QE X cl ex (.Call (.Name x p) (e::es) [] pos) (eFn g fr) :=
 ⟨PE.weak (zmq d b hm a ha.out hn H c h) (zr3 hd)⟩
theorem zbk{T:String}{p:aw}{g:List D->Sto->Res D}(d:CallR X (.type T) r)(hd:FnD X.K cl ex r g)(b:Gl X x)(hm:X.mg x=none)(a:ba x=aa (.type T))(ha:QA X cl ex (e::es) fr)(hn:autoParam (x ≠ "__name__") AutoP.a1._auto_1)(H:autoParam ((x==("__debug__" : ae))=ag) AutoP.a1._auto_1)(c:autoParam (ap (e::es) X.env=(ag,eval e X.env)::ap es X.env) AutoP.a3._auto_1)(h:autoParam ((az pos (ap es X.env)).any (·.1)=ag) AutoP.a3._auto_1):QE X cl ex (.Call (.Name x p) (e::es) [] pos) (eFn g fr) :=
 ⟨PE.weak (zgT d b hm a ha.out hn H c h) (zr3 hd)⟩
end
inductive Fl where
 |nx (ρ : En) | rt (d:D) | bk (ρ : En) | ct (ρ : En)
abbrev SV:=En->Sto->Res Fl
def zdi(K:yb)(D:Ends)(f:Fl)(α : List ad)(H:Hp):Prop:=match f with
 |.nx ρ=> ∀σ,RepE K α H ρ σ -> D.nx σ H|.rt d=>∀v,Rep K α H d v->D.rt v H|.bk ρ=> ∀σ,RepE K α H ρ σ -> D.bk σ H|.ct ρ=> ∀σ,RepE K α H ρ σ -> D.ct σ H
def tDS(K:yb)(cl:ae->ad)(ex:XD)(f:SV):TS:=fun D σ H=>∃α ρ m,Wd K cl α m H/\RepE K α H ρ σ /\ PQ K cl ex (f ρ m) α H fun F α' _ H'=>zdi K D F α' H'
abbrev GV:=D->En->Sto->Res En
def tDG(K:yb)(cl:ae->ad)(ex:XD)(f:GV):TG:=fun v σ H Q=>∃α ρ m d,Wd K cl α m H/\RepE K α H ρ σ /\ Rep K α H d v/\PQ K cl ex (f d ρ m) α H fun ρ' α' _ H'=>∀σ',RepE K α' H' ρ' σ'->Q σ' H'
def tDGs(K:yb)(cl:ae->ad)(ex:XD)(f:List D->En->Sto->Res En):TGs:=fun v σ H Q=>∃α ρ m d,Wd K cl α m H/\RepE K α H ρ σ /\ RepL K α H d v/\PQ K cl ex (f d ρ m) α H fun ρ' α' _ H'=>∀σ',RepE K α' H' ρ' σ'->Q σ' H'
def ItD(K:yb)(cl:ae->ad)(α : List ad)(H:Hp)(J:It)(ds:List D):Prop :=
 ∀(i:Nat)(a:List ad)(m1:Sto)(H1:Hp),Ext α H a H1->Wd K cl a m1 H1->(∀d,ds[i]?=aa d->J.go i H1/\∀x H2,J.yld i H1 x H2->Same H1 H2/\Rep K a H2 d x)/\(i=ds.length->J.stop i H1)
def tDI(K:yb)(cl:ae->ad)(ex:XD)(f:AV):TI:=fun σ H R=>∃α ρ m,Wd K cl α m H/\RepE K α H ρ σ /\ PQ K cl ex (f ρ m) α H fun ds α' _ H'=>∀J,ItD K cl α' H' J ds->R J H'
section
variable(X:Cx)(cl:ae->ad)(ex:XD)
structure QS(st:ao)(f:SV):Prop where
 out:PS X st (tDS X.K cl ex f)
structure QSs(st:List ao)(f:SV):Prop where
 out:PSs X st (tDS X.K cl ex f)
structure QG(tg:ak)(f:GV):Prop where
 out:PG X tg (tDG X.K cl ex f)
structure QGs(tg:List ak)(f:List D->En->Sto->Res En):Prop where
 out:PGs X tg (tDGs X.K cl ex f)
structure QI(tg it:ak)(f:AV):Prop where
 out:PI X tg it (tDI X.K cl ex f)
end
theorem PG.weak{e:ak}{t t':TG}(h:PG X e t)(w:∀v σ H Q,t' v σ H Q->t v σ H Q):PG X e t':=fun pins s σ H v u Q I r q=>h pins s σ H v u Q I r (w v σ H Q q)
theorem PGs.weak{e:List ak}{t t':TGs}(h:PGs X e t)(w:∀v σ H Q,t' v σ H Q->t v σ H Q):PGs X e t':=fun pins s σ H v u Q I r q=>h pins s σ H v u Q I r (w v σ H Q q)
variable{tg:ak}
theorem PI.weak{e:ak}{t t':TI}(h:PI X tg e t)(w:∀σ H Q,t' σ H Q->t σ H Q):PI X tg e t':=fun pins s σ H Q I q=>h pins s σ H Q I (w σ H Q q)
def zan(f g:SV):SV:=fun ρ m=>(f ρ m).bind fun fl m1=>match fl with
 |.nx a=>g a m1|fl=>.ok fl m1
def za0:SV:=fun ρ m=>.ok (.nx ρ) m
def sBad:SV:=fun _ _=>.bad
def zaE(f:EV):SV:=fun ρ m=>(f ρ m).bind fun d m1=>.ok (.rt d) m1
def sRetN:SV:=fun _ m=>.ok (.rt .non) m
def zbU(f:EV):SV:=fun ρ m=>(f ρ m).bind fun _ m1=>.ok (.nx ρ) m1
def sIf(c:TV)(f g:SV):SV:=fun ρ m=>(c ρ m).bind fun b m1=>if b=ac then f ρ m1 else g ρ m1
def zaA(f:EV)(g:GV):SV:=fun ρ m=>(f ρ m).bind fun d m1=>(g d ρ m1).bind fun a m2=>.ok (.nx a) m2
def gN(i:Nat):GV:=fun d ρ m=>.ok (ρ.set i (aa d)) m
def zc6:List D->En->Sto->Res En:=fun ds ρ m=>match ds with
 |[]=>.ok ρ m|_::_=>.bad
def zaC(g:GV)(G:List D->En->Sto->Res En):List D->En->Sto->Res En:=fun ds ρ m=>match ds with
 |[]=>.bad|d::r=>(g d ρ m).bind fun a m1=>G r a m1
def gT(n:Nat)(g:List D->En->Sto->Res En):GV:=fun d ρ m=>match d with
 |.tup ds=>if ds.length=n then g ds ρ m else .bad|_=>.bad
def zov(i j:Nat)(f:AV):SV:=fun ρ m=>(f ρ m).bind fun ds m1=>match ds with
 |[x,y]=>.ok (.nx ((ρ.set i (aa x)).set j (aa y))) m1|_=>.bad
def zqW(i j k:Nat)(f:AV):SV:=fun ρ m=>(f ρ m).bind fun ds m1=>match ds with
 |[x,y,z]=>.ok (.nx (((ρ.set i (aa x)).set j (aa y)).set k (aa z))) m1|_=>.bad
def zeP(g:GV)(b:SV):List D->En->Sto->Res Fl
 |[],ρ,m=>.ok (.nx ρ) m|d::r,ρ,m=>(g d ρ m).bind fun c m1=>(b c m1).bind fun f m2=>match f with
  |.nx a=>zeP g b r a m2|.ct a=>zeP g b r a m2|.bk a=>.ok (.nx a) m2|.rt d=>.ok (.rt d) m2
def zgI(it:AV)(g:GV)(b:SV):SV:=fun ρ m=>(it ρ m).bind fun ds m1=>zeP g b ds ρ m1
def zd2(c:TV)(B:SV):Nat->En->Sto->Res Fl
 |0,_,_=>.bad|n+1,ρ,m=>(c ρ m).bind fun b m1=>if b=ac then (B ρ m1).bind fun f m2=>match f with
  |.nx a=>zd2 c B n a m2|.ct a=>zd2 c B n a m2|.bk a=>.ok (.nx a) m2|.rt d=>.ok (.rt d) m2 else .ok (.nx ρ) m1
def zeH(n:Nat)(c:TV)(b:SV):SV:=fun ρ m=>zd2 c b n ρ m
def zfC(g:GV)(c:TV)(el:EV)(ρ : En):List D->Sto->Res (List D)
 |[],m=>.ok [] m|d::r,m=>(g d ρ m).bind fun a m1=>(c a m1).bind fun b m2=>if b=ac then (el a m2).bind fun x m3=>(zfC g c el ρ r m3).bind fun xs M=>.ok (x::xs) M else zfC g c el ρ r m2
def zd3(n:Nat)(it:AV)(g:GV)(c:TV)(el:EV):AV:=fun ρ m=>(it ρ m).bind fun ds m1=>if ds.length<=1000000 then zfC g c el (ρ ++ yd n none) ds m1 else .bad
def zdY:TV:=fun _ m=>.ok ac m
variable{gs:List D->En->Sto->Res En}{n j:Nat}{y:ae}{px:aw}
section
variable{a e it:ak}{fr:AV}{st:ao}{sts sts':List ao}{f g:SV}{gt:GV}
theorem zax:QSs X cl ex [] za0:=⟨PSs.weak zth fun D σ H a=>ex3 a fun α ρ m W hr h=>PQ.ok W h σ hr⟩
theorem zai(hq:QS X cl ex st f):QSs X cl ex [st] f:=⟨zoK hq.out⟩
theorem zag(h1:QS X cl ex st f)(i:QSs X cl ex sts g):QSs X cl ex (st::sts) (zan f g) :=
 ⟨PSs.weak (zq6 h1.out i.out) fun D σ H e=>ex3 e fun α ρ m W hr h=>⟨α,ρ,m,W,hr,PQ.mono (Ext.refl W) h.bind fun F b m1 j E w q=>by
  cases F with
  |nx a=>exact fun c hr1=>⟨b,a,m1,w,hr1,q⟩|rt d=>exact PQ.ok w q|bk a=>exact PQ.ok w q|ct a=>exact PQ.ok w q⟩⟩
theorem zam(c:QE X cl ex e fa):QS X cl ex (.Return (aa e) pos) (zaE fa) :=
 ⟨PS.weak (ps_ret c.out) fun D σ H b=>ex3 b fun α ρ m W hr h=>tD.use W hr h fun a m1 f d v E w hr1 r h1=>PQ.ok w h1 v r⟩
theorem zcs(c:QE X cl ex e fa)(hs:autoParam (aU e none pos.line X.env=pure ag) AutoP.a3._auto_1):QS X cl ex (.Expr e pos) (zbU fa) :=
 ⟨PS.weak (ztj c.out hs) fun D σ H b=>ex3 b fun α ρ m W hr h=>tD.use W hr h fun a m1 f d v E w hr1 r h1=>PQ.ok w h1 _ hr1⟩
theorem zaN(e:QT X cl ex c ta)(ha:QSs X cl ex sts f)(i:QSs X cl ex sts' g):QS X cl ex (.If c sts sts' pos) (sIf ta f g) :=
 ⟨PS.weak (ps_if e.out ha.out i.out) fun D σ H b=>ex3 b fun α ρ m W hr h=>tDT.use W hr h fun a m1 j d E w hr1 h1=>by
  cases d with
  |true=>exact⟨a,ρ,m1,w,hr1,h1⟩|false=>exact⟨a,ρ,m1,w,hr1,h1⟩⟩
theorem zar(c:X.N.Nodup)(hi:X.N[i]?=aa x)(a:Loc X.env.scope x)(b:autoParam (X.fn x=ac∨X.env.scope.names.lookup x=aa .local) AutoP.a0._auto_1):QG X cl ex (.Name x pos) (gN i) :=
 ⟨PG.weak (zoU c hi a b) fun v σ H Q ⟨α,ρ,m,d,W,hr,r,h⟩=>PQ.ok W h _ (hr.set r)⟩
theorem zbV:QGs X cl ex [] zc6:=⟨PGs.weak ztx fun v σ H Q ⟨α,ρ,m,d,W,hr,R,h⟩=>by
 cases d with
 |nil=>rw[RepL]at R;exact⟨R,PQ.ok W h _ hr⟩|cons d r=>exact h.elim⟩
theorem zay(h1:QG X cl ex e gt)(f:QGs X cl ex es gs)(hs:autoParam ((aV (e::es) X.env).map (·.2)=aN e X.env::(aV es X.env).map (·.2)) AutoP.a3._auto_1):QGs X cl ex (e::es) (zaC gt gs) :=
 ⟨PGs.weak (zrc h1.out f.out hs) fun v σ H Q ⟨α,ρ,m,d,W,hr,R,h⟩=>by
  cases d with
  |nil=>exact h.elim|cons d r=>
   rw[RepL]at R;obtain⟨v0,V,rfl,r0,rr⟩:=R;refine⟨v0,V,rfl,α,ρ,m,d,W,hr,r0,PQ.mono (Ext.refl W) (show PQ X.K cl ex ((gt d ρ m).bind fun a m1=>gs r a m1) α H _ from h).bind fun a b m1 g E w q c hr1=>?_⟩;exact⟨b,a,m1,r,w,hr1,rr.mono W E,q⟩⟩
theorem zcP{k:Nat}(f:X.calm=ac)(hq:QGs X cl ex es gs)(hn:autoParam ((aV es X.env).length=n) AutoP.a3._auto_1)(b:autoParam ((aV es X.env).findIdx? (·.1)=none) AutoP.a3._auto_1):QG X cl ex (.Tuple es k pos) (gT n gs) :=
 ⟨PG.weak (pg_tup f hq.out hn b) fun v σ H Q ⟨α,ρ,m,d,W,hr,r,h⟩=>by
  cases d with
  |tup ds=>
   rw[Rep]at r;obtain⟨a,xs,e,h1,c⟩:=r;obtain⟨hl,g⟩:=PQ.if h;exact⟨a,xs,e,h1.sq,by rw[<- c.length];exact hl,α,ρ,m,ds,W,hr,c,g⟩
  |_=>exact h.elim⟩
theorem zog{u:TG}(h1:∀σ H Q,tD X.K cl ex fa σ H Q->t σ H Q)(g:∀v σ H Q,tDG X.K cl ex gt v σ H Q->u v σ H Q):∀D σ H,tDS X.K cl ex (zaA fa gt) D σ H->tAsg t u D σ H:=fun D σ H f=>ex3 f fun α ρ m W hr h=>
 h1 σ H _ (tD.use W hr h fun a m1 j d v l w hr1 r q=>g v σ j _ ⟨a,ρ,m1,d,w,hr1,r,PQ.mono (Ext.refl w) q.bind fun b c m2 k E i e=>PQ.ok i e⟩)
theorem zal{p:aw}(f:X.N.Nodup)(hi:X.N[i]?=aa x)(a:Loc X.env.scope x)(c:QE X cl ex e fa)(hs:autoParam (aU e (aa (.Name x p)) pos.line X.env=pure ag) AutoP.a3._auto_1)(b:autoParam (X.fn x=ac∨X.env.scope.names.lookup x=aa .local) AutoP.a0._auto_1) : QS X cl ex (.Assign [.Name x p] e pos) (zaA fa (gN i)) :=
 ⟨PS.weak (ps_set f hi a c.out hs b) (zog (fun _ _ _ h=>h) fun v σ H Q ⟨α,ρ,m,d,W,hr,r,h⟩=>PQ.ok W h _ (hr.set r))⟩
theorem zhY(b:QE X cl ex e fa)(a:QG X cl ex tg gt)(hs:autoParam (bD [tg] e pos.line X.env=pure ag) AutoP.a3._auto_1)(H:autoParam (bE [tg] e X.env=pure none) AutoP.a3._auto_1)(h1:autoParam ((aV [tg] X.env).map (·.2)=[aN tg X.env]) AutoP.a3._auto_1):QS X cl ex (.Assign [tg] e pos) (zaA fa gt) :=
 ⟨PS.weak (ps_asg b.out a.out hs H h1) (zog (fun _ _ _ h=>h) fun _ _ _ _ h=>h)⟩
theorem zgL{py pt:aw} {kt k2 pt2} (s:X.calm=ac) (t:X.N.Nodup) (hi:X.N[i]?=aa x) (n:X.N[j]?=aa y) (c:i≠j) (k:X.env.scope.names.lookup x=aa .local) (g:X.env.scope.names.lookup y=aa .local) (ha:QA X cl ex [a,b] fr) (l:bE [.Tuple [.Name x px,.Name y py] kt pt] (.Tuple [a,b] k2 pt2) X.env=pure (aa [x,y])) (hs:autoParam (bD [.Tuple [.Name x px,.Name y py] kt pt] (.Tuple [a,b] k2 pt2) pos.line X.env=pure ag) AutoP.a3._auto_1) : QS X cl ex (.Assign [.Tuple [.Name x px,.Name y py] kt pt] (.Tuple [a,b] k2 pt2) pos) (zov i j fr) :=
 ⟨PS.weak (ps_par s t hi n c k g ha.out l hs) fun D σ H o=>ex3 o fun α ρ m W hr h=>tDA.use W hr h fun e m1 z d v E w hr1 r h1=>by
  match d,r,h1 with
  |[p,q],r,h1=>
   rw[RepL]at r;obtain⟨f,u,rfl,a1,r⟩:=r;rw[RepL]at r;obtain⟨V,R,rfl,a2,r⟩:=r;rw[RepL]at r;subst r;exact⟨f,V,rfl,PQ.ok w h1 _ ((hr1.set a1).set a2)⟩
  |[],_,h1=>exact h1.elim|[_],_,h1=>exact h1.elim|_::_::_::_,_,h1=>exact h1.elim⟩
theorem zoI{k:Nat}{z:ae}{py P pt:aw} {kt k2 pt2} (F:X.calm=ac) (G:X.N.Nodup) (hi:X.N[i]?=aa x) (C:X.N[j]?=aa y) (B:X.N[k]?=aa z) (g:i≠j) (f:i≠k) (e:j≠k) (w:X.env.scope.names.lookup x=aa .local) (u:X.env.scope.names.lookup y=aa .local) (t:X.env.scope.names.lookup z=aa .local) (ha:QA X cl ex [a,b,c] fr) (A:bE [.Tuple [.Name x px,.Name y py,.Name z P] kt pt] (.Tuple [a,b,c] k2 pt2) X.env=pure (aa [x,y,z])) (hs:autoParam (bD [.Tuple [.Name x px,.Name y py,.Name z P] kt pt] (.Tuple [a,b,c] k2 pt2) pos.line X.env=pure ag) AutoP.a3._auto_1) : QS X cl ex (.Assign [.Tuple [.Name x px,.Name y py,.Name z P] kt pt] (.Tuple [a,b,c] k2 pt2) pos) (zqW i j k fr) :=
 ⟨PS.weak (zti F G hi C B g f e w u t ha.out A hs) fun D σ H E=>ex3 E fun α ρ m W hr h=>tDA.use W hr h fun l m1 L d v M I hr1 r h1=>by
  match d,r,h1 with
  |[p,q,o],r,h1=>
   rw[RepL]at r;obtain⟨s,K,rfl,a1,r⟩:=r;rw[RepL]at r;obtain⟨n,J,rfl,a2,r⟩:=r;rw[RepL]at r;obtain⟨V,R,rfl,a3,r⟩:=r;rw[RepL]at r;subst r;exact⟨s,n,V,rfl,PQ.ok I h1 _ (((hr1.set a1).set a2).set a3)⟩
  |[],_,h1=>exact h1.elim|[_],_,h1=>exact h1.elim|[_,_],_,h1=>exact h1.elim|_::_::_::_::_,_,h1=>exact h1.elim⟩
theorem zb5(hp:PassesOwn (am X.prog X.w) X.A X.env X.xe)(hc:X.calm=ac)(hi:QI X cl ex tg it fr)(hg:QG X cl ex tg gt)(hb:QSs X cl ex sts f)(hs:autoParam (∀x,bc it X.env x=pure x) AutoP.a2._auto_1):QS X cl ex (.For tg it sts [] pos) (zgI fr gt f) :=
 ⟨PS.weak (ps_for hp hc hi.out hg.out hb.out hs) fun D σ H Z=>ex3 Z fun α ρ m W hr h=>⟨α,ρ,m,W,hr,PQ.mono (Ext.refl W) h.bind fun ds l m1 N E1 L q J hJ=>by
  refine⟨fun i n k r=>n=ds.length-i/\i<=ds.length/\∃a m2 j,Ext l N a r/\Wd X.K cl a m2 r/\RepE X.K a r j k/\PQ X.K cl ex (zeP gt f (ds.drop i) j m2) a r fun F α' _ H'=>zdi X.K D F α' H',
   ⟨ds.length,by simp,yZ _,l,m1,ρ,Ext.refl L,L,hr.mono W E1,q⟩,?_⟩
  rintro i n k r ⟨rfl,hi,a,m2,j,P,w,hr2,u⟩;obtain⟨go,stop⟩:=hJ i a m2 r P w;by_cases o:i<ds.length
  ·have hd:ds[i]?=aa ds[i]:=by simp[o]
   obtain⟨g1,g2⟩:=go _ hd;rw[ybv o,zeP]at u;refine .inr ⟨g1,fun s p=>∃b M g,Ext l N b p/\Wd X.K cl b M p/\RepE X.K b p g s/\PQ X.K cl ex (zeP gt f (ds.drop (i+1)) g M) b p fun F α' _ H'=>zdi X.K D F α' H',
    fun s p ⟨b,M,g,E3,C,hr3,V⟩=>⟨ds.length-(i+1),by omega,rfl,o,b,M,g,E3,C,hr3,V⟩,fun x p y=>?_⟩
   obtain⟨S,T⟩:=g2 x p y;have G:=Ext.of_same w S;have C:=w.same S;refine⟨a,j,m2,ds[i],C,hr2.mono w G,T,PQ.mono G u.bind fun A B Y H4 E4 K U R hr4=>?_⟩;have E:=P.trans (G.trans E4);refine⟨B,A,Y,K,hr4,PQ.mono (Ext.refl K) U.bind fun F t I H5 O v Q=>?_⟩;cases F with
   |nx c=>exact fun z hr5=>⟨t,I,c,E.trans O,v,hr5,Q⟩|ct c=>exact fun z hr5=>⟨t,I,c,E.trans O,v,hr5,Q⟩|bk c=>exact PQ.ok v Q|rt d=>exact PQ.ok v Q
  ·have e:i=ds.length:=by omega
   subst e;rw[ya9 (yc _),zeP]at u;exact .inl ⟨stop rfl,PQ.ok w u k hr2⟩⟩⟩
theorem ziH(hp:PassesOwn (am X.prog X.w) X.A X.env X.xe)(z:QT X cl ex c ta)(A:QSs X cl ex sts f):QS X cl ex (.While c sts [] pos) (zeH n ta f) :=
 ⟨PS.weak (zq7 hp z.out A.out) fun D σ H y=>ex3 y fun α ρ m W hr h=>by
  refine⟨fun k i p=>∃g m2 e,Wd X.K cl g m2 p/\RepE X.K g p e i/\PQ X.K cl ex (zd2 ta f k e m2) g p fun F α' _ H'=>zdi X.K D F α' H',⟨n,α,m,ρ,W,hr,h⟩,?_⟩;rintro k i p ⟨g,m2,e,B,hr2,Q⟩;cases k with
  |zero=>exact Q.elim|succ k=>
   rw[zd2]at Q;refine tDT.use B hr2 Q fun s x E b I t hr3 u=>?_;cases b with
   |false=>exact PQ.ok t u i hr3|true=>
    refine⟨fun j o=>∃α4 m4 ρ4,Wd X.K cl α4 m4 o/\RepE X.K α4 o ρ4 j/\PQ X.K cl ex (zd2 ta f k ρ4 m4) α4 o fun F α' _ H'=>zdi X.K D F α' H',fun j o v=>⟨k,yaS _,v⟩,?_⟩;refine⟨s,e,x,t,hr3,PQ.mono (Ext.refl t) u.bind fun F l M C G w q=>?_⟩;cases F with
    |nx a=>exact fun r hr5=>⟨l,M,a,w,hr5,q⟩|ct a=>exact fun r hr5=>⟨l,M,a,w,hr5,q⟩|bk a=>exact PQ.ok w q|rt d=>exact PQ.ok w q⟩
end
end MD
namespace L2
open PySem PySem.Spec PyProof.Rows
abbrev CQ:=yb->Hp->ad->List V->Prop
structure SeqKd(c:CQ)(IsS:au->ad->Array af->Prop)(IsI:au->ad->ad->Nat->Prop):Prop where
 obj:∀h it l i,IsI h it l i->∃o,h.get? it=aa o/\∀v,o.data ≠ .cell v
 kp:∀(h h':au) it l i,IsI h it l i->(∀o,h.get? it=aa o->h'.get? it=aa o)->IsI h' it l i
 seq:∀(X:Cx)(pins:List (ad×ar))(σ : St)(H:Hp)(s:ai)(l:ad)(xs:List V),Inv X pins σ H s->c X.K H l xs->∃its:List af,Vals xs its/\IsS s.heap l its.toArray
 dr:∀(P:aq)(w:al)(A:ax),A.handled=none->∀(it l:ad),l≠it->∀items:Array af,Draws P w A it [it,l] items.size (fun i v=>items[i]?=aa v) (fun i h=>IsI h it l i/\IsS h l items)
 ne:∀(X:Cx)(pins:List (ad×ar))(σ : St)(H:Hp)(s:ai)(l:ad)(xs:List V)(b:ad),Inv X pins σ H s->c X.K H l xs->ze9 X pins H b->l≠b
 inj:∀(X:Cx)(pins:List (ad×ar))(σ : St)(H:Hp)(s:ai)(l:ad)(xs ys:List V),Inv X pins σ H s->c X.K H l xs->c X.K H l ys->xs=ys
variable{X:Cx}{pins:List (ad×ar)}{σ : St}{H:Hp}{s:ai}{l b:ad}
theorem zqy{o:ar}(I:Inv X pins σ H s)(e:X.K.lookup l=aa o)(f:ze9 X pins H b):l≠b:=fun z=>by
 subst z;have a:X.base.get? l=aa o:=I.mod.kin l o e;rcases f.2.2.2.1 with h|h
 ·exact I.ok.noex l o a h
 ·have h1:=yi a;have c:=I.ok.bsz;exact absurd (yB h1 (yx c h)) (yO _)
theorem rd_ne{u:HO}(h:Rd H l u)(n:H b=none):l≠b:=by
 rcases h with h|⟨o,h⟩
 ·exact zau h n
 ·exact zau h n
theorem sq_lst:SeqKd SqL Heap.IsList Heap.IsListIter where
 obj:=seq_lst.obj
 kp:=seq_lst.kp
 seq:=fun X pins σ H s l xs I e=>by
  obtain⟨its,r,p,_⟩:=I.list e
  exact⟨its,r,p.isList⟩
 dr:=seq_lst.dr
 ne:=fun X pins σ H s l xs b I e f=>by
  rcases e with e|⟨o,_,_,e,_⟩
  ·exact rd_ne e f.1
  ·exact zqy I e f
 inj:=fun X pins σ H s l xs ys I=>I.list_inj
theorem sq_tup:SeqKd SqT Heap.IsTuple ydv where
 obj:=seq_tup.obj
 kp:=seq_tup.kp
 seq:=fun X pins σ H s l xs I e=>by
  obtain⟨its,r,p,_⟩:=I.tuple e
  exact⟨its,r,p⟩
 dr:=seq_tup.dr
 ne:=fun X pins σ H s l xs b I e f=>by
  rcases e with e|⟨o,_,_,e,_⟩
  ·exact rd_ne e f.1
  ·exact zqy I e f
 inj:=fun X pins σ H s l xs ys I=>I.tuple_inj
def IteQ(c:CQ)(K:yb)(l:ad):It :=
 ⟨fun i H=>∃xs x,c K H l xs/\xs[i]?=aa x,fun i H x H'=>∃T y,H T=none/\x = .ref T/\(∀xs,c K H l xs->xs[i]?=aa y)/\H'=upd H T (.tup [.int (i:Int),y]),fun i H=>∃xs,c K H l xs/\xs.length=i⟩
variable{c:CQ}{IsS:au->ad->Array af->Prop}{IsI:au->ad->ad->Nat->Prop}{P:aq}{K:yb}{elts:List ak}{kt:Nat}
theorem zm2(S:SeqKd c IsS IsI){w:al}{pt:aw}{e it:ad}(a:e≠it) :
  Turn P w K (.Tuple elts kt pt) (IteQ c K l) [e,it] e (fun i h=>(∃O,IsEnum h e it i O)/\IsI h it l i) where
 mem:=by simp
 obj:=fun i h st b U=>by
  obtain⟨⟨O,d⟩,st⟩:=st
  have q:b=e∨b=it:=by simpa using U
  rcases q with rfl|rfl
  ·exact⟨_,d,fun v z=>by cases z⟩
  ·exact S.obj _ _ _ _ st
 keep:=fun i h h' st k=>⟨let ⟨O,d⟩:=st.1;⟨O,k e (by simp) _ d⟩,S.kp _ _ _ _ _ st.2 fun o q=>k it (by simp) o q⟩
 item:=by
  intro X m C V T i pins s σ H E I n st M
  subst m C V
  obtain⟨xs,y,hl,Z⟩:=M
  obtain⟨its,R,p⟩:=S.seq X pins σ H s l xs I hl
  obtain⟨u,hu,ru⟩:=R.get Z
  have F:=n e (by simp)
  have fi:=n it (by simp)
  have j:l≠e:=S.ne X pins σ H s l xs e I hl F
  have g:l≠it:=S.ne X pins σ H s l xs it I hl fi
  have J:i<its.toArray.size:=by
   have:=ye.mp hu
   simpa using this.1
  obtain⟨⟨O,d⟩,hs⟩:=st
  have r:e<s.heap.objs.size:=yi d
  have L:it<s.heap.objs.size:=by obtain⟨o,q,_⟩:=S.obj _ _ _ _ hs;exact yi q
  refine wpAny_pyNext_enum_itemD (S.dr X.prog X.w X.A.in1 (I.ok.hd T) it l g its.toArray) d ⟨hs,p⟩ J a (by simp[a,Ne.symm j]) fun x h' tk hx G D hT hsz hk=>?_
  refine⟨.ref s.heap.objs.size,rfl,wpAny_letOwnedTupleGo_enum (s:={ s with heap:=h',toks:=tk+1 }) G fun h2 N f=>?_⟩
  have B:x=u:=by
   have h1:its[i]?=aa x:=by simpa using hx
   rw[hu]at h1
   exact(yG h1).symm
  subst B
  have t:h2.get? s.heap.objs.size=aa { cls := .type "tuple", data := .seq #[.int i tk,x] }:=(f.2 _ (yai r)).trans hT
  have new:ObjOk X.prog X.w (upd H s.heap.objs.size (.tup [.int (i:Int),y])) h2 s.heap.objs.size (.tup [.int (i:Int),y]):=⟨(by show 2<=sizeLine;decide),[.int i tk,x],.cons ⟨tk,rfl⟩ (.cons ru .nil),⟨_,t,rfl,_,rfl⟩,_,t,rfl⟩
  refine⟨.ref s.heap.objs.size,_,I.turn2l F fi (fun c o c1 Y q=>(f.2 c c1).trans (hk c o c1 Y q)) (yc _) new,rfl,⟨s.heap.objs.size,y,I.hok.fresh (yc _),rfl,fun us h=>by rw[S.inj X pins σ H s l us xs I h hl];exact Z,rfl⟩,⟨⟨x,by simpa using N⟩,S.kp _ _ _ _ _ D.1 fun o q=>(f.2 it (Ne.symm a)).trans q⟩,fun b U=>?_⟩
  have q:b=e∨b=it:=by simpa using U
  rcases q with rfl|rfl
  ·rw[zao (ym r)];exact F.1
  ·rw[zao (ym L)];exact fi.1
 done:=by
  intro X m C V T i pins s σ H E I n st M
  subst m C V
  obtain⟨xs,hl,hn⟩:=M
  obtain⟨its,R,p⟩:=S.seq X pins σ H s l xs I hl
  have F:=n e (by simp)
  have fi:=n it (by simp)
  have j:l≠e:=S.ne X pins σ H s l xs e I hl F
  have g:l≠it:=S.ne X pins σ H s l xs it I hl fi
  have hi:i=its.toArray.size:=by rw[<- hn,R.length];simp
  subst hi
  have W:=WalksT.enumerateD (S.dr X.prog X.w X.A.in1 (I.ok.hd T) it l g its.toArray) e a (by simp[a,Ne.symm j]) (by simp)
  exact W.done s _ _ ⟨st.1,st.2,p⟩ fun h' tk kk=>⟨rfl,I.turn2 F fi fun c o c1 Y q=>kk c o (by simp[c1,Y]) q⟩
 self:=fun A i s Q E st q=>by
  obtain⟨⟨O,d⟩,_⟩:=st
  exact cu d q
def zsj(c:CQ)(K:yb)(te:TE):TI:=fun σ H R=>te σ H fun x H1=>∃l xs,[x]=[V.ref l]/\c K H1 l xs/\R (IteQ c K l) H1
variable{p pos:aw}{R:It->Hp->Prop}{h':au}
section
variable{pt:aw}{e:ak}{te:TE}
theorem zkx(S:SeqKd c IsS IsI)(I:Inv X pins σ H s)(h:IsEnum h' (s.heap.objs.size+1) s.heap.objs.size 0 .none)(hi:IsI h' s.heap.objs.size l 0)(k:∀b o,s.heap.get? b=aa o->h'.get? b=aa o)(q:R (IteQ c X.K l) H) : PIE X pins σ (.Tuple elts kt pt) R (.ref (s.heap.objs.size+1)) { s with heap:=h' }:=by
 refine⟨s.heap.objs.size+1,[s.heap.objs.size+1,s.heap.objs.size],_,_,H,rfl,I.kept (t':=s.toks) k,zm2 S (yai (yaS _)),⟨⟨.none,h⟩,hi⟩,fun b a=>?_,q⟩;have e:b=s.heap.objs.size+1∨b=s.heap.objs.size:=by simpa using a
 rcases e with rfl|rfl
 ·exact I.fpOk (ya1 _) (I.hok.fresh (ya1 _))
 ·exact I.fpOk (yc _) (I.hok.fresh (yc _))
theorem zoT(f:Gl X "enumerate")(hm:X.mg "enumerate" = none)(g:PE X e te)(hs:autoParam (ap [e] X.env=[(ag,eval e X.env)]) AutoP.a3._auto_1):PI X (.Tuple elts kt pt) (.Call (.Name "enumerate" p) [e] [] pos) (zsj SqL X.K te):=by
 intro pins s σ H R I h;refine Call_ (zeR I f hm boot_enumerate (PyProof.Rows.callWith_type1 (thn (zcu g zfL hs pos pins s σ H (fun z b=>∃l xs,z=[V.ref l]/\SqL X.K b l xs/\R (IteQ SqL X.K l) b) I h) fun us s1 ⟨vs,b,i,d,Q⟩=>?_) hs rfl));obtain⟨l,xs,rfl,hl,q⟩:=Q;obtain⟨u,rfl,r⟩:=zch d;cases r;obtain⟨its,j,pl⟩:=sq_lst.seq X pins σ b s1 l xs i hl;exact call_enumerate_list pl fun h' a c _ k=>cu a (zkx sq_lst i a c k q)
theorem zoS(f:Gl X "enumerate")(hm:X.mg "enumerate" = none)(g:PE X e te)(hs:autoParam (ap [e] X.env=[(ag,eval e X.env)]) AutoP.a3._auto_1):PI X (.Tuple elts kt pt) (.Call (.Name "enumerate" p) [e] [] pos) (zsj SqT X.K te):=by
 intro pins s σ H R I h;refine Call_ (zeR I f hm boot_enumerate (PyProof.Rows.callWith_type1 (thn (zcu g zfL hs pos pins s σ H (fun z b=>∃l xs,z=[V.ref l]/\SqT X.K b l xs/\R (IteQ SqT X.K l) b) I h) fun us s1 ⟨vs,b,i,d,Q⟩=>?_) hs rfl));obtain⟨l,xs,rfl,hl,q⟩:=Q;obtain⟨u,rfl,r⟩:=zch d;cases r;obtain⟨its,j,pl⟩:=sq_tup.seq X pins σ b s1 l xs i hl;exact ze7 pl fun h' a c k=>cu a (zkx sq_tup i a c k q)
end
def znX(c1 c:CQ)(K:yb)(l1 l2:ad):It :=
 ⟨fun i H=>∃xs ys x y,c1 K H l1 xs/\c K H l2 ys/\xs[i]?=aa x/\ys[i]?=aa y,fun i H v H'=>∃T x y,H T=none/\v = .ref T/\(∀xs,c1 K H l1 xs->xs[i]?=aa x)/\(∀ys,c K H l2 ys->ys[i]?=aa y)/\H'=upd H T (.tup [x,y]),fun i H=>∃xs,c1 K H l1 xs/\xs.length=i⟩
variable{c1 c2:CQ}{IsS1 IsS2:au->ad->Array af->Prop}{IsI1 IsI2:au->ad->ad->Nat->Prop}{l2:ad}
theorem zn6(S:SeqKd c1 IsS1 IsI1)(m:SeqKd c2 IsS2 IsI2){w:al}{pt:aw}{z TI TO i1 f l1:ad}(N:TO≠z)(B:TI≠z)(n:i1≠z)(C:f≠z)(nTT:TI≠TO)(n1I:TI≠i1)(n2I:TI≠f)(L:i1≠TO)(J:f≠TO)(M:i1≠f) :
  Turn P w K (.Tuple elts kt pt) (znX c1 c2 K l1 l2) [z,TI,TO,i1,f] z (fun i h=>aP h z TI TO .none/\aD h TI (.ref i1) (.ref f)/\(∃a b,aD h TO a b)/\IsI1 h i1 l1 i/\IsI2 h f l2 i) where
 mem:=by simp
 obj:=fun i h st b j=>by
  obtain⟨h1,r,⟨a,c,u⟩,t,F⟩:=st
  simp only[yn,yF,or_false]at j
  rcases j with rfl|rfl|rfl|rfl|rfl
  ·exact⟨_,h1,fun v z=>by cases z⟩
  ·exact⟨_,r,fun v z=>by cases z⟩
  ·exact⟨_,u,fun v z=>by cases z⟩
  ·exact S.obj _ _ _ _ t
  ·exact m.obj _ _ _ _ F
 keep:=fun i h h' st k=>by
  obtain⟨h1,r,⟨a,c,u⟩,t,F⟩:=st
  exact⟨k _ (by simp) _ h1,k _ (by simp) _ r,⟨a,c,k _ (by simp) _ u⟩,S.kp _ _ _ _ _ t fun o q=>k _ (by simp) o q,m.kp _ _ _ _ _ F fun o q=>k _ (by simp) o q⟩
 item:=by
  intro X D hw hK e i pins s σ H E I p st hg
  subst D hw hK
  obtain⟨xs,ys,x,y,hl1,hl2,hx,hy⟩:=hg
  obtain⟨d,R,p1⟩:=S.seq X pins σ H s l1 xs I hl1
  obtain⟨l,rv2,p2⟩:=m.seq X pins σ H s l2 ys I hl2
  obtain⟨u1,U,ru1⟩:=R.get hx
  obtain⟨u2,T,ru2⟩:=rv2.get hy
  have fz:=p z (by simp)
  have fT:=p TO (by simp)
  have f1:=p i1 (by simp)
  have f2:=p f (by simp)
  have W:i<d.toArray.size:=by
   have:=ye.mp U
   simpa using this.1
  have V:i<l.toArray.size:=by
   have:=ye.mp T
   simpa using this.1
  obtain⟨h1,r,⟨a,c,u⟩,t,F⟩:=st
  have a1:=S.ne X pins σ H s l1 xs z I hl1 fz
  have a2:=S.ne X pins σ H s l1 xs TO I hl1 fT
  have a3:=S.ne X pins σ H s l1 xs i1 I hl1 f1
  have a4:=S.ne X pins σ H s l1 xs f I hl1 f2
  have b1:=m.ne X pins σ H s l2 ys z I hl2 fz
  have b2:=m.ne X pins σ H s l2 ys TO I hl2 fT
  have b3:=m.ne X pins σ H s l2 ys i1 I hl2 f1
  have b4:=m.ne X pins σ H s l2 ys f I hl2 f2
  refine zdj (S.dr X.prog X.w X.A.in1 (I.ok.hd e) i1 l1 a3 d.toArray) (m.dr X.prog X.w X.A.in1 (I.ok.hd e) f l2 b4 l.toArray) h1 r u ⟨t,p1⟩ ⟨F,p2⟩ W V N B n C L J
   (by simp[Ne.symm n,Ne.symm a1]) (by simp[Ne.symm L,Ne.symm a2]) (by simp[Ne.symm M,Ne.symm a4]) (by simp[Ne.symm C,Ne.symm b1]) (by simp[Ne.symm J,Ne.symm b2]) (by simp[M,Ne.symm b3]) fun v1 Z h' tk e1 e2 q1 q2 q3 q4 q5 q6 q7=>?_
  refine⟨.ref s.heap.objs.size,rfl,wpAny_letOwnedTupleGo_zip (s:={ s with heap:=h',toks:=tk }) q1 fun g r1 G=>?_⟩
  have hv1:v1=u1:=by
   have h1:d[i]?=aa v1:=by simpa using e1
   rw[U]at h1
   exact(yG h1).symm
  have hv2:Z=u2:=by
   have h1:l[i]?=aa Z:=by simpa using e2
   rw[T]at h1
   exact(yG h1).symm
  subst hv1 hv2
  have O:z<s.heap.objs.size:=yi h1
  have Y:g.get? s.heap.objs.size=aa { cls := .type "tuple", data := .seq #[v1,Z] }:=(G.2 _ (yai O)).trans q5
  have new:ObjOk X.prog X.w (upd H s.heap.objs.size (.tup [x,y])) g s.heap.objs.size (.tup [x,y]):=⟨(by show 2<=sizeLine;decide),[v1,Z],.cons ru1 (.cons ru2 .nil),⟨_,Y,rfl,_,rfl⟩,_,Y,rfl⟩
  refine⟨.ref s.heap.objs.size,_,I.turnNl (ch:=[z,TO,i1,f]) (fun b j=>p b ?_) (fun c o e q=>(G.2 c ?_).trans (q7 c o ?_ ?_ ?_ ?_ q)) (yc _) new,rfl,⟨s.heap.objs.size,x,y,I.hok.fresh (yc _),rfl,(fun us h=>by rw[S.inj X pins σ H s l1 us xs I h hl1];exact hx),(fun us h=>by rw[m.inj X pins σ H s l2 us ys I h hl2];exact hy),rfl⟩,⟨r1,(G.2 _ B).trans (q7 _ _ B nTT n1I n2I r),⟨_,_,(G.2 _ N).trans q2⟩,S.kp _ _ _ _ _ q3.1 fun o q=>(G.2 _ n).trans q,m.kp _ _ _ _ _ q4.1 fun o q=>(G.2 _ C).trans q⟩,fun b j=>?_⟩
  ·simp only[yn,yF,or_false]at j ⊢
   rcases j with h|h|h|h <;> simp[h]
  ·exact fun z=>e (by simp[z])
  ·exact fun z=>e (by simp[z])
  ·exact fun z=>e (by simp[z])
  ·exact fun z=>e (by simp[z])
  ·exact fun z=>e (by simp[z])
  ·have fb:=p b j
   have lt:b<s.heap.objs.size:=by
    simp only[yn,yF,or_false]at j
    rcases j with rfl|rfl|rfl|rfl|rfl
    ·exact O
    ·exact yi r
    ·exact yi u
    ·obtain⟨o,q,_⟩:=S.obj _ _ _ _ t;exact yi q
    ·obtain⟨o,q,_⟩:=m.obj _ _ _ _ F;exact yi q
   rw[zao (ym lt)]
   exact fb.1
 done:=by
  intro X D hw hK e i pins s σ H E I p st hg
  subst D hw hK
  obtain⟨xs,hl1,hn⟩:=hg
  obtain⟨d,R,p1⟩:=S.seq X pins σ H s l1 xs I hl1
  have fz:=p z (by simp)
  have f1:=p i1 (by simp)
  obtain⟨h1,r,⟨a,c,u⟩,t,F⟩:=st
  have a1:=S.ne X pins σ H s l1 xs z I hl1 fz
  have a3:=S.ne X pins σ H s l1 xs i1 I hl1 f1
  have hi:i=d.toArray.size:=by rw[<- hn,R.length];simp
  subst hi
  refine zdl (S.dr X.prog X.w X.A.in1 (I.ok.hd e) i1 l1 a3 d.toArray) h1 r u ⟨t,p1⟩ N n (by simp[Ne.symm n,Ne.symm a1]) fun h' k=>⟨rfl,I.turnN (t':=s.toks) (ch:=[z,TO,i1,f]) (fun b j=>p b ?_) fun c o e q=>k c o (fun z=>e (by simp[z])) (fun z=>e (by simp[z])) (fun z=>e (by simp[z])) (fun z=>e (by simp[z])) q⟩
  simp only[yn,yF,or_false]at j ⊢
  rcases j with h|h|h|h <;> simp[h]
 self:=fun A i s Q E st q=>cv st.1 q
def iZipQ(c1 c:CQ)(K:yb)(T t:TE):TI:=fun σ H R=>T σ H fun x H1=>t σ H1 fun y H2=>∃l1 l2 xs ys,[x,y]=[V.ref l1,V.ref l2]/\c1 K H2 l1 xs/\c K H2 l2 ys/\R (znX c1 c K l1 l2) H2
section
variable{pt:aw}{e1 e2:ak}{te1 te2:TE}
theorem zl3(s:SeqKd c1 IsS1 IsI1)(S:SeqKd c2 IsS2 IsI2){H:Hp}{s1:ai}{l1:ad}(I:Inv X pins σ H s1)(a1:aP h' (s1.heap.objs.size+4) (s1.heap.objs.size+2) (s1.heap.objs.size+3) .none)(a2:aD h' (s1.heap.objs.size+2) (.ref s1.heap.objs.size) (.ref (s1.heap.objs.size+1)))(a3:aD h' (s1.heap.objs.size+3) .none .none)(a4:IsI1 h' s1.heap.objs.size l1 0)(a5:IsI2 h' (s1.heap.objs.size+1) l2 0)(k:∀b o,s1.heap.get? b=aa o->h'.get? b=aa o)(q:R (znX c1 c2 X.K l1 l2) H) : PIE X pins σ (.Tuple elts kt pt) R (.ref (s1.heap.objs.size+4)) { s1 with heap:=h' }:=by
 have n:∀i j:Nat,i≠j->s1.heap.objs.size+i≠s1.heap.objs.size+j:=fun i j h e=>h (by exact Nat.add_left_cancel e);refine⟨s1.heap.objs.size+4,[s1.heap.objs.size+4,s1.heap.objs.size+2,s1.heap.objs.size+3,s1.heap.objs.size,s1.heap.objs.size+1],_,_,H,rfl,I.kept (t':=s1.toks) k,zn6 s S (n 3 4 (by decide)) (n 2 4 (by decide)) (n 0 4 (by decide)) (n 1 4 (by decide)) (n 2 3 (by decide)) (n 2 0 (by decide)) (n 2 1 (by decide)) (n 0 3 (by decide)) (n 1 3 (by decide)) (n 0 1 (by decide)),⟨a1,a2,⟨_,_,a3⟩,a4,a5⟩,fun b a=>?_,q⟩;have le:s1.heap.objs.size<=b:=by
  simp only[yn,yF,or_false]at a;rcases a with h|h|h|h|h
  ·rw[h];exact ybw _ _
  ·rw[h];exact ybw _ _
  ·rw[h];exact ybw _ _
  ·rw[h];exact yc _
  ·rw[h];exact ybw _ _
 exact I.fpOk le (I.hok.fresh le)
theorem zoP(n:Gl X "zip")(hm:X.mg "zip" = none)(d:PE X e1 te1)(c:PE X e2 te2)(hs:autoParam (ap [e1,e2] X.env=(ag,eval e1 X.env)::ap [e2] X.env) AutoP.a3._auto_1)(b:autoParam (ap [e2] X.env=[(ag,eval e2 X.env)]) AutoP.a3._auto_1):PI X (.Tuple elts kt pt) (.Call (.Name "zip" p) [e1,e2] [] pos) (iZipQ SqT SqL X.K te1 te2):=by
 intro pins s σ H R I h;refine Call_ (zeR I n hm boot_zip (PyProof.Rows.callWith_type1 (thn (zcu d (zcu c zfL b) hs pos pins s σ H (fun z a=>∃l1 l2 xs ys,z=[V.ref l1,V.ref l2]/\SqT X.K a l1 xs/\SqL X.K a l2 ys/\R (znX SqT SqL X.K l1 l2) a) I h) fun us s1 ⟨vs,a,i,m,Q⟩=>?_) hs (by rw[b];rfl)));obtain⟨l1,l2,xs,ys,rfl,hl1,hl2,q⟩:=Q;obtain⟨u,v,rfl,l,j⟩:=zjm m;cases l;cases j;obtain⟨f,g,P⟩:=sq_tup.seq X pins σ a s1 l1 xs i hl1;obtain⟨e,r,p2⟩:=sq_lst.seq X pins σ a s1 l2 ys i hl2;exact zlT P p2 fun h' a1 a2 a3 a4 a5 k=>cv a1 (zl3 sq_tup sq_lst i a1 a2 a3 a4 a5 k q)
theorem zoO(n:Gl X "zip")(hm:X.mg "zip" = none)(d:PE X e1 te1)(c:PE X e2 te2)(hs:autoParam (ap [e1,e2] X.env=(ag,eval e1 X.env)::ap [e2] X.env) AutoP.a3._auto_1)(b:autoParam (ap [e2] X.env=[(ag,eval e2 X.env)]) AutoP.a3._auto_1):PI X (.Tuple elts kt pt) (.Call (.Name "zip" p) [e1,e2] [] pos) (iZipQ SqT SqT X.K te1 te2):=by
 intro pins s σ H R I h;refine Call_ (zeR I n hm boot_zip (PyProof.Rows.callWith_type1 (thn (zcu d (zcu c zfL b) hs pos pins s σ H (fun z a=>∃l1 l2 xs ys,z=[V.ref l1,V.ref l2]/\SqT X.K a l1 xs/\SqT X.K a l2 ys/\R (znX SqT SqT X.K l1 l2) a) I h) fun us s1 ⟨vs,a,i,m,Q⟩=>?_) hs (by rw[b];rfl)));obtain⟨l1,l2,xs,ys,rfl,hl1,hl2,q⟩:=Q;obtain⟨u,v,rfl,l,j⟩:=zjm m;cases l;cases j;obtain⟨f,g,P⟩:=sq_tup.seq X pins σ a s1 l1 xs i hl1;obtain⟨e,r,p2⟩:=sq_tup.seq X pins σ a s1 l2 ys i hl2;exact zlS P p2 fun h' a1 a2 a3 a4 a5 k=>cv a1 (zl3 sq_tup sq_tup i a1 a2 a3 a4 a5 k q)
end
end L2
namespace MD
open PySem PySem.Spec PyProof.Rows L2
theorem Res.bind_assoc{α β b : Type}(r:Res α)(k:α -> Sto->Res β)(l : β -> Sto->Res b):(r.bind k).bind l=r.bind fun a m=>(k a m).bind l:=by
 cases r <;> rfl
theorem Res.bind_ok'{α : Type}(r:Res α):(r.bind fun a m=>.ok a m)=r:=by cases r <;> rfl
theorem RepL.append{K:yb}{α : List ad}{H:Hp}:∀{ds es:List D}{vs ws:List V},RepL K α H ds vs->RepL K α H es ws->RepL K α H (ds++es) (vs++ws)
 |[],_,_,_,h1,h2=>by rw[RepL]at h1;subst h1;exact h2|_::_,_,_,_,h1,h2=>by
  rw[RepL]at h1;obtain⟨v,r,rfl,a,b⟩:=h1;rw[List.cons_append,RepL];exact⟨v,r++_,rfl,a,RepL.append b h2⟩
variable{α : List ad}{K:yb}{H:Hp}{d:D}{v:V}
theorem RepL.one(h:Rep K α H d v):RepL K α H [d] [v]:=by
 rw[RepL];exact⟨v,[],rfl,h,by rw[RepL]⟩
theorem RepL.get{K:yb}{α : List ad}{H:Hp}:∀{ds:List D}{vs:List V}{i:Nat}{d:D},RepL K α H ds vs->ds[i]?=aa d->∃v,vs[i]?=aa v/\Rep K α H d v
 |[],_,_,_,_,e=>by simp at e|_::_,_,0,_,h,e=>by
  rw[RepL]at h;obtain⟨v,r,rfl,a,b⟩:=h;simp at e;subst e;exact⟨v,rfl,a⟩
 |_::_,_,i+1,d,h,e=>by
  rw[RepL]at h;obtain⟨v,r,rfl,a,b⟩:=h;obtain⟨w,h1,c⟩:=RepL.get (i:=i) (d:=d) b (by simpa using e);exact⟨w,by simpa using h1,c⟩
variable{cl:ae->ad}{ex:XD}{gt:GV}{ta:TV}{fa:EV}{n:Nat}{σ : L2.St}
section
variable{fr:AV}
theorem zqK{f:List V->Hp->Prop}(h:∃α ρ m,Wd K cl α m H/\RepE K α H ρ σ /\ PQ K cl ex (zd3 n fr gt ta fa ρ m) α H fun ds α' _ H'=>∀vs,RepL K α' H' ds vs->f vs H') : tComp n (tDI K cl ex fr) (tDG K cl ex gt) (tDT K cl ex ta) (tD K cl ex fa) f σ H:=by
 obtain⟨α,ρ,m,W,hr,h⟩:=h;refine⟨α,ρ,m,W,hr,PQ.mono (Ext.refl W) h.bind fun ds j m1 H1 E1 B q J L=>?_⟩;obtain⟨Z,q⟩:=PQ.if q;have hr1:=hr.mono W E1;refine zqp (k:=ds.length) (fun i ys c=>∃a m2 done,Ext j H1 a c/\Wd K cl a m2 c/\RepL K a c done ys/\done.length<=i/\PQ K cl ex ((zfC gt ta fa (ρ ++ yd n none) (ds.drop i) m2).bind fun xs M=>.ok (done++xs) M) a c fun ds α' _ H'=>∀vs,RepL K α' H' ds vs->f vs H') Z ?_ ?_ ?_ ?_
 ·refine⟨j,m1,[],Ext.refl B,B,by rw[RepL],yc _,?_⟩;simp only[ybx,yb3,Res.bind_ok'];exact q
 ·rintro i ys c ⟨_,_,done,_,_,r,l,_⟩;rw[<- r.length];exact l
 ·rintro i ys c hi ⟨a,m2,done,s,w,R,l2,o⟩;have hd:ds[i]?=aa ds[i]:=by simp[hi]
  obtain⟨g1,g2⟩:=(L i a m2 c s w).1 _ hd;refine⟨g1,fun x H3 y=>?_⟩;obtain⟨S,T⟩:=g2 x H3 y;have p:=Ext.of_same w S;have A:=w.same S;rw[ybv hi,zfC,Res.bind_assoc]at o;have e:=s.trans p;refine⟨a,ρ ++ yd n none,m2,ds[i],A,(hr1.mono B e).more n,T,PQ.mono p o.bind fun t P M H4 E4 W4 F O hr4=>?_⟩;rw[Res.bind_assoc]at F;refine tDT.use W4 hr4 F fun g I H5 b E5 z hr5 D=>?_;have E:=E4.trans E5;cases b with
  |false=>exact⟨g,I,done,e.trans E,z,(R.mono w p).mono A E,yb4 l2,D⟩|true=>
   have Q:PQ K cl ex (((fa t I).bind fun x Y=>(zfC gt ta fa (ρ ++ yd n none) (ds.drop (i+1)) Y).bind fun xs M=>.ok (x::xs) M).bind fun xs M=>.ok (done++xs) M) g H5 fun ds α' _ H'=>∀vs,RepL K α' H' ds vs->f vs H':=D;rw[Res.bind_assoc]at Q;refine tD.use z hr5 Q fun u X H6 d v N W6 hr6 U C=>?_;rw[Res.bind_assoc]at C;refine⟨u,X,done++[d],e.trans (E.trans N),W6,RepL.append (((R.mono w p).mono A E).mono z N) (RepL.one U),by rw[yj];show done.length+1<=i+1;omega,?_⟩;simp only[yX,ydE];exact C
 ·rintro ys c ⟨a,m2,done,s,w,R,l2,o⟩;rw[ya9 (yc _),zfC]at o;refine⟨(L ds.length a m2 c s w).2 rfl,?_⟩;have G:PQ K cl ex (.ok (done++[]) m2) a c fun ds α' _ H'=>∀vs,RepL K α' H' ds vs->f vs H':=o;rw[y6]at G;exact PQ.ok w G ys R
end
def gL1(ds:List D)(m:Sto):Res D := .ok (.lst ds) m
def zdZ(z:ae):List D:=(yw z.cps.size).map fun i=>.str ⟨#[z.cps.getD i 0]⟩
def zlY(d:D)(m:Sto):Res (List D):=match d with
 |.tup ds=>.ok ds m|.lst ds=>.ok ds m|.str z=>.ok (zdZ z) m|.scr ds=>.ok ds m|_=>.bad
def aIt(f:EV):AV:=fun ρ m=>(f ρ m).bind zlY
def zcc(lo:Int)(n:Nat):List D:=(yw n).map fun i=>.int (lo+(i:Nat))
def zs2(ds:List D)(m:Sto):Res (List D):=match ds with
 |[.int j]=>if -(2^62)<=j/\j<2^62 then .ok (zcc 0 j.toNat) m else .bad|_=>.bad
theorem zoA:∃f:List D->Sto->Res (List D),f=zs2:=⟨_,rfl⟩
def zle:List D->Sto->Res (List D):=yba zoA
theorem zoB:zle=zs2:=ybb zoA
def zmX(g:List D->Sto->Res (List D))(fr:AV):AV:=fun ρ m=>(fr ρ m).bind g
def zcd(i:Nat):List D->List D
 |[]=>[]|d::r=>.tup [.int i,d]::zcd (i+1) r
def asSq2(d:D)(m:Sto):Res (List D):=match d with
 |.tup ds=>.ok ds m|.lst ds=>.ok ds m|_=>.bad
def zkS(f:EV):AV:=fun ρ m=>(f ρ m).bind fun d m1=>(asSq2 d m1).bind fun ds m2=>.ok (zcd 0 ds) m2
def zkU:List D->List D->List D
 |x::xs,y::ys=>.tup [x,y]::zkU xs ys|_,_=>[]
def zipD3:List D->List D->List D->List D
 |x::xs,y::ys,z::zs=>.tup [x,y,z]::zipD3 xs ys zs|_,_,_=>[]
def zqC(x y:D)(m:Sto):Res (List D):=match x,y with
 |.tup xs,.tup ys=>if xs.length<=ys.length then .ok (zkU xs ys) m else .bad|.tup xs,.lst ys=>if xs.length<=ys.length then .ok (zkU xs ys) m else .bad|_,_=>.bad
def aZip(F f:EV):AV:=fun ρ m=>(F ρ m).bind fun x m1=>(f ρ m1).bind fun y m2=>zqC x y m2
def zip3(x y z:D)(m:Sto):Res (List D):=match x,y,z with
 |.tup xs,.tup ys,.tup zs=>if xs.length<=ys.length/\xs.length<=zs.length then .ok (zipD3 xs ys zs) m else .bad|_,_,_=>.bad
def aZip3(a F f:EV):AV:=fun ρ m=>(a ρ m).bind fun x m1=>(F ρ m1).bind fun y m2=>(f ρ m2).bind fun z m3=>zip3 x y z m3
theorem zkz:∀(ds:List D)(k i:Nat)(d:D),(zcd k ds)[i]?=aa d->∃e,ds[i]?=aa e/\d = .tup [.int ((k+i:Nat):Int),e]
 |[],k,i,d,h=>by simp[zcd]at h|e::r,k,0,d,h=>by
  simp[zcd]at h;exact⟨e,rfl,h.symm⟩
 |e::r,k,i+1,d,h=>by
  obtain⟨f,h1,h2⟩:=zkz r (k+1) i d (by simpa [zcd] using h);refine⟨f,by simpa using h1,?_⟩;rw[h2,show k+1+i=k+(i+1) by omega]
theorem zky:∀(ds:List D)(k:Nat),(zcd k ds).length=ds.length
 |[],_=>rfl|_::r,k=>by rw[zcd,yt,yt,zky r]
theorem zl5:∀(xs ys:List D)(i:Nat)(d:D),(zkU xs ys)[i]?=aa d->∃a b,xs[i]?=aa a/\ys[i]?=aa b/\d = .tup [a,b]
 |[],_,i,d,h=>by simp[zkU]at h|_::_,[],i,d,h=>by simp[zkU]at h|a::r,b::s,0,d,h=>by
  simp[zkU]at h;exact⟨a,b,rfl,rfl,h.symm⟩
 |a::r,b::s,i+1,d,h=>by
  obtain⟨x,y,h1,h2,H⟩:=zl5 r s i d (by simpa [zkU] using h);exact⟨x,y,by simpa using h1,by simpa using h2,H⟩
theorem zl4:∀(xs ys:List D),xs.length<=ys.length->(zkU xs ys).length=xs.length
 |[],_,_=>by simp[zkU]|_::_,[],h=>by simp at h|_::r,_::s,h=>by rw[zkU,yt,yt,zl4 r s (by simpa using h)]
variable{X:Cx}{a b tg it:ak}{es ifs:List ak}{fb fc:EV}{tb:TV}{pos p:aw}
section
variable{N0:List ae}{c e:ak}{fr:AV}{scope:aI}{xs:List ae}{clo:List (ae×ad)}
theorem zdA(j:X.calm=ac)(b:X.xe=fun _ _=>False)(S:CompOk X N0 scope xs clo)(hi:QI X cl ex tg it fr)(d:∀C s H fp,QG (X.comp N0 scope xs clo C s H fp) cl ex tg gt)(f:∀C s H fp,PIf (X.comp N0 scope xs clo C s H fp) ifs (tDT X.K cl ex ta))(i:∀C s H fp,QE (X.comp N0 scope xs clo C s H fp) cl ex e fa)(hs:autoParam (∀x,bc it X.env x=pure x) AutoP.a2._auto_1):QE X cl ex (.ListComp e [⟨tg,it,ifs,0⟩] scope pos) (eFn gL1 (zd3 xs.length fr gt ta fa)) :=
 ⟨PE.weak (ztB (g:=tDG X.K cl ex gt) (tf:=tDT X.K cl ex ta) (te:=tD X.K cl ex fa) j b S hi.out (fun C s H fp=>(d C s H fp).out) f (fun C s H fp=>(i C s H fp).out) hs) fun σ H Q c=>ex3 c fun α ρ m W hr h=>zqK ⟨α,ρ,m,W,hr,PQ.mono (Ext.refl W) h.bind fun ds a m1 k E w q vs r p hp=>PQ.okS w (Same.new hp) q _ (zbF w hp r)⟩⟩
theorem zdw:PIf X [] (tDT X.K cl ex zdY):=fun pins s σ H Q I a=>ex3 a fun α ρ m W hr h=>ztv pins s σ H Q I (PQ.ok W h)
theorem zgN(hq:QT X cl ex c ta):PIf X [c] (tDT X.K cl ex ta):=ztu hq.out
theorem PI.or{t t':TI}(h:PI X tg it t)(h':PI X tg it t'):PI X tg it fun σ H R=>t σ H R∨t' σ H R:=fun pins s σ H R I q=>q.elim (h pins s σ H R I) (h' pins s σ H R I)
end
variable{c:Exc}{f:EV}{Q:List V->Hp->Prop}{τ : Type}{R:RD τ}{l:ad}{ds:List D}{vs:List V}
section
variable{α':List ad}{m m1:Sto}{H':Hp}{ρ : En}
theorem tD.at{Q:VK}(W:Wd K cl α m H)(hr:RepE K α H ρ σ)(h:f ρ m = .ok d m1)(hQ:∀a H1 v,Ext α H a H1->Wd K cl a m1 H1->RepE K a H1 ρ σ -> Rep K a H1 d v->Q v H1):tD K cl ex f σ H Q :=
 ⟨α,ρ,m,W,hr,by rw[h];exact fun a H1 E w v r=>hQ a H1 v E w (hr.mono W E) r⟩
theorem tDA.at{f:AV}{d:List D}(W:Wd K cl α m H)(hr:RepE K α H ρ σ)(h:f ρ m = .ok d m1)(hQ:∀a H1 v,Ext α H a H1->Wd K cl a m1 H1->RepE K a H1 ρ σ -> RepL K a H1 d v->Q v H1):tDA K cl ex f σ H Q :=
 ⟨α,ρ,m,W,hr,by rw[h];exact fun a H1 E w v r=>hQ a H1 v E w (hr.mono W E) r⟩
theorem tD.exc{k:D->Sto->Res τ}{Q:VK}(W:Wd K cl α m H)(hr:RepE K α H ρ σ)(h:f ρ m = .exc c m1)(q:PQ K cl ex ((f ρ m).bind k) α H R):tD K cl ex f σ H Q :=
 ⟨α,ρ,m,W,hr,by rw[h]at q ⊢;exact q⟩
theorem tDA.exc{f:AV}{k:List D->Sto->Res τ}(W:Wd K cl α m H)(hr:RepE K α H ρ σ)(h:f ρ m = .exc c m1)(q:PQ K cl ex ((f ρ m).bind k) α H R):tDA K cl ex f σ H Q :=
 ⟨α,ρ,m,W,hr,by rw[h]at q ⊢;exact q⟩
theorem itd_l(W:Wd K cl α m H)(n:l∉α)(h:Rd H l (.lst vs))(r:RepL K α H ds vs):ItD K cl α H (Itl K l) ds:=fun i a m1 c E w=>by
 have sq:SqL K c l vs := .inl (E.rd h n);refine⟨fun d e=>?_,fun e=>⟨vs,sq,by rw[e,r.length];exact yc _⟩⟩;obtain⟨v,h1,b⟩:=(r.mono W E).get e;refine⟨⟨vs,v,sq,h1⟩,fun x f y=>?_⟩;obtain⟨rfl,y⟩:=y;have:=y vs sq;rw[h1]at this;cases this;exact⟨Same.refl _,b⟩
theorem itd_s(W:Wd K cl α m H)(h:LstAt K α H l vs)(r:RepL K α H ds vs):ItD K cl α H (Itl K l) ds:=fun i a m1 c E w=>by
 have sq:SqL K c l vs:=((E.kp W).lstAt h).sq;refine⟨fun d e=>?_,fun e=>⟨vs,sq,by rw[e,r.length];exact yc _⟩⟩;obtain⟨v,h1,b⟩:=(r.mono W E).get e;refine⟨⟨vs,v,sq,h1⟩,fun x f y=>?_⟩;obtain⟨rfl,y⟩:=y;have:=y vs sq;rw[h1]at this;cases this;exact⟨Same.refl _,b⟩
theorem itd_t(W:Wd K cl α m H)(h:SqT K H l vs)(r:RepL K α H ds vs):ItD K cl α H (Itt K l) ds:=fun i a m1 c E w=>by
 have sq:SqT K c l vs:=E.sqt W h;refine⟨fun d e=>?_,fun e=>⟨vs,sq,by rw[e,r.length];exact yc _⟩⟩;obtain⟨v,h1,b⟩:=(r.mono W E).get e;refine⟨⟨vs,v,sq,h1⟩,fun x f y=>?_⟩;obtain⟨rfl,y⟩:=y;have:=y vs sq;rw[h1]at this;cases this;exact⟨Same.refl _,b⟩
theorem itd_f{f:Nat->V}{g:Nat->D}(h:∀i α H,Rep K α H (g i) (f i)):ItD K cl α H (Itf f n) ((yw n).map g):=fun i a m1 c E W=>by
 refine⟨fun d e=>?_,fun e=>by rw[yg,yaL]at e;exact e⟩;obtain⟨hi,e⟩:=ye.mp e;rw[yg,yaL]at hi;simp only[ydF,ydG]at e;subst e;refine⟨hi,fun x b y=>?_⟩;obtain⟨rfl,rfl⟩:=y;exact⟨Same.refl _,h _ _ _⟩
theorem itd_r{lo:Int}:ItD K cl α H (Itr lo n) (zcc lo n):=fun i a m1 b E W=>by
 unfold zcc;refine⟨fun d e=>?_,fun e=>by rw[yg,yaL]at e;exact ycp e.symm⟩;obtain⟨hi,e⟩:=ye.mp e;rw[yg,yaL]at hi;simp only[ydF,ydG]at e;subst e;refine⟨hi,fun x h y=>?_⟩;obtain⟨rfl,rfl⟩:=y;exact⟨Same.refl _,by rw[Rep]⟩
theorem zbE{T:ad}(W:Wd K cl α m H)(h:H T=none)(r:RepL K α H ds vs):Rep K α (upd H T (.tup vs)) (.tup ds) (.ref T):=by
 rw[Rep];exact⟨T,vs,rfl,.inl zaw,r.mono W (Ext.of_same W (Same.new h))⟩
theorem RepL.two{e:D}{w:V}(h:Rep K α H d v)(h':Rep K α H e w):RepL K α H [d,e] [v,w]:=RepL.append (RepL.one h) (RepL.one h')
def zqA(K:yb)(cl:ae->ad)(c:CQ)(α : List ad)(H:Hp)(l:ad)(vs:List V):Prop:=∀α1 m1 H1,Ext α H α1 H1->Wd K cl α1 m1 H1->c K H1 l vs
theorem itd_e{c:CQ}(W:Wd K cl α m H)(h:zqA K cl c α H l vs)(r:RepL K α H ds vs):ItD K cl α H (IteQ c K l) (zcd 0 ds):=fun i a m1 n E w=>by
 have sq:=h a m1 n E w;refine⟨fun d e=>?_,fun e=>⟨vs,sq,by rw[e,zky,r.length]⟩⟩;obtain⟨f,h1,rfl⟩:=zkz ds 0 i d e;obtain⟨v,g,k⟩:=(r.mono W E).get h1;refine⟨⟨vs,v,sq,g⟩,fun x o y=>?_⟩;obtain⟨T,y,b,rfl,j,rfl⟩:=y;have:=j vs sq;rw[g]at this;cases this;refine⟨Same.new b,zbE w b (RepL.two (by rw[Rep,yq]) k)⟩
theorem itd_z{c1 C:CQ}{l1 l2:ad}{xs ys:List D}{us:List V}(W:Wd K cl α m H)(h:zqA K cl c1 α H l1 vs)(h':zqA K cl C α H l2 us)(r:RepL K α H xs vs)(R:RepL K α H ys us)(hl:xs.length<=ys.length):ItD K cl α H (znX c1 C K l1 l2) (zkU xs ys):=fun i a m1 k E w=>by
 have sq:=h a m1 k E w;have s:=h' a m1 k E w;refine⟨fun d e=>?_,fun e=>⟨vs,sq,by rw[e,zl4 _ _ hl,r.length]⟩⟩;obtain⟨x,y,h1,q,rfl⟩:=zl5 xs ys i d e;obtain⟨v,f,p⟩:=(r.mono W E).get h1;obtain⟨u,c,o⟩:=(R.mono W E).get q;refine⟨⟨vs,us,v,u,sq,s,f,c⟩,fun x t y=>?_⟩;obtain⟨T,x,y,b,rfl,n,l,rfl⟩:=y;have j:=n vs sq;have g:=l us s;rw[f]at j;rw[c]at g;cases j;cases g;exact⟨Same.new b,zbE w b (RepL.two p o)⟩
theorem zir(W:Wd K cl α m H)(h:SqT K H l vs):zqA K cl SqT α H l vs:=fun a m1 b E w=>E.sqt W h
theorem zoi(n:l∉α)(h:Rd H l (.lst vs)):zqA K cl SqL α H l vs:=fun a m1 b E W=>.inl (E.rd h n)
end
section
variable{c e:ak}{fr:AV}
theorem zdx(hq:QE X cl ex e fa):QI X cl ex tg e (aIt fa) :=
 ⟨PI.weak (PI.or (ztw hq.out) (PI.or (pi_tup hq.out) (pi_txt hq.out))) fun σ H R g=>ex3 g fun α ρ m W hr q=>by
  unfold aIt at q;cases h:fa ρ m with
  |bad=>rw[h]at q;exact q.elim|exc c m1=>exact .inl (tD.exc W hr h q)|ok d m1=>
   rw[h]at q;cases d with
   |lst ds=>
    refine .inl (tD.at W hr h fun a b v E w hr1 r=>?_);rw[Rep]at r;obtain⟨l,vs,rfl,n,h1,f⟩:=r;exact⟨l,rfl,⟨vs,.inl h1⟩,q a b E w _ (itd_l w n h1 f)⟩
   |tup ds=>
    refine .inr (.inl (tD.at W hr h fun a b v E w hr1 r=>?_));rw[Rep]at r;obtain⟨l,vs,rfl,h1,f⟩:=r;exact⟨l,rfl,⟨vs,h1.sq⟩,q a b E w _ (itd_t w h1.sq f)⟩
   |str z=>
    refine .inr (.inr (tD.at W hr h fun a b v E w hr1 r=>?_));rw[Rep]at r;exact⟨z,r,q a b E w _ (itd_f fun i α H=>by rw[Rep];rfl)⟩
   |scr ds=>
    refine .inl (tD.at W hr h fun a b v E w hr1 r=>?_);rw[Rep]at r;obtain⟨l,vs,rfl,h1,f⟩:=r;exact⟨l,rfl,⟨vs,h1.sq⟩,q a b E w _ (itd_s w h1 f)⟩
   |_=>exact q.elim⟩
theorem zdy(e:Gl X "range")(hm:X.mg "range" = none)(ha:QA X cl ex [a] fr)(hs:autoParam (ap [a] X.env=[(ag,eval a X.env)]) AutoP.a3._auto_1):QI X cl ex tg (.Call (.Name "range" p) [a] [] pos) (zmX zle fr) :=
 ⟨PI.weak (zoQ e hm ha.out hs) fun σ H R h=>ex3 h fun α ρ m W hr q=>tDA.use W hr q fun c m1 g d v E w hr1 b Q=>by
  rw[zoB]at Q;unfold zs2 at Q;split at Q
  ·obtain⟨h1,f⟩:=PQ.if Q;rw[RepL]at b;obtain⟨v,r,rfl,a1,a2⟩:=b;rw[Rep]at a1;rw[RepL]at a2;subst a1 a2;exact⟨_,rfl,h1.1,h1.2,PQ.ok w f _ itd_r⟩
  ·exact Q.elim⟩
variable{elts:List ak}{kt:Nat}{pt:aw}
theorem zgO(g:Gl X "enumerate")(hm:X.mg "enumerate" = none)(hq:QE X cl ex e fa)(hs:autoParam (ap [e] X.env=[(ag,eval e X.env)]) AutoP.a3._auto_1):QI X cl ex (.Tuple elts kt pt) (.Call (.Name "enumerate" p) [e] [] pos) (zkS fa) :=
 ⟨PI.weak (PI.or (zoT g hm hq.out hs) (zoS g hm hq.out hs)) fun σ H R i=>ex3 i fun α ρ m W hr q=>by
  unfold zkS at q;cases h:fa ρ m with
  |bad=>rw[h]at q;exact q.elim|exc c m1=>exact .inl (tD.exc W hr h q)|ok d m1=>
   rw[h]at q;cases d with
   |lst ds=>
    refine .inl (tD.at W hr h fun a f v E w hr1 r=>?_);rw[Rep]at r;obtain⟨l,vs,rfl,n,h1,b⟩:=r;exact⟨l,vs,rfl,.inl h1,q a f E w _ (itd_e w (zoi n h1) b)⟩
   |tup ds=>
    refine .inr (tD.at W hr h fun a f v E w hr1 r=>?_);rw[Rep]at r;obtain⟨l,vs,rfl,h1,b⟩:=r;exact⟨l,vs,rfl,h1.sq,q a f E w _ (itd_e w (zir w h1.sq) b)⟩
   |_=>exact q.elim⟩
theorem zr9(C:Gl X "zip")(hm:X.mg "zip" = none)(h1:QE X cl ex a fa)(g:QE X cl ex b fb)(hs:autoParam (ap [a,b] X.env=(ag,eval a X.env)::ap [b] X.env) AutoP.a3._auto_1)(o:autoParam (ap [b] X.env=[(ag,eval b X.env)]) AutoP.a3._auto_1):QI X cl ex (.Tuple elts kt pt) (.Call (.Name "zip" p) [a,b] [] pos) (aZip fa fb) :=
 ⟨PI.weak (PI.or (zoP C hm h1.out g.out hs o) (zoO C hm h1.out g.out hs o)) fun σ H R F=>ex3 F fun α ρ m W hr q=>by
  unfold aZip at q;cases f:fa ρ m with
  |bad=>rw[f]at q;exact q.elim|exc c m1=>exact .inl (tD.exc W hr f q)|ok d m1=>
   cases h:fb ρ m1 with
   |bad=>rw[f]at q;exact absurd q (by show ¬ PQ X.K cl ex ((fb ρ m1).bind _) _ _ _;rw[h];exact fun z=>z)|exc c m2=>
    refine .inl (tD.at W hr f fun l D v s j hr1 e=>?_);rw[f]at q;exact tD.exc (k:=fun y m2=>zqC d y m2) j hr1 h (PQ.mono s q fun _ _ _ _ _ _ z=>z)
   |ok G m2=>
    rw[f]at q;have B:PQ X.K cl ex ((fb ρ m1).bind fun y m2=>zqC d y m2) α H fun ds α' _ H'=>∀J,ItD X.K cl α' H' J ds->R J H':=q;rw[h]at B;have Q:PQ X.K cl ex (zqC d G m2) α H fun ds α' _ H'=>∀J,ItD X.K cl α' H' J ds->R J H':=B;unfold zqC at Q;split at Q
    ·obtain⟨hl,x⟩:=PQ.if Q;refine .inr (tD.at W hr f fun l D v s j hr1 e=>tD.at j hr1 h fun i A V E w hr2 r=>?_);have e:=e.mono j E;rw[Rep]at e r;obtain⟨l1,vs,rfl,h1,u⟩:=e;obtain⟨l2,us,rfl,g,t⟩:=r;exact⟨l1,l2,vs,us,rfl,h1.sq,g.sq,x i A (s.trans E) w _ (itd_z w (zir w h1.sq) (zir w g.sq) u t hl)⟩
    ·obtain⟨hl,x⟩:=PQ.if Q;refine .inl (tD.at W hr f fun l D v s j hr1 e=>tD.at j hr1 h fun i A V E w hr2 r=>?_);have e:=e.mono j E;rw[Rep]at e;rw[Rep]at r;obtain⟨l1,vs,rfl,h1,u⟩:=e;obtain⟨l2,us,rfl,n,g,t⟩:=r;exact⟨l1,l2,vs,us,rfl,h1.sq,.inl g,x i A (s.trans E) w _ (itd_z w (zir w h1.sq) (zoi n g) u t hl)⟩
    ·exact Q.elim⟩
end
def zeG(f:Fl)(m:Sto):Res D:=match f with
 |.nx _=>.ok .non m|.rt d=>.ok d m|_=>.bad
def za2(n:Nat)(b:SV):List D->Sto->Res D:=fun ds m=>(b (ds.map aa++yd (n-ds.length) none) m).bind zeG
def spD(K:yb)(cl:ae->ad)(ex:XD)(n:Nat)(g:List D->Sto->Res D):Sp:=fun vs H Q _=>vs.length=n/\∃α m ds,Wd K cl α m H/\RepL K α H ds vs/\PQ K cl ex (g ds m) α H fun d α' _ H'=>∀v,Rep K α' H' d v->Q v H'
variable{N:List ae}
theorem zhV:∀{ds:List D}{vs:List V},RepL K α H ds vs->RepE K α H (ds.map aa++yd (N.length-ds.length) none) (L2.start N vs):=by
 intro ds vs r;unfold L2.start;rw[r.length];refine RepE.more ⟨by rw[yg,yg,r.length],fun i d e=>?_⟩ _;rw[yz]at e;cases h:ds[i]? with
 |none=>rw[h]at e;cases e|some d'=>
  rw[h]at e;cases e;obtain⟨v,h1,a⟩:=r.get h;exact⟨v,by rw[yz,h1];rfl,a⟩
theorem fn_d{b:SV}{Q:VK}{E:XK}(h:spD K cl ex n (za2 N.length b) vs H Q E):tDS K cl ex b { nx:=fun _ H'=>Q .non H',rt:=Q } (L2.start N vs) H:=by
 obtain⟨_,α,m,ds,W,r,q⟩:=h;refine⟨α,_,m,W,zhV r,PQ.mono (Ext.refl W) q.bind fun f c m1 e g w a=>?_⟩;cases f with
 |nx ρ=>exact fun σ _=>PQ.ok w a _ (by rw[Rep])|rt d=>exact PQ.ok w a|bk ρ=>exact a.elim|ct ρ=>exact a.elim
def X0:XD:=fun _ _ _ _=>False
theorem ztd{e:ak}{fr:AV}{x:ae}{k:Nat}{f:ad}{fd:aF}{ps:List ae}{g:List D->Sto->Res D}(F:FnOk X.prog X.w X.K X.mg X.base CX0 k f fd ps (spD X.K cl X0 n g))(hn:n=(e::es).length)(hr:Room k X.A)(q:Gl X x)(hm:X.mg x=aa (.ref f))(l:yaw X.K (.ref f)=ac)(t:Binds X.K fd ps [])(ha:QA X cl X0 (e::es) fr)(a:∀ρ m ds m1,fr ρ m = .ok ds m1->ds.length=(e::es).length)(j:autoParam ((x==("__debug__" : ae))=ag) AutoP.a1._auto_1)(s:autoParam (ap (e::es) X.env=(ag,eval e X.env)::ap es X.env) AutoP.a3._auto_1)(i:autoParam ((az pos (ap es X.env)).any (·.1)=ag) AutoP.a3._auto_1) : QE X cl X0 (.Call (.Name x p) (e::es) [] pos) (eFn g fr) :=
 ⟨PE.weak (ztD (E:=E0) F hr q hm l t .nil zrj ha.out j s i) fun σ H Q o=>ex3 o fun α ρ m W hr h=>by
  unfold eFn at h;cases b:fr ρ m with
  |bad=>rw[b]at h;exact h.elim|exc c m1=>exact tDA.exc W hr b h|ok ds m1=>
   rw[b]at h;refine tDA.at W hr b fun d y v u w hr1 r=>?_;refine⟨?_,d,m1,ds,w,by rw[y6];exact r,PQ.mono u h fun _ _ _ _ _ _ z=>z⟩;rw[y6,<- r.length,a ρ m ds m1 b,hn]⟩
theorem aNil_len:∀ρ m ds m1,zaj ρ m = .ok ds m1->ds.length=([]:List ak).length:=fun ρ m ds m1 h=>by cases h;rfl
theorem aCons_len{fr:AV}{e:ak}(h:∀ρ m ds m1,fr ρ m = .ok ds m1->ds.length=es.length):∀ρ m ds m1,zac fa fr ρ m = .ok ds m1->ds.length=(e::es).length:=fun ρ m ds m1 q=>by
 unfold zac at q;cases H:fa ρ m with
 |ok x m2=>
  rw[H]at q;have q:((fr ρ m2).bind fun xs M=>Res.ok (x::xs) M) = .ok ds m1:=q;cases hr:fr ρ m2 with
  |ok xs M=>rw[hr]at q;cases q;rw[yt,yt,h ρ m2 xs _ hr]|_=>rw[hr]at q;cases q
 |_=>rw[H]at q;cases q
end MD
namespace L2
open PySem PySem.Spec PyProof.Rows
section
variable{X:Cx}
def rCatQ(K:yb):R2:=fun x y H Q=>∃a b xs ys,x = .ref a/\y = .ref b/\MD.TupAt K H a xs/\MD.TupAt K H b ys/\xs.length+ys.length<=sizeLine/\∀r H',MD.TupAt K H' r (xs++ys)->Same H H'->Q (.ref r) H'
end
end L2
namespace MD
open PySem PySem.Spec PyProof.Rows L2
def zbb(x y:D)(m:Sto):Res D:=match x,y with
 |.int i,.int j=>.ok (.int (i+j)) m|.str a,.str b=>if a.length+b.length<=sizeLine then .ok (.str (a++b)) m else .bad|.tup a,.tup b=>if a.length+b.length<=sizeLine then .ok (.tup (a++b)) m else .bad|.lst a,.lst b=>if a.length+b.length<=sizeLine then .ok (.lst (a++b)) m else .bad|_,_=>.bad
def zdO(x y:D)(m:Sto):Res D:=match x,y with
 |.int i,.int j=>.ok (.int (i-j)) m|_,_=>.bad
def mulR(x y:D)(m:Sto):Res D:=match x,y with
 |.int i,.int j=>if (-(2^64)<i/\i<2^64)∨(-(2^64)<j/\j<2^64) then .ok (.int (i*j)) m else .bad|.str z,.int n=>if 0<=n/\n<=1000/\z.length<=1000 then .ok (.str (Txt.mul z n)) m else .bad|.tup [d],.int n=>if 1<=n/\n<=1000 then .ok (.tup (yd n.toNat d)) m else .bad|_,_=>.bad
theorem zps:∃f:D->D->Sto->Res D,f=mulR:=⟨_,rfl⟩
def zdC:D->D->Sto->Res D:=yba zps
theorem zg1:zdC=mulR:=ybb zps
def zuo(x y:D)(m:Sto):Res D:=match x,y with
 |.int i,.int j=>if 0<j/\j<2^64 then .ok (.int (i/j)) m else .bad|_,_=>.bad
theorem zmK:∃f:D->D->Sto->Res D,f=zuo:=⟨_,rfl⟩
def zja:D->D->Sto->Res D:=yba zmK
theorem zmL:zja=zuo:=ybb zmK
def zdk(x y:D)(m:Sto):Res D:=match x,y with
 |.int i,.int j=>if 0<j then .ok (.int (i%j)) m else .bad|_,_=>.bad
def ztm(x y:D)(m:Sto):Res D:=match x,y with
 |.int i,.int j=>if 0<=j/\j<=1000000/\i.natAbs<2^64 then .ok (.int (i^j.toNat)) m else .bad|_,_=>.bad
theorem zoL:∃f:D->D->Sto->Res D,f=ztm:=⟨_,rfl⟩
def zmo:D->D->Sto->Res D:=yba zoL
theorem zgR:zmo=ztm:=ybb zoL
def shlR(x y:D)(m:Sto):Res D:=match x,y with
 |.int i,.int j=>if 0<=j/\j<=1000000/\i.natAbs<2^64 then .ok (.int (i*2^j.toNat)) m else .bad|_,_=>.bad
theorem zon:∃f:D->D->Sto->Res D,f=shlR:=⟨_,rfl⟩
def zgf:D->D->Sto->Res D:=yba zon
theorem zoo:zgf=shlR:=ybb zon
def zn0(x:D)(m:Sto):Res D:=match x with
 |.int i=>.ok (.int (-i)) m|_=>.bad
variable{X:Cx}{K:yb}{cl:ae->ad}{ex:XD}{α : List ad}{H:Hp}{i:Int}{z:ae}
section
theorem zfJ:Rep K α H (.int i) (.int i):=by rw[Rep]
theorem repS{i:ae}:Rep K α H (.str i) (.str i):=by rw[Rep]
theorem zkV{i:Bool}:Rep K α H (.bl i) (.bl i):=by rw[Rep]
theorem repN:Rep K α H .non .non:=by rw[Rep]
theorem zbA:OpD K cl ex (rI0 fun i j=>.int (i-j)) zdO:=fun α m H x y V v Q W R r h=>by
 unfold zdO at h;split at h
 ·rw[Rep]at R r;exact⟨_,_,R,r,PQ.ok W h _ zfJ⟩
 ·exact h.elim
theorem zlx:OpD K cl ex (rI (fun _ j=>0<j/\j<2^64) fun i j=>.int (i/j)) zja:=fun α m H x y V v Q W R r h=>by
 rw[zmL]at h;unfold zuo at h;split at h
 ·rw[Rep]at R r;obtain⟨a,h⟩:=PQ.if h;exact⟨_,_,R,r,a,PQ.ok W h _ zfJ⟩
 ·exact h.elim
theorem zbe:OpD K cl ex (rI (fun _ j=>0<j) fun i j=>.int (i%j)) zdk:=fun α m H x y V v Q W R r h=>by
 unfold zdk at h;split at h
 ·rw[Rep]at R r;obtain⟨a,h⟩:=PQ.if h;exact⟨_,_,R,r,a,PQ.ok W h _ zfJ⟩
 ·exact h.elim
theorem zfN:OpD K cl ex (rI CPow fun i j=>.int (i^j.toNat)) zmo:=fun α m H x y V v Q W R r h=>by
 rw[zgR]at h;unfold ztm at h;split at h
 ·rw[Rep]at R r;obtain⟨a,h⟩:=PQ.if h;exact⟨_,_,R,r,a,PQ.ok W h _ zfJ⟩
 ·exact h.elim
theorem zb7:OpD K cl ex (rI CPow fun i j=>.int (i*2^j.toNat)) zgf:=fun α m H x y V v Q W R r h=>by
 rw[zoo]at h;unfold shlR at h;split at h
 ·rw[Rep]at R r;obtain⟨a,h⟩:=PQ.if h;exact⟨_,_,R,r,a,PQ.ok W h _ zfJ⟩
 ·exact h.elim
theorem zhQ:UnD K cl ex (rU fun i=>.int (-i)) zn0:=fun α m H x v Q W r h=>by
 unfold zn0 at h;split at h
 ·rw[Rep]at r;exact⟨_,r,PQ.ok W h _ zfJ⟩
 ·exact h.elim
theorem ztP:OpR X (aK .Add) (rCatQ X.K):=by
 intro pins s σ H x y v u Q I R r h;obtain⟨a,b,xs,ys,rfl,rfl,ha,g,o,q⟩:=h;by_cases j:xs=[]
 ·subst j;cases R;cases r;obtain⟨its,m,P,_⟩:=I.tuple ha.sq;obtain⟨i,t,p2,_⟩:=I.tuple g.sq;cases m;obtain⟨⟨cls,dd,data,sl⟩,k,l,n,hd⟩:=id P;obtain⟨⟨C,D,data2,S⟩,c,f,N,d⟩:=id p2;simp only at l hd f d;subst l hd f d;exact concat_meets ⟨_,k,rfl⟩ ⟨_,c,rfl⟩ cm cp ycv ycw (ycx _ _)
   (tuple_addW0 a b #[] i.toArray n N dd D sl S rfl) ⟨k,c,⟨.ref b,H,I,rfl,q b H (by rw[ybx];exact g) (L2.Same.refl H)⟩⟩
 ·refine ztN pins s σ H (.ref a) (.ref b) v u Q I R r ⟨a,b,xs,ys,rfl,rfl,ha.sq,g.sq,j,o,fun e=>?_,fun _ p hp=>?_⟩
  ·subst e;exact q a H (by rw[y6];exact ha) (L2.Same.refl H)
  ·exact q p _ (.inl zaw) (MD.Same.new hp)
def rCatR:R2:=fun x y H Q=>∃l b xs zs,x = .ref l/\y = .ref b/\Rd H l (.lst xs)/\Rd H b (.lst zs)/\xs.length+zs.length<=sizeLine/\∀p,H p=none->Q (.ref p) (upd H p (.lst (xs++zs)))
theorem ztO:OpR X (aK .Add) rCatR:=by
 intro pins s σ H x y v u Q I c a h;obtain⟨l,b,xs,Z,rfl,rfl,d,f,j,q⟩:=h;cases c;cases a;obtain⟨z,its,n,r,e⟩:=d.ok I.hok;obtain⟨z2,i,N,R,g⟩:=f.ok I.hok;have hl:=r.length;have hl2:=R.length;refine PySem.P.add_list e g ?_ (by rw[yp,yp];omega);have E:its.toArray++i.toArray=(its++i).toArray:=by simp
 rw[E];exact⟨.ref _,_,I.lnew (t':=s.toks) (r.append R) (by rw[yj];omega),rfl,q _ I.fresh⟩
def rAddA(K:yb):R2:=fun x y H Q=>(rI0 (fun i j=>.int (i+j))) x y H Q∨(∃i j,x = .str i/\y = .str j/\i.length+j.length<=sizeLine/\Q (.str (i++j)) H)∨rCatQ K x y H Q∨rCatR x y H Q
theorem zas:OpR X (aK .Add) (rAddA X.K):=OpR.or op_add (OpR.or zni (OpR.or ztP ztO))
theorem zaB:OpD K cl ex (rAddA K) zbb:=fun α m H x y V v Q W c R h=>by
 unfold zbb at h;split at h
 ·rw[Rep]at c R;exact .inl ⟨_,_,c,R,PQ.ok W h _ zfJ⟩
 ·rw[Rep]at c R;obtain⟨f,h⟩:=PQ.if h;exact .inr (.inl ⟨_,_,c,R,f,PQ.ok W h _ repS⟩)
 ·obtain⟨f,h⟩:=PQ.if h;rw[Rep]at c R;obtain⟨a,xs,rfl,h1,e⟩:=c;obtain⟨b,ys,rfl,g,d⟩:=R;refine .inr (.inr (.inl ⟨a,b,xs,ys,rfl,rfl,h1,g,by rw[<- e.length,<- d.length];exact f,fun r H' hr s=>?_⟩));exact PQ.okS W s h _ (by rw[Rep];exact⟨r,_,rfl,hr,(RepL.append e d).mono W (Ext.of_same W s)⟩)
 ·obtain⟨f,h⟩:=PQ.if h;rw[Rep]at c R;obtain⟨a,xs,rfl,n1,h1,e⟩:=c;obtain⟨b,ys,rfl,n,g,d⟩:=R;refine .inr (.inr (.inr ⟨a,b,xs,ys,rfl,rfl,h1,g,by rw[<- e.length,<- d.length];exact f,fun p hp=>?_⟩));exact PQ.okS W (Same.new hp) h _ (zbF W hp (RepL.append e d))
 ·exact h.elim
def rMulQ(K:yb):R2:=fun x y H Q=>∃a v n,x = .ref a/\y = .int n/\TupAt K H a [v]/\1<=n/\n<=1000/\∀r H',TupAt K H' r (yd n.toNat v)->L2.Same H H'->Q (.ref r) H'
theorem ztL:OpR X (aK .Mult) (rMulQ X.K):=by
 intro pins s σ H x y v u Q I R r h;obtain⟨a,w,n,rfl,rfl,ha,n1,N,q⟩:=h;cases R;obtain⟨t,rfl⟩:=r;obtain⟨its,g,p,_⟩:=I.tuple ha.sq;obtain⟨u,rfl,f⟩:=zch g;obtain⟨⟨cls,dd,data,sl⟩,c,d,k,hd⟩:=id p;simp only at d hd;subst d hd;refine cz (by decide) ⟨_,c,rfl⟩ (fun s'=>b8 s' n t) zf6 F.fills_int_mul yb5 zjC F.slot_int_index.lookup
  (bi yb5 (b8 s n t) F.entry_int_rmul (F.args_int_rmul_2 _ _) (zkd n t a _ k dd sl) ⟨c,rfl,⟨_,c,rfl⟩,?_⟩)
 by_cases e:n=1
 ·subst e;exact bi yb2 ⟨_,c,rfl⟩ F.entry_tuple_mul (F.args_tuple_mul_2 _ _) (zqJ a u t k dd sl) ⟨c,⟨.ref a,H,I,rfl,q a H ha (L2.Same.refl H)⟩⟩
 ·refine bi yb2 ⟨_,c,rfl⟩ F.entry_tuple_mul (F.args_tuple_mul_2 _ _) (zqI a u n t k dd sl (by omega) N) ⟨c,?_⟩;rw[zmJ];have z:(yd n.toNat w).length<=sizeLine:=by
   rw[ya2];have:sizeLine=16777216:=by decide
   omega
  exact⟨.ref s.heap.objs.size,upd H s.heap.objs.size (.tup (yd n.toNat w)),I.laid (t':=s.toks) (fun b o e=>yf _ e) (yc _) ⟨z,yd n.toNat u,zl6 f _,⟨_,yr _ rfl,rfl,0,rfl⟩,_,yr _ rfl,rfl⟩,rfl,q _ _ (.inl zaw) (Same.new (I.hok.fresh (yc _)))⟩
theorem zlz{n:Int}(h:0<=n/\n<=1000/\z.length<=1000):MulOk z n:=by
 obtain⟨h0,h1,a⟩:=h;refine⟨by simp;omega,fun H _=>?_,fun H _=>?_⟩
 ·have d:(1000:Int)<=(2^63-1)/n:=(Int.le_ediv_iff_mul_le (by omega)).mpr (by omega);omega
 ·have c:z.length*n.toNat<=1000*1000:=Nat.mul_le_mul a (by omega);have b:=bf;unfold Builtin.Str.tooLong;simp;omega
def rMulA(K:yb):R2:=fun x y H Q=>(rI CMul fun i j=>.int (i*j)) x y H Q∨(∃z n,x = .str z/\y = .int n/\MulOk z n/\Q (.str (Txt.mul z n)) H)∨rMulQ K x y H Q
theorem za3:OpR X (aK .Mult) (rMulA X.K):=OpR.or op_mul (OpR.or znh ztL)
theorem RepL.rep{α : List ad}{H:Hp}{d:D}{v:V}(h:Rep K α H d v):∀n:Nat,RepL K α H (yd n d) (yd n v)
 |0=>by simp[RepL]|n+1=>by
  rw[y7,y7,RepL];exact⟨v,_,rfl,h,RepL.rep h n⟩
theorem zbB:OpD K cl ex (rMulA K) zdC:=fun α m H x y g V Q W b R h=>by
 rw[zg1]at h;unfold mulR at h;split at h
 ·rw[Rep]at b R;obtain⟨c,h⟩:=PQ.if h;exact .inl ⟨_,_,b,R,c,PQ.ok W h _ zfJ⟩
 ·rw[Rep]at b;rw[Rep]at R;obtain⟨c,h⟩:=PQ.if h;exact .inr (.inl ⟨_,_,b,R,zlz c,PQ.ok W h _ repS⟩)
 ·obtain⟨c,h⟩:=PQ.if h;rw[Rep]at b;rw[Rep]at R;obtain⟨a,xs,rfl,h1,e⟩:=b;rw[RepL]at e;obtain⟨v,r,rfl,f,d⟩:=e;rw[RepL]at d;subst d;refine .inr (.inr ⟨a,v,_,rfl,R,h1,c.1,c.2,fun r H' hr s=>?_⟩);exact PQ.okS W s h _ (by rw[Rep];exact⟨r,_,rfl,hr,(RepL.rep f _).mono W (Ext.of_same W s)⟩)
 ·exact h.elim
end
mutual
def py:D->PyData
 |.bl b=>.bool b|.int i=>.int i|.str x=>.str x|.tup ds=>.tuple (pyL ds)|.lst ds=>.list (pyL ds)|_=>.none
def pyL:List D->List PyData
 |[]=>[]|d::r=>py d::pyL r
end
mutual
def zgQ:D->Bool
 |.non=>ac|.bl _=>ac|.int _=>ac|.str _=>ac|.tup ds=>pyOkL ds|.lst ds=>pyOkL ds|_=>ag
def pyOkL:List D->Bool
 |[]=>ac|d::r=>zgQ d&&pyOkL r
end
def zfa(d:D):Bool:=zgQ d&&SeqAt.shaped (py d)
def eqB(x y:D):Option Bool:=match x,y with
 |.int i,.int j=>aa (decide (i=j))|.str a,.str b=>aa (decide (a=b))|.bl a,.bl b=>aa (decide (a=b))|.non,.non=>aa ac|.non,.int _=>aa ag|.non,.str _=>aa ag|.non,.bl _=>aa ag|.int _,.non=>aa ag|.str _,.non=>aa ag|.bl _,.non=>aa ag|.int _,.str _=>aa ag|.str _,.int _=>aa ag|.bl _,.str _=>aa ag|.str _,.bl _=>aa ag|x,y=>if zfa x&&zfa y then aa (PyData.eqv (py x) (py y)) else none
def rs(m:Sto)(d:D):D:=match d with
 |.ob k=>match m[k]? with
  |some (.lst xs)=>.lst xs|_=>.ob k
 |d=>d
def eqD(x y:D)(m:Sto):Res D:=match eqB (rs m x) (rs m y) with
 |some b=>.ok (.bl b) m|none=>.bad
def neD(x y:D)(m:Sto):Res D:=match eqB (rs m x) (rs m y) with
 |some b=>.ok (.bl (!b)) m|none=>.bad
variable{σ : L2.St}{v:V}{m:Sto}{y:D}{vx vy:V}{b:Bool}
section
variable{pins:List (ad×ar)}{s:ai}
mutual
theorem zbR(I:Inv X pins σ H s):∀{d:D}{v:V}{u:af},zgQ d=ac->Rep X.K α H d v->RelV v u->∃as,Reads s.heap u (py d) as
 |.non,v,u,_,r,R=>by rw[Rep]at r;subst r;cases R;exact⟨_,.none⟩|.bl b,v,u,_,r,R=>by rw[Rep]at r;subst r;cases R;exact⟨_,.bool b⟩|.int i,v,u,_,r,R=>by rw[Rep]at r;subst r;obtain⟨t,rfl⟩:=R;exact⟨_,.int i t⟩
 |.str x,v,u,_,r,R=>by rw[Rep]at r;subst r;obtain⟨t,rfl⟩:=R;exact⟨_,.str x t⟩
 |.tup ds,v,u,ok,r,R=>by
  rw[Rep]at r;obtain⟨a,xs,rfl,h1,e⟩:=r;cases R;obtain⟨its,c,⟨o,g,f,n,E⟩,_⟩:=I.tuple h1.sq;obtain⟨as,h⟩:=rep_readsL I (by rw[zgQ]at ok;exact ok) e c;exact⟨as,.tuple g f E (by simpa using h)⟩
 |.lst ds,v,u,ok,r,R=>by
  rw[Rep]at r;obtain⟨a,xs,rfl,_,h1,e⟩:=r;cases R;obtain⟨its,c,⟨o,n,g,f,_,E⟩,_⟩:=I.list (xs:=xs) (.inl h1);obtain⟨as,h⟩:=rep_readsL I (by rw[zgQ]at ok;exact ok) e c;exact⟨_,.list g f E (by simpa using h)⟩
 |.flt _,_,_,ok,_,_=>by simp[zgQ]at ok|.byt _,_,_,ok,_,_=>by simp[zgQ]at ok|.exn _ _,_,_,ok,_,_=>by simp[zgQ]at ok|.ob _,_,_,ok,_,_=>by simp[zgQ]at ok|.scr _,_,_,ok,_,_=>by simp[zgQ]at ok
theorem rep_readsL(I:Inv X pins σ H s):∀{ds:List D}{vs:List V}{us:List af},pyOkL ds=ac->RepL X.K α H ds vs->Vals vs us->∃as,ReadsAll s.heap us (pyL ds) as
 |[],vs,us,_,r,R=>by rw[RepL]at r;subst r;cases R;exact⟨_,.nil⟩|d::ds,vs,us,ok,r,R=>by
  rw[RepL]at r;obtain⟨v,c,rfl,h1,h2⟩:=r;rw[pyOkL,yy]at ok;cases R with
  |cons a b=>
   obtain⟨as,Q⟩:=zbR I ok.1 h1 a;obtain⟨bs,q⟩:=rep_readsL I ok.2 h2 b;exact⟨_,.cons Q q⟩
end
def zq2(K:yb)(f:Bool->Bool):R2:=fun vx vy H Q=>∃x y α,Rep K α H x vx/\Rep K α H y vy/\zfa x=ac/\zfa y=ac/\Q (.bl (f (PyData.eqv (py x) (py y)))) H
theorem zo9(c:X.A.units+64<aC):OpR X (aB .Eq) (zq2 X.K id):=by
 intro pins s σ H f V v u Q I R r h;obtain⟨x,y,α,b,a,D,d,q⟩:=h;rw[zfa,yy]at D d;obtain⟨as,h1⟩:=zbR I D.1 b R;obtain⟨bs,e⟩:=zbR I d.1 a r;exact eq_dataH h1 e D.2 d.2 c ⟨.bl _,H,I,rfl,q⟩
theorem zo4(c:X.A.units+64<aC):OpR X (aB .NotEq) (zq2 X.K not):=by
 intro pins s σ H f V v u Q I R r h;obtain⟨x,y,α,b,a,D,d,q⟩:=h;rw[zfa,yy]at D d;obtain⟨as,h1⟩:=zbR I D.1 b R;obtain⟨bs,e⟩:=zbR I d.1 a r;exact ne_dataH h1 e D.2 d.2 c ⟨.bl _,H,I,rfl,q⟩
def rEqA(K:yb):R2:=fun x y H Q=>rEq x y H Q∨zq2 K id x y H Q
def rNeA(K:yb):R2:=fun x y H Q=>rNe x y H Q∨zq2 K not x y H Q
theorem zbd(h:X.A.units+64<aC):OpR X (aB .Eq) (rEqA X.K):=OpR.or op_eq (zo9 h)
theorem zeJ(h:X.A.units+64<aC):OpR X (aB .NotEq) (rNeA X.K):=OpR.or op_ne (zo4 h)
mutual
theorem Rep.bare{K:yb}{α : List ad}{H:Hp}:∀{d:D}{v:V},zgQ d=ac->Rep K α H d v->Rep K [] H d v
 |.non,_,_,h=>by simpa [Rep] using h|.bl _,_,_,h=>by simpa [Rep] using h|.int _,_,_,h=>by simpa [Rep] using h|.str _,_,_,h=>by simpa [Rep] using h|.flt _,_,c,_=>by simp[zgQ]at c|.byt _,_,c,_=>by simp[zgQ]at c|.exn _ _,_,c,_=>by simp[zgQ]at c|.ob _,_,c,_=>by simp[zgQ]at c|.scr _,_,c,_=>by simp[zgQ]at c|.tup ds,_,c,h=>by
  rw[Rep]at h ⊢;obtain⟨a,xs,e,h1,h2⟩:=h;rw[zgQ]at c;exact⟨a,xs,e,h1,RepL.bare c h2⟩
 |.lst ds,_,c,h=>by
  rw[Rep]at h ⊢;obtain⟨a,xs,e,n,h1,h2⟩:=h;rw[zgQ]at c;exact⟨a,xs,e,(by simp),h1,RepL.bare c h2⟩
theorem RepL.bare{K:yb}{α : List ad}{H:Hp}:∀{ds:List D}{vs:List V},pyOkL ds=ac->RepL K α H ds vs->RepL K [] H ds vs
 |[],_,_,h=>by rw[RepL]at h ⊢;exact h|_::_,_,c,h=>by
  rw[RepL]at h ⊢;obtain⟨v,r,e,h1,h2⟩:=h;rw[pyOkL,yy]at c;exact⟨v,r,e,Rep.bare c.1 h1,RepL.bare c.2 h2⟩
end
def RepW(K:yb)(α : List ad)(H:Hp)(x:D)(v:V):Prop:=Rep K α H x v∨∃xs a ys,x = .lst xs/\v = .ref a/\H a=aa (.lst ys)/\RepL K α H xs ys
theorem RepW.bare{x:D}(c:zfa x=ac)(h:RepW K α H x v):Rep K [] H x v:=by
 rw[zfa,yy]at c;rcases h with h|⟨xs,a,ys,rfl,rfl,h1,b⟩
 ·exact h.bare c.1
 ·rw[Rep];have c1:=c.1;rw[zgQ]at c1;exact⟨a,ys,rfl,(by simp),.inl h1,b.bare c1⟩
theorem zmf(W:Wd K cl α m H){x:D}(r:Rep K α H x v):RepW K α H (rs m x) v:=by
 unfold rs;split
 ·split
  ·rename_i xs h;rw[Rep]at r;obtain⟨a,h1,rfl⟩:=r;obtain⟨ys,c,b⟩:=(show MoRep K cl α H a (.lst xs) from W.at' _ a _ h1 h);exact .inr ⟨_,a,ys,rfl,rfl,c,b⟩
  ·exact .inl r
 ·exact .inl r
theorem zqf{x:D}(e:eqB x y=aa b)(R:RepW K α H x vx)(r:RepW K α H y vy):(scal vx vy=ac/\decide (vx=vy)=b)∨(zfa x=ac/\zfa y=ac/\PyData.eqv (py x) (py y)=b):=by
 unfold eqB at e;split at e;case h_15=>
  split at e
  ·rename_i h;rw[yy]at h;exact .inr ⟨h.1,h.2,yG e⟩
  ·cases e
 all_goals (
  rcases R with R|⟨_,_,_,z,_⟩;case inr=>cases z
  rcases r with r|⟨_,_,_,z,_⟩;case inr=>cases z
  rw[Rep]at R;rw[Rep]at r;subst R r;refine .inl ⟨rfl,?_⟩;rw[<- yG e];simp)
theorem zb8:OpD K cl ex (rEqA K) eqD:=fun α m H x y V v Q W R r h=>by
 unfold eqD at h;split at h
 ·rename_i b e;have R:=zmf W R;have r:=zmf W r;rcases zqf e R r with⟨h1,a⟩|⟨h1,a,c⟩
  ·exact .inl ⟨h1,by rw[a];exact PQ.ok W h _ zkV⟩
  ·exact .inr ⟨_,_,[],R.bare h1,r.bare a,h1,a,by rw[c];exact PQ.ok W h _ zkV⟩
 ·exact h.elim
theorem ziZ:OpD K cl ex (rNeA K) neD:=fun α m H x y V v Q W R r h=>by
 unfold neD at h;split at h
 ·rename_i b e;have R:=zmf W R;have r:=zmf W r;rcases zqf e R r with⟨h1,a⟩|⟨h1,a,c⟩
  ·exact .inl ⟨h1,by rw[a];exact PQ.ok W h _ zkV⟩
  ·exact .inr ⟨_,_,[],R.bare h1,r.bare a,h1,a,by rw[c];exact PQ.ok W h _ zkV⟩
 ·exact h.elim
end
def ltS(x y:ae):Bool:=decide (x.cps.toList<y.cps.toList)
def ltD(x y:D)(m:Sto):Res D:=match x,y with
 |.int i,.int j=>.ok (.bl (decide (i<j))) m|.str a,.str b=>.ok (.bl (ltS a b)) m|_,_=>.bad
def leD(x y:D)(m:Sto):Res D:=match x,y with
 |.int i,.int j=>.ok (.bl (decide (i<=j))) m|.str a,.str b=>.ok (.bl (!ltS b a)) m|_,_=>.bad
def gtD(x y:D)(m:Sto):Res D:=match x,y with
 |.int i,.int j=>.ok (.bl (decide (j<i))) m|_,_=>.bad
def geD(x y:D)(m:Sto):Res D:=match x,y with
 |.int i,.int j=>.ok (.bl (decide (j<=i))) m|_,_=>.bad
def isB(x y:D):Option Bool:=match x,y with
 |.bl a,.bl b=>aa (a==b)|.non,.non=>aa ac|_,.non=>aa ag|_,_=>none
def isD(x y:D)(m:Sto):Res D:=match isB x y with
 |some b=>.ok (.bl b) m|none=>.bad
def zc5(x y:D)(m:Sto):Res D:=match isB x y with
 |some b=>.ok (.bl (!b)) m|none=>.bad
variable{Q:VK}
section
def rLtA:R2:=fun x y H Q=>(rI0 (fun i j=>.bl (decide (i<j)))) x y H Q∨∃i j,x = .str i/\y = .str j/\Q (.bl (decide (i.cps.toList<j.cps.toList))) H
theorem zce:OpR X (aB .Lt) rLtA:=OpR.or op_lt zo5
theorem zd0:OpD K cl ex rLtA ltD:=fun α m H x y V v Q W R r h=>by
 unfold ltD at h;split at h
 ·rw[Rep]at R r;exact .inl ⟨_,_,R,r,PQ.ok W h _ zkV⟩
 ·rw[Rep]at R r;exact .inr ⟨_,_,R,r,PQ.ok W h _ zkV⟩
 ·exact h.elim
theorem zpl:OpD K cl ex (rI0 (fun i j=>.bl (decide (j<i)))) gtD:=fun α m H x y V v Q W R r h=>by
 unfold gtD at h;split at h
 ·rw[Rep]at R r;exact⟨_,_,R,r,PQ.ok W h _ zkV⟩
 ·exact h.elim
theorem ztW:OpD K cl ex (rI0 (fun i j=>.bl (decide (j<=i)))) geD:=fun α m H x y V v Q W R r h=>by
 unfold geD at h;split at h
 ·rw[Rep]at R r;exact⟨_,_,R,r,PQ.ok W h _ zkV⟩
 ·exact h.elim
def rIs(f:Bool->Bool):R2:=fun x y H Q=>(y = .non/\Q (.bl (f (decide (x = .non)))) H)∨∃b c,x = .bl b/\y = .bl c/\Q (.bl (f (b==c))) H
theorem zcC:OpR X (aB .Is) (rIs id):=OpR.or op_isN op_isT
theorem zc4:OpR X (aB .IsNot) (rIs not):=OpR.or ztK zrm
def isNon:D->Bool
 |.non=>ac|_=>ag
theorem zoD{x:D}(r:Rep K α H x vx):decide (vx = .non)=isNon x:=by
 cases x <;> rw[Rep]at r;case ob=>obtain⟨_,_,rfl⟩:=r;rfl
 case tup=>obtain⟨_,_,rfl,_⟩:=r;rfl
 case lst=>obtain⟨_,_,rfl,_⟩:=r;rfl
 case scr=>obtain⟨_,_,rfl,_⟩:=r;rfl
 case exn=>obtain⟨_,_,_,_,rfl,_⟩:=r;rfl
 all_goals (subst r;rfl)
theorem zpX{x:D}{f:Bool->Bool}(e:isB x y=aa b)(R:Rep K α H x vx)(r:Rep K α H y vy)(q:Q (.bl (f b)) H):rIs f vx vy H Q:=by
 unfold isB at e;split at e
 ·rw[Rep]at R r;exact .inr ⟨_,_,R,r,by rw[yG e];exact q⟩
 ·have h:=zoD R;rw[Rep]at r;exact .inl ⟨r,by rw[h];show Q (.bl (f ac)) H;rw[yG e];exact q⟩
 ·rename_i hn;have h:=zoD R;rw[Rep]at r;refine .inl ⟨r,?_⟩;have:isNon x=ag:=by
   cases x with
   |non=>exact(hn rfl).elim|_=>rfl
  rw[h,this,yG e];exact q
 ·cases e
theorem zeK:OpD K cl ex (rIs id) isD:=fun α m H x y V v Q W R r h=>by
 unfold isD at h;split at h
 ·exact zpX (f:=id) ‹_› R r (PQ.ok W h _ zkV)
 ·exact h.elim
theorem zet:OpD K cl ex (rIs not) zc5:=fun α m H x y V v Q W R r h=>by
 unfold zc5 at h;split at h
 ·exact zpX (f:=not) ‹_› R r (PQ.ok W h _ zkV)
 ·exact h.elim
end
variable{a:ad}{ds:List D}
section
theorem Wd.lst(W:Wd K cl α m H){k:Nat}(h1:α[k]?=aa a)(h:m[k]?=aa (.lst ds)):∃xs,H a=aa (.lst xs)/\RepL K α H ds xs:=W.at' k a _ h1 h
theorem Wd.dct(W:Wd K cl α m H){k:Nat}{ds:List (L2.Key×D)}(h1:α[k]?=aa a)(h:m[k]?=aa (.dct ds)):∃xs,H a=aa (.dK xs)/\RepKV K α H ds xs:=W.at' k a _ h1 h
theorem Wd.set(W:Wd K cl α m H){k:Nat}{u:HO}{o:MO}(h1:α[k]?=aa a)(r:∀_:Ext α H α (upd H a u),MoRep K cl α (upd H a u) a o)(hn:autoParam (∀o v,H a≠aa (.frz o v)) AutoP.a4._auto_1):Wd K cl α (m.set k o) (upd H a u)/\Ext α H α (upd H a u):=by
 have ha:a∈α := yM h1;have E:Ext α H α (upd H a u):=by
  refine⟨⟨[],by simp,fun _ h=>nomatch h⟩,fun b o h n=>by rw[zao (fun z=>n (by rw[z];exact ha))];exact h,fun b p=>?_,fun b o v q=>by rw[zao fun z=>hn o v (by rw[<- z];exact q)];exact q⟩;by_cases c:b=a
  ·rw[c,zaw];exact fun z=>nomatch z
  ·rw[zao c];exact W.has p
 refine⟨⟨by rw[yad];exact W.len,W.nd,fun j b o' d e=>?_⟩,E⟩;by_cases g:k=j
 ·subst g;rw[h1]at d;cases d;have i:k<m.length:=by rw[<- W.len];exact(ye.mp h1).1
  rw[yaQ i]at e;cases e;exact r E
 ·rw[yaZ g]at e;have f:b≠a:=fun z=>by
   subst z;obtain⟨i,t⟩:=ye.mp h1;obtain⟨l,s⟩:=ye.mp d;exact g ((ybK W.nd).mp (t.trans s.symm))
  exact(W.at' j b o' d e).mono W E fun o h=>by rw[zao f];exact h
end
variable{vs:List V}{d:D}
theorem RepL.atI(r:RepL K α H ds vs)(h:L2.atI ds i=aa d):∃v,L2.atI vs i=aa v/\Rep K α H d v:=by
 unfold L2.atI at h ⊢;rw[r.length]at h;cases e:ixN vs.length i with
 |none=>rw[e]at h;cases h|some j=>
  rw[e]at h;exact r.get (i:=j) h
def zd4(kvs:List (L2.Key×D))(k:L2.Key):Option D:=match kvs with
 |[]=>none|p::r=>if p.1=k then aa p.2 else zd4 r k
def zh0(kvs:List (L2.Key×D))(k:L2.Key)(d:D):List (L2.Key×D):=match kvs with
 |[]=>[(k,d)]|p::r=>if p.1=k then (p.1,d)::r.map (fun q=>if q.1=k then (q.1,d) else q) else p::zh0 r k d
theorem RepKV.val{K:yb}{α : List ad}{H:Hp}{k:L2.Key}:∀{ds:List (L2.Key×D)}{vs:List (L2.Key×V)},RepKV K α H ds vs->(∀d,zd4 ds k=aa d->∃v,zjk vs k=aa v/\Rep K α H d v)/\(zd4 ds k=none->zjk vs k=none)
 |[],_,h=>by
  cases (show _=[] from h);exact⟨fun d e=>(nomatch e),fun _=>rfl⟩
 |p::r,_,⟨v,R,e,h1,h2⟩=>by
  subst e;have i:=RepKV.val (k:=k) h2;unfold zd4;by_cases a:p.1=k
  ·rw[if_pos a,zgc a];exact⟨fun d e=>by cases e;exact⟨v,rfl,h1⟩,fun e=>nomatch e⟩
  ·rw[if_neg a,zgd a];exact i
theorem RepKV.length{K:yb}{α : List ad}{H:Hp}:∀{ds:List (L2.Key×D)}{vs:List (L2.Key×V)},RepKV K α H ds vs->ds.length=vs.length
 |[],_,h=>by
  have h:_=[]:=h;subst h;rfl
 |p::r,_,⟨v,R,e,h1,a⟩=>by subst e;rw[yt,yt,RepKV.length a]
theorem RepKV.map{K:yb}{α : List ad}{H:Hp}{k:L2.Key}{d:D}{v:V}(r:Rep K α H d v):∀{ds:List (L2.Key×D)}{vs:List (L2.Key×V)},RepKV K α H ds vs->RepKV K α H (ds.map fun q=>if q.1=k then (q.1,d) else q) (vs.map fun q=>if q.1=k then (q.1,v) else q)
 |[],_,h=>by
  have h:_=[]:=h;subst h;rfl
 |p::t,_,⟨w,R,e,h1,b⟩=>by
  subst e;rw[yl,yl];by_cases a:p.1=k
  ·rw[if_pos a,if_pos a];exact⟨v,_,rfl,r,RepKV.map r b⟩
  ·rw[if_neg a,if_neg a];exact⟨w,_,rfl,h1,RepKV.map r b⟩
theorem RepKV.put{K:yb}{α : List ad}{H:Hp}{k:L2.Key}{d:D}{v:V}(r:Rep K α H d v):∀{ds:List (L2.Key×D)}{vs:List (L2.Key×V)},RepKV K α H ds vs->RepKV K α H (zh0 ds k d) (zeI vs k v)
 |[],_,h=>by
  have h:_=[]:=h;subst h;exact⟨v,[],rfl,r,rfl⟩
 |p::t,_,⟨w,R,e,h1,b⟩=>by
  subst e;unfold zh0;by_cases a:p.1=k
  ·rw[if_pos a];have E:zeI ((p.1,w)::R) k v=(p.1,v)::R.map fun q=>if q.1=k then (q.1,v) else q:=by
    unfold zeI;rw[if_pos (by simp[a]),yl,if_pos a]
   rw[E];exact⟨v,_,rfl,r,RepKV.map r b⟩
  ·rw[if_neg a];have i:=RepKV.put (k:=k) r b;have E:zeI ((p.1,w)::R) k v=(p.1,w)::zeI R k v:=by
    unfold zeI;by_cases ha:(R.any fun kv=>decide (kv.1=k))=ac
    ·rw[if_pos (by rw[ya8,ha,Bool.or_true]),if_pos ha,yl,if_neg a]
    ·rw[if_neg ha,if_neg (by rw[ya8];simp only[decide_eq_false a,ycK];exact ha)];rfl
   rw[E];exact⟨w,_,rfl,h1,i⟩
variable{τ : Type}
def opt(o:Option τ)(m:Sto):Res τ := match o with
 |some d=>.ok d m|none=>.bad
def ixD(x y:D)(m:Sto):Res D:=match x,y with
 |.tup ds,.int i=>opt (L2.atI ds i) m|.lst ds,.int i=>opt (L2.atI ds i) m|.str z,.int i=>if z.length<=sizeLine then opt ((L2.atI z.cps.toList i).map fun c=>D.str ⟨#[c]⟩) m else .bad|.ob k,.int i=>match m[k]? with
  |some (.lst ds)=>opt (L2.atI ds i) m|some (.dct kvs)=>opt (zd4 kvs (.inl i)) m|_=>.bad
 |.ob k,.str z=>match m[k]? with
  |some (.dct kvs)=>opt (zd4 kvs (.inr z)) m|_=>.bad
 |_,_=>.bad
variable{R:RD τ}
section
def rIxD:R2:=fun x y H Q=>∃a v,x = .ref a/\DGet H a y (aa v)/\Q v H
theorem zuk(k:X.A.units+1<aC):IxR X rIxD:=by
 intro value b pins s σ H x y v u Q I j i h hs;obtain⟨a,w,rfl,g,q⟩:=h;cases j;have d:=zlO I g;unfold cq;refine aj ?_;rw[getitemInPython_of_ne d.not_modules];refine aj (wpAny_specialOf d PySem.F.slot_dict_getitem.lookup ?_);have f:wpAny (am X.prog X.w) X.A (subscripted b ag (.ref a) u) (fun r S=>wpAny (am X.prog X.w) X.A (letTemporaryGo value (.ref a) r >>= fun _=>pure r) (EP X pins σ Q) X.xe S) X.xe s:=by
  rw[hs];exact wpAny_operating (aA (zqn k I g i fun W e l R=>(⟨w,H,l,R,q⟩:EP X pins σ Q W e)) (fun r S c=>aj (wpAny_letTemporaryGo (av c))) fun _ _ x=>x)
 first
  |exact av (aj f)
  |exact aj (av (aj f))
  |exact aj f
def rIxA(K:yb):R2:=fun x y H Q=>rIx K x y H Q∨rIxD x y H Q
theorem ix_A(h:X.A.units+1<aC):IxR X (rIxA X.K):=IxR.or ix_seq (zuk h)
theorem zfm{o:Option τ}(h:PQ K cl ex (opt o m) α H R):∃d,o=aa d/\PQ K cl ex (.ok d m) α H R:=by
 cases o with
 |none=>exact h.elim|some d=>exact⟨d,rfl,h⟩
theorem od_ix:OpD K cl ex (rIxA K) ixD:=fun α m H x y i V Q W R r h=>by
 unfold ixD at h;split at h
 ·obtain⟨d,e,h⟩:=zfm h;rw[Rep]at R;rw[Rep]at r;obtain⟨a,xs,rfl,h1,f⟩:=R;obtain⟨v,E,b⟩:=f.atI e;exact .inl (.inr (.inl ⟨a,xs,_,v,rfl,r,h1.sq,E,PQ.ok W h _ b⟩))
 ·obtain⟨d,e,h⟩:=zfm h;rw[Rep]at R;rw[Rep]at r;obtain⟨a,xs,rfl,_,h1,f⟩:=R;obtain⟨v,E,b⟩:=f.atI e;exact .inl (.inl ⟨a,xs,_,v,rfl,r,.inl h1,E,PQ.ok W h _ b⟩)
 ·obtain⟨g,h⟩:=PQ.if h;obtain⟨d,e,h⟩:=zfm h;rw[Rep]at R;rw[Rep]at r;obtain⟨c,E,rfl⟩:=yak.mp e;exact .inl (.inr (.inr ⟨_,_,c,R,r,g,E,PQ.ok W h _ repS⟩))
 ·rw[Rep]at R;rw[Rep]at r;obtain⟨a,ha,rfl⟩:=R;split at h
  ·obtain⟨d,e,h⟩:=zfm h;obtain⟨xs,h1,f⟩:=W.lst ha ‹_›;obtain⟨v,E,b⟩:=f.atI e;exact .inl (.inl ⟨a,xs,_,v,rfl,r,SqL.of h1,E,PQ.ok W h _ b⟩)
  ·obtain⟨d,e,h⟩:=zfm h;obtain⟨xs,h1,f⟩:=W.dct ha ‹_›;obtain⟨v,E,b⟩:=(RepKV.val f).1 d e;refine .inr ⟨a,v,rfl,?_,PQ.ok W h _ b⟩;rw[r,<- E];exact DGet.k (k := .inl _) h1
  ·exact h.elim
 ·rw[Rep]at R;rw[Rep]at r;obtain⟨a,ha,rfl⟩:=R;split at h
  ·obtain⟨d,e,h⟩:=zfm h;obtain⟨xs,h1,f⟩:=W.dct ha ‹_›;obtain⟨v,E,b⟩:=(RepKV.val f).1 d e;refine .inr ⟨a,v,rfl,?_,PQ.ok W h _ b⟩;rw[r,<- E];exact DGet.k (k := .inr _) h1
  ·exact h.elim
 ·exact h.elim
end
def zlP(xs:List τ)(lo hi:Option Int):List τ := (xs.drop (HT.sIx xs.length 0 lo)).take (HT.sIx xs.length xs.length hi-HT.sIx xs.length 0 lo)
theorem RepL.take{K:yb}{α : List ad}{H:Hp}:∀{ds:List D}{vs:List V}(n:Nat),RepL K α H ds vs->RepL K α H (ds.take n) (vs.take n)
 |[],_,_,h=>by rw[RepL]at h;subst h;simp[RepL]|_::_,_,0,h=>by simp[RepL]|_::_,_,n+1,h=>by
  rw[RepL]at h;obtain⟨v,r,rfl,a,b⟩:=h;rw[ydH,ydH,RepL];exact⟨v,_,rfl,a,RepL.take n b⟩
theorem RepL.drop{K:yb}{α : List ad}{H:Hp}:∀{ds:List D}{vs:List V}(n:Nat),RepL K α H ds vs->RepL K α H (ds.drop n) (vs.drop n)
 |_,_,0,h=>h|[],_,n+1,h=>by rw[RepL]at h;subst h;simp[RepL]|_::_,_,n+1,h=>by
  rw[RepL]at h;obtain⟨v,r,rfl,a,b⟩:=h;exact RepL.drop n b
theorem RepL.cut(lo hi:Option Int)(r:RepL K α H ds vs):RepL K α H (zlP ds lo hi) (zsw vs lo hi):=by
 unfold zlP zsw;rw[r.length];exact RepL.take _ (RepL.drop _ r)
abbrev OV:=En->Sto->Res (Option Int)
def zd1:OV:=fun _ m=>.ok none m
def zb9(f:EV):OV:=fun ρ m=>(f ρ m).bind fun d m1=>match d with
 |.int i=>.ok (aa i) m1|_=>.bad
def tDO(K:yb)(cl:ae->ad)(ex:XD)(f:OV):TO:=fun σ H Q=>∃α ρ m,Wd K cl α m H/\RepE K α H ρ σ /\ PQ K cl ex (f ρ m) α H fun d _ _ H'=>Q d H'
structure QO(X:Cx)(cl:ae->ad)(ex:XD)(e:Option ak)(f:OV):Prop where
 out:PO X e (tDO X.K cl ex f)
theorem PO.weak{e:Option ak}{t t':TO}(h:PO X e t)(w:∀σ H Q,t' σ H Q->t σ H Q):PO X e t':=fun pins s σ H Q I q=>h pins s σ H Q I (w σ H Q q)
def slD(x:D)(lo hi:Option Int)(m:Sto):Res D:=match x with
 |.tup ds=>if HT.sIx ds.length 0 lo=0/\HT.sIx ds.length ds.length hi=ds.length then .bad else .ok (.tup (zlP ds lo hi)) m|.lst ds=>.ok (.lst (zlP ds lo hi)) m|.scr ds=>.ok (.lst (zlP ds lo hi)) m|.str z=>if z.length<=sizeLine then .ok (.str (Txt.slice z lo hi)) m else .bad|.ob k=>match m[k]? with
  |some (.lst ds)=>.ok (.lst (zlP ds lo hi)) m|_=>.bad
 |_=>.bad
def eSl(f:EV)(lo hi:OV):EV:=fun ρ m=>(f ρ m).bind fun x m1=>(lo ρ m1).bind fun l m2=>(hi ρ m2).bind fun h m3=>slD x l h m3
variable{fa:EV}{pos:aw}
section
variable{e:ak}{lo hi:OV}{el eh:Option ak}{p2:aw}
theorem zcJ:QO X cl ex none zd1:=⟨PO.weak ztq fun σ H Q a=>ex3 a fun α ρ m W hr h=>PQ.ok W h⟩
theorem zbx(hq:QE X cl ex e fa):QO X cl ex (aa e) (zb9 fa):=⟨PO.weak (ztp hq.out) fun σ H Q b=>ex3 b fun α ρ m W hr h=>tD.use W hr h fun a m1 c d v E w hr1 r q=>by
 split at q
 ·rw[Rep]at r;exact⟨_,r,PQ.ok w q⟩
 ·exact q.elim⟩
theorem tDO.use{ρ : En}{f:OV}{k:Option Int->Sto->Res τ}{Q:Option Int->Hp->Prop}(W:Wd K cl α m H)(hr:RepE K α H ρ σ)(h:PQ K cl ex ((f ρ m).bind k) α H R)(hQ:∀a m1 H1 d,Ext α H a H1->Wd K cl a m1 H1->RepE K a H1 ρ σ -> PQ K cl ex (k d m1) a H1 R->Q d H1):tDO K cl ex f σ H Q :=
 ⟨α,ρ,m,W,hr,PQ.mono (Ext.refl W) h.bind fun d a m1 H1 E w q=>hQ a m1 H1 d E w (hr.mono W E) q⟩
theorem zf3(n:QE X cl ex e fa)(hl:QO X cl ex el lo)(b:QO X cl ex eh hi):QE X cl ex (.Subscript e (.Slice el eh none p2) pos) (eSl fa lo hi) :=
 ⟨PE.weak (zmp (SlR.or zr5 (SlR.or zom zr4)) n.out hl.out b.out) fun σ H Q b=>ex3 b fun α ρ m W hr h=>
  tD.use W hr h fun i m1 z d v A c hr1 r k=>tDO.use c hr1 k fun g m2 y l t s hr2 j=>tDO.use s hr2 j fun f M x u E w hr3 q=>by
   have r:=r.mono c (t.trans E);unfold slD at q;split at q
   ·split at q
    ·exact q.elim
    ·rename_i hn;rw[Rep]at r;obtain⟨a,xs,rfl,h1,R⟩:=r;refine .inl ⟨a,xs,rfl,h1.sq,by rw[<- R.length];exact hn,fun p hp=>?_⟩;exact PQ.okS w (Same.new hp) q _ (zbE w hp (R.cut l u))
   ·rw[Rep]at r;obtain⟨a,xs,rfl,_,h1,R⟩:=r;exact .inr (.inl ⟨a,xs,rfl,.inl h1,fun p hp=>PQ.okS w (Same.new hp) q _ (zbF w hp (R.cut l u))⟩)
   ·rw[Rep]at r;obtain⟨a,xs,rfl,h1,R⟩:=r;exact .inr (.inl ⟨a,xs,rfl,h1.sq,fun p hp=>PQ.okS w (Same.new hp) q _ (zbF w hp (R.cut l u))⟩)
   ·rw[Rep]at r;obtain⟨o,q⟩:=PQ.if q;exact .inr (.inr ⟨_,r,o,PQ.ok w q _ repS⟩)
   ·rw[Rep]at r;obtain⟨a,ha,rfl⟩:=r;split at q
    ·obtain⟨xs,h1,R⟩:=w.lst ha ‹_›;exact .inr (.inl ⟨a,xs,rfl,SqL.of h1,fun p hp=>PQ.okS w (Same.new hp) q _ (zbF w hp (R.cut l u))⟩)
    ·exact q.elim
   ·exact q.elim⟩
end
section
theorem RepL.one_of(h:RepL K α H [d] vs):∃v,vs=[v]/\Rep K α H d v:=by
 rw[RepL]at h;obtain⟨v,r,rfl,a,b⟩:=h;rw[RepL]at b;subst b;exact⟨v,rfl,a⟩
theorem RepL.two_of{e:D}(h:RepL K α H [d,e] vs):∃v w,vs=[v,w]/\Rep K α H d v/\Rep K α H e w:=by
 rw[RepL]at h;obtain⟨v,r,rfl,a,b⟩:=h;obtain⟨w,rfl,c⟩:=b.one_of;exact⟨v,w,rfl,a,c⟩
def zew(ds:List D)(m:Sto):Res D:=match ds with
 |[.tup xs]=>.ok (.int xs.length) m|[.lst xs]=>.ok (.int xs.length) m|[.scr xs]=>.ok (.int xs.length) m|[.str z]=>if z.length<=sizeLine then .ok (.int z.length) m else .bad|[.ob k]=>match m[k]? with
  |some (.lst xs)=>.ok (.int xs.length) m|some (.dct xs)=>.ok (.int xs.length) m|_=>.bad
 |_=>.bad
def rLen(K:yb):List V->Hp->VK->Prop:=fun xs H Q=>(∃p ys,xs=[.ref p]/\(SqL K H p ys∨SqT K H p ys)/\Q (.int ys.length) H)∨(∃z,xs=[.str z]/\z.length<=sizeLine/\Q (.int z.length) H)∨∃a kvs,xs=[V.ref a]/\H a=aa (.dK kvs)/\Q (.int kvs.length) H
theorem zqu:CallR X (.builtin "len") (fun xs H Q=>∃a kvs,xs=[V.ref a]/\H a=aa (.dK kvs)/\Q (.int kvs.length) H):=by
 intro pins s σ H xs us Q I r h;obtain⟨a,kvs,rfl,e,q⟩:=h;obtain⟨u,rfl,R⟩:=zch r;cases R;exact d_len I (.inl e) fun t s' i=>⟨.int kvs.length,H,i,⟨t,rfl⟩,q⟩
theorem zaY:CallR X (.builtin "len") (rLen X.K):=CallR.or zkI (CallR.or zkH zqu)
theorem zcx:FnD K cl ex (rLen K) zew:=fun α m H x V Q W b h=>by
 unfold zew at h;split at h
 ·obtain⟨v,rfl,r⟩:=b.one_of;rw[Rep]at r;obtain⟨a,xs,rfl,h1,R⟩:=r;exact .inl ⟨a,xs,rfl,.inr h1.sq,by rw[<- R.length];exact PQ.ok W h _ zfJ⟩
 ·obtain⟨v,rfl,r⟩:=b.one_of;rw[Rep]at r;obtain⟨a,xs,rfl,_,h1,R⟩:=r;exact .inl ⟨a,xs,rfl,.inl (.inl h1),by rw[<- R.length];exact PQ.ok W h _ zfJ⟩
 ·obtain⟨v,rfl,r⟩:=b.one_of;rw[Rep]at r;obtain⟨a,xs,rfl,h1,R⟩:=r;exact .inl ⟨a,xs,rfl,.inl h1.sq,by rw[<- R.length];exact PQ.ok W h _ zfJ⟩
 ·obtain⟨v,rfl,r⟩:=b.one_of;rw[Rep]at r;subst r;obtain⟨c,h⟩:=PQ.if h;exact .inr (.inl ⟨_,rfl,c,PQ.ok W h _ zfJ⟩)
 ·obtain⟨v,rfl,r⟩:=b.one_of;rw[Rep]at r;obtain⟨a,ha,rfl⟩:=r;split at h
  ·obtain⟨xs,h1,R⟩:=W.lst ha ‹_›;exact .inl ⟨a,xs,rfl,.inl (SqL.of h1),by rw[<- R.length];exact PQ.ok W h _ zfJ⟩
  ·obtain⟨xs,h1,R⟩:=W.dct ha ‹_›;exact .inr (.inr ⟨a,xs,rfl,h1,by rw[<- R.length];exact PQ.ok W h _ zfJ⟩)
  ·exact h.elim
 ·exact h.elim
def znG(ds:List D)(m:Sto):Res D:=match ds with
 |[.int i]=>.ok (.int i) m|[.bl b]=>.ok (.int (if b then 1 else 0)) m|[.str z]=>match ybp z with
  |some n=>if z.length<=640 then .ok (.int n) m else .bad|none=>.bad
 |_=>.bad
def rInt:List V->Hp->VK->Prop:=fun xs H Q=>((∃i,xs=[.int i]/\Q (.int i) H)∨∃k,xs=[.bl k]/\Q (.int (if k then 1 else 0)) H)∨∃z n,xs=[.str z]/\ybp z=aa n/\z.length<=640/\Q (.int n) H
theorem zhq:CallR X (.type "int") rInt:=CallR.or zqw zkJ
theorem zqc:FnD K cl ex rInt znG:=fun α m H x V Q W R h=>by
 unfold znG at h;split at h
 ·obtain⟨v,rfl,r⟩:=R.one_of;rw[Rep]at r;subst r;exact .inl (.inl ⟨_,rfl,PQ.ok W h _ zfJ⟩)
 ·obtain⟨v,rfl,r⟩:=R.one_of;rw[Rep]at r;subst r;exact .inl (.inr ⟨_,rfl,PQ.ok W h _ zfJ⟩)
 ·obtain⟨v,rfl,r⟩:=R.one_of;rw[Rep]at r;subst r;split at h
  ·obtain⟨a,h⟩:=PQ.if h;exact .inr ⟨_,_,rfl,‹_›,a,PQ.ok W h _ zfJ⟩
  ·exact h.elim
 ·exact h.elim
def strF(ds:List D)(m:Sto):Res D:=match ds with
 |[.int i]=>if i.natAbs.log2<1920 then .ok (.str (toString i)) m else .bad|_=>.bad
theorem fd_str:FnD K cl ex (fun xs H Q=>∃i,xs=[.int i]/\i.natAbs.log2<1920/\Q (.str (toString i)) H) strF:=fun α m H x V Q W R h=>by
 unfold strF at h;split at h
 ·obtain⟨v,rfl,r⟩:=R.one_of;rw[Rep]at r;subst r;obtain⟨a,h⟩:=PQ.if h;exact⟨_,rfl,a,PQ.ok W h _ repS⟩
 ·exact h.elim
def absF(ds:List D)(m:Sto):Res D:=match ds with
 |[.int i]=>.ok (.int (if i<0 then -i else i)) m|_=>.bad
theorem zsq:FnD K cl ex (fun xs H Q=>∃i,xs=[.int i]/\Q (.int (if i<0 then -i else i)) H) absF:=fun α m H x V Q W R h=>by
 unfold absF at h;split at h
 ·obtain⟨v,rfl,r⟩:=R.one_of;rw[Rep]at r;subst r;exact⟨_,rfl,PQ.ok W h _ zfJ⟩
 ·exact h.elim
def zi4(ds:List D)(m:Sto):Res D:=match ds with
 |[.int i,.int j]=>.ok (.int (if j>i then j else i)) m|_=>.bad
theorem zqb:FnD K cl ex (fun xs H Q=>∃i j,xs=[.int i,.int j]/\Q (.int (if j>i then j else i)) H) zi4:=fun α m H x V Q W a h=>by
 unfold zi4 at h;split at h
 ·obtain⟨v,w,rfl,R,r⟩:=a.two_of;rw[Rep]at R r;subst R r;exact⟨_,_,rfl,PQ.ok W h _ zfJ⟩
 ·exact h.elim
def zrv(ds:List D)(m:Sto):Res D:=match ds with
 |[.int i,.int j]=>.ok (.int (if j<i then j else i)) m|_=>.bad
theorem zup:FnD K cl ex (fun xs H Q=>∃i j,xs=[.int i,.int j]/\Q (.int (if j<i then j else i)) H) zrv:=fun α m H x V Q W a h=>by
 unfold zrv at h;split at h
 ·obtain⟨v,w,rfl,R,r⟩:=a.two_of;rw[Rep]at R r;subst R r;exact⟨_,_,rfl,PQ.ok W h _ zfJ⟩
 ·exact h.elim
def zqB(ds:List D)(m:Sto):Res D:=match ds with
 |[.lst xs]=>.ok (.tup xs) m|[.tup xs]=>.ok (.tup xs) m|[.ob k]=>match m[k]? with
  |some (.lst xs)=>.ok (.tup xs) m|_=>.bad
 |[.str z]=>if z.cps.size<=sizeLine then .ok (.tup (zdZ z)) m else .bad|_=>.bad
def rTup(K:yb):List V->Hp->VK->Prop:=fun xs H Q=>(∃p ys,xs=[.ref p]/\((SqL K H p ys/\∀l,H l=none->Q (.ref l) (upd H l (.tup ys)))∨(SqT K H p ys/\Q (.ref p) H)))∨∃z,xs=[.str z]/\z.cps.size<=sizeLine/\∀l,H l=none->Q (.ref l) (upd H l (.tup ((yw z.cps.size).map (sgn z))))
theorem zcY(h:X.calm=ac):CallR X (.type "tuple") (rTup X.K):=CallR.or zji (zhL h)
theorem zoC:RepL K α H (zdZ z) ((yw z.cps.size).map (sgn z)):=by
 unfold zdZ;generalize yw z.cps.size=l;induction l with
 |nil=>simp[RepL]|cons i r I=>rw[yl,yl,RepL];exact⟨_,_,rfl,by rw[Rep];rfl,I⟩
theorem zid:FnD K cl ex (rTup K) zqB:=fun α m H x V Q W R h=>by
 unfold zqB at h;split at h
 ·obtain⟨v,rfl,r⟩:=R.one_of;rw[Rep]at r;obtain⟨a,xs,rfl,_,h1,b⟩:=r;exact .inl ⟨a,xs,rfl,.inl ⟨.inl h1,fun l hl=>PQ.okS W (Same.new hl) h _ (zbE W hl b)⟩⟩
 ·obtain⟨v,rfl,r⟩:=R.one_of;have c:=r;rw[Rep]at r;obtain⟨a,xs,rfl,h1,b⟩:=r;exact .inl ⟨a,xs,rfl,.inr ⟨h1.sq,PQ.ok W h _ c⟩⟩
 ·obtain⟨v,rfl,r⟩:=R.one_of;rw[Rep]at r;obtain⟨a,ha,rfl⟩:=r;split at h
  ·obtain⟨xs,h1,b⟩:=W.lst ha ‹_›;exact .inl ⟨a,xs,rfl,.inl ⟨SqL.of h1,fun l hl=>PQ.okS W (Same.new hl) h _ (zbE W hl b)⟩⟩
  ·exact h.elim
 ·obtain⟨v,rfl,r⟩:=R.one_of;rw[Rep]at r;subst r;obtain⟨d,h⟩:=PQ.if h;exact .inr ⟨_,rfl,d,fun l hl=>PQ.okS W (Same.new hl) h _ (zbE W hl zoC)⟩
 ·exact h.elim
def zed:List D->Option (List Int)
 |[]=>aa []|.int i::r=>(zed r).map (i :: ·)|_=>none
def znT:List D->Option (List Bool)
 |[]=>aa []|.bl i::r=>(znT r).map (i :: ·)|_=>none
def asStrs:List D->Option (List ae)
 |[]=>aa []|.str i::r=>(asStrs r).map (i :: ·)|_=>none
theorem zcZ:∀{ds:List D}{ns:List Int}{vs:List V},zed ds=aa ns->RepL K α H ds vs->vs=ns.map V.int
 |[],ns,vs,e,r=>by cases e;rw[RepL]at r;exact r|d::t,ns,vs,e,r=>by
  unfold zed at e;split at e
  ·exact absurd ‹d::t=[]› (by simp)
  ·rename_i i t' e1;cases e1;obtain⟨m,e2,rfl⟩:=yak.mp e;rw[RepL]at r;obtain⟨v,R,rfl,a,b⟩:=r;rw[Rep]at a;subst a;rw[zcZ e2 b];rfl
  ·cases e
theorem zkP:∀{ds:List D}{ns:List Bool}{vs:List V},znT ds=aa ns->RepL K α H ds vs->vs=ns.map V.bl
 |[],ns,vs,e,r=>by cases e;rw[RepL]at r;exact r|d::t,ns,vs,e,r=>by
  unfold znT at e;split at e
  ·exact absurd ‹d::t=[]› (by simp)
  ·rename_i i t' e1;cases e1;obtain⟨m,e2,rfl⟩:=yak.mp e;rw[RepL]at r;obtain⟨v,R,rfl,a,b⟩:=r;rw[Rep]at a;subst a;rw[zkP e2 b];rfl
  ·cases e
def lOf(d:D)(m:Sto):Option (List D):=match d with
 |.lst xs=>aa xs|.ob k=>match m[k]? with
  |some (.lst xs)=>aa xs|_=>none
 |_=>none
theorem zi6{xs:List D}(W:Wd K cl α m H)(e:lOf d m=aa xs)(r:Rep K α H d v):∃p ys,v = .ref p/\SqL K H p ys/\RepL K α H xs ys:=by
 unfold lOf at e;split at e
 ·cases e;rw[Rep]at r;obtain⟨a,ys,rfl,_,h1,R⟩:=r;exact⟨a,ys,rfl,.inl h1,R⟩
 ·rw[Rep]at r;obtain⟨a,ha,rfl⟩:=r;split at e
  ·cases e;obtain⟨ys,h1,R⟩:=W.lst ha ‹_›;exact⟨a,ys,rfl,SqL.of h1,R⟩
  ·cases e
 ·cases e
def zsI(ns:List Int):Prop:=(∀a,a∈ns->0<=a/\a<=2^50)/\ns.length<=1000
instance(ns:List Int):Decidable (zsI ns):=by unfold zsI;infer_instance
def zsJ(ds:List D)(m:Sto):Res D:=match ds with
 |[d]=>match (lOf d m).bind zed with
  |some ns=>if zsI ns then .ok (.int ns.sum) m else .bad|none=>.bad
 |_=>.bad
theorem zsp:FnD K cl ex (fun xs H Q=>∃(l:ad)(ns:List Int),xs=[.ref l]/\SqL K H l (ns.map V.int)/\(∀a,a∈ns->0<=a/\a<=2^50)/\ns.length<=1000/\Q (.int ns.sum) H) zsJ:=fun α m H x f Q W r h=>by
 unfold zsJ at h;split at h
 ·split at h
  ·rename_i ns e;obtain⟨b,h⟩:=PQ.if h;obtain⟨v,rfl,R⟩:=r.one_of;obtain⟨xs,d,E⟩:=yby.mp e;obtain⟨p,ys,rfl,h1,c⟩:=zi6 W d R;rw[zcZ E c]at h1;exact⟨p,ns,rfl,h1,b.1,b.2,PQ.ok W h _ zfJ⟩
  ·exact h.elim
 ·exact h.elim
def allF(ds:List D)(m:Sto):Res D:=match ds with
 |[d]=>match (lOf d m).bind znT with
  |some bs=>.ok (.bl (bs.all id)) m|none=>.bad
 |_=>.bad
theorem fd_all:FnD K cl ex (fun xs H Q=>∃(l:ad)(bs:List Bool),xs=[.ref l]/\SqL K H l (bs.map V.bl)/\Q (.bl (bs.all id)) H) allF:=fun α m H x c Q W r h=>by
 unfold allF at h;split at h
 ·split at h
  ·rename_i ns e;obtain⟨v,rfl,R⟩:=r.one_of;obtain⟨xs,b,E⟩:=yby.mp e;obtain⟨p,ys,rfl,h1,a⟩:=zi6 W b R;rw[zkP E a]at h1;exact⟨p,ns,rfl,h1,PQ.ok W h _ zkV⟩
  ·exact h.elim
 ·exact h.elim
end
def zfy(ty:D->Sto->Bool)(g:D->List D->Sto->Res D)(fo:EV)(fr:AV):EV:=fun ρ m=>(fo ρ m).bind fun o m1=>if ty o m1=ac then (fr ρ m1).bind fun ds m2=>g o ds m2 else .bad
def MtD(K:yb)(cl:ae->ad)(ex:XD)(r:V->List V->Hp->VK->Prop)(g:D->List D->Sto->Res D):Prop :=
 ∀(α : List ad)(m:Sto)(H:Hp)(x:D)(xs:List D)(vx:V)(vs:List V)(Q:VK),Wd K cl α m H->Rep K α H x vx->RepL K α H xs vs->PQ K cl ex (g x xs m) α H (fun d α' _ H'=>∀v,Rep K α' H' d v->Q v H')->r vx vs H Q
def isStr(d:D)(_:Sto):Bool:=match d with
 |.str _=>ac|_=>ag
def zfp(d:D)(m:Sto):Bool:=match d with
 |.lst _=>ac|.ob k=>match m[k]? with
  |some (.lst _)=>ac|_=>ag
 |_=>ag
def zrD(d:D)(_:Sto):Bool:=match d with
 |.tup _=>ac|_=>ag
variable{o:ak}{es:List ak}{fo:EV}{name:ae}{apos cpos:aw}{r:V->List V->Hp->VK->Prop}
section
variable{e:ak}{fr:AV}{T id:String}{g:D->List D->Sto->Res D}{ty:D->Sto->Bool}
theorem zjn(h:zfp d m=ac)(W:Wd K cl α m H)(r:Rep K α H d v):tyV K "list" v H:=by
 unfold zfp at h;split at h
 ·rw[Rep]at r;obtain⟨a,ys,rfl,_,h1,R⟩:=r;exact .inl ⟨rfl,ys,.inl h1⟩
 ·rw[Rep]at r;obtain⟨a,ha,rfl⟩:=r;split at h
  ·obtain⟨ys,h1,_⟩:=W.lst ha ‹_›;exact .inl ⟨rfl,ys,SqL.of h1⟩
  ·cases h
 ·cases h
theorem tBM_of(b:∀{α : List ad}{m:Sto}{H:Hp}{d:D}{v:V},ty d m=ac->Wd X.K cl α m H->Rep X.K α H d v->tyV X.K T v H)(hd:MtD X.K cl ex r g):∀σ H Q,tD X.K cl ex (zfy ty g fo fr) σ H Q->tBM X.K T r (tD X.K cl ex fo) (tDA X.K cl ex fr) σ H Q:=fun σ H Q j=>ex3 j fun α ρ m W hr h=>
 tD.use W hr h fun e m1 n d v o w hr1 c q=>by
  obtain⟨i,q⟩:=PQ.if q;exact⟨b i w c,tDA.use w hr1 q fun a m2 l ds vs E k hr2 R f=>hd a m2 l d ds v vs Q k (c.mono w E) R f⟩
theorem zoJ(p:PlainAttrs T)(slot:Slot T name id)(f:typeOf (.builtin id)=pure (.type "method_descriptor"))(hm:MtR X id r)(j:∀{α : List ad}{m:Sto}{H:Hp}{d:D}{v:V},ty d m=ac->Wd X.K cl α m H->Rep X.K α H d v->tyV X.K T v H)(hd:MtD X.K cl ex r g)(i:QE X cl ex o fo)(ha:QA X cl ex (e::es) fr)(b:autoParam (br o name X.env (eval o X.env)=eval o X.env) AutoP.a3._auto_1)(c:autoParam (((az cpos (ap (e::es) X.env)).all (fun x=> !x.1)&&(aL cpos (aM [] X.env)).all (fun x=>x.1.isSome)&&decide ((e::es).length+([]:List aS).length+(if ([]:List aS).isEmpty then 0 else 1)<30))=ac) AutoP.a3._auto_1)(a:autoParam ((apos.endLine==cpos.line)=ac) AutoP.a3._auto_1)(hs:autoParam (ap (e::es) X.env=(ag,eval e X.env)::ap es X.env) AutoP.a3._auto_1)(h:autoParam ((az cpos (ap es X.env)).any (·.1)=ag) AutoP.a3._auto_1) : QE X cl ex (.Call (.Attribute o name apos) (e::es) [] cpos) (zfy ty g fo fr) :=
 ⟨PE.weak (pe_bm p slot f hm i.out ha.out b c a hs h) (tBM_of j hd)⟩
def zdf(o:D)(ds:List D)(m:Sto):Res D:=match o,ds with
 |.ob k,[d]=>match m[k]? with
  |some (.lst xs)=>if xs.length<sizeLine then .ok .non (m.set k (.lst (xs++[d]))) else .bad|_=>.bad
 |_,_=>.bad
theorem zeO:MtD K cl ex zoH zdf:=fun α m H x xs V vs Q W R r h=>by
 unfold zdf at h;split at h
 ·split at h
  ·rename_i k d _ ds e;obtain⟨f,h⟩:=PQ.if h;rw[Rep]at R;obtain⟨a,ha,rfl⟩:=R;obtain⟨v,rfl,c⟩:=r.one_of;obtain⟨ys,h1,b⟩:=W.lst ha e;obtain⟨w,g⟩:=W.set (u := .lst (ys++[v])) (o := .lst (ds++[d])) ha fun E=>⟨_,zaw,RepL.append (b.mono W E) (RepL.one (c.mono W E))⟩;exact⟨a,ys,v,rfl,rfl,h1,by rw[<- b.length];exact f,h _ _ g w _ repN⟩
  ·exact h.elim
 ·exact h.elim
def popM(o:D)(ds:List D)(m:Sto):Res D:=match o,ds with
 |.ob k,[.int i]=>match m[k]? with
  |some (.lst xs)=>if -(2^63)<=i/\i<2^63 then match bS i xs.length with
   |some j=>match xs[j]? with
    |some d=>.ok d (m.set k (.lst (xs.eraseIdx j)))|none=>.bad
   |none=>.bad else .bad
  |_=>.bad
 |_,_=>.bad
theorem RepL.erase(j:Nat)(r:RepL K α H ds vs):RepL K α H (ds.eraseIdx j) (vs.eraseIdx j):=by
 rw[ydI,ydI];exact RepL.append (r.take j) (r.drop (j+1))
theorem md_pop:MtD K cl ex zr7 popM:=fun α m H x xs V vs Q W c r h=>by
 unfold popM at h;split at h
 ·split at h
  ·rename_i k i _ ds e;obtain⟨g,h⟩:=PQ.if h;rw[Rep]at c;obtain⟨a,ha,rfl⟩:=c;obtain⟨v,rfl,f⟩:=r.one_of;rw[Rep]at f;subst f;obtain⟨ys,h1,b⟩:=W.lst ha e;split at h
   ·rename_i j p;split at h
    ·rename_i d q;obtain⟨w,n,R⟩:=b.get q;obtain⟨s,l⟩:=W.set (u := .lst (ys.eraseIdx j)) (o := .lst (ds.eraseIdx j)) ha fun E=>⟨_,zaw,(b.mono W E).erase j⟩;exact⟨a,ys,i,j,w,rfl,rfl,h1,g.1,g.2,by rw[<- b.length];exact p,n,h _ _ l s _ (R.mono W l)⟩
    ·exact h.elim
   ·exact h.elim
  ·exact h.elim
 ·exact h.elim
end
variable{x:ae}{p:aw}
section
theorem znx:MtM X "tuple.index" (fun x xs H Q=>∃(a:ad)(ns:List Int)(v:Int)(j:Nat)(h:j<ns.length),x = .ref a/\xs=[.int v]/\SqT X.K H a (ns.map V.int)/\ns[j]=v/\(∀m (hm:m<ns.length),m<j->ns[m]≠v)/\Q (.int (j:Int)) H):=by
 intro pins s σ H x xs v us Q I R rs h;obtain⟨a,ns,z,j,A,rfl,rfl,ha,o,d,q⟩:=h;cases R;obtain⟨u,rfl,t,rfl⟩:=zch rs;obtain⟨its,r,p,_⟩:=I.tuple ha;have k:ns.length=its.length:=by rw[<- r.length,yg]
 have c:∀m (hm:m<ns.length),∃t',its[m]'(by omega) = .int ns[m] t':=fun m hm=>by
  obtain⟨t',e⟩:=zn4 r (i:=m) (v:=its[m]'(by omega)) (by simp);refine⟨t',?_⟩;rw[e,zp2 hm]
 have f1:zku (.int z)=ac:=rfl;have f2:(ns.map V.int).all zku=ac:=by simp[zku]
 obtain⟨⟨cls,dd,data,sl⟩,g,l,n,hd⟩:=id p;simp only at l hd;subst l hd;refine bi ydJ ⟨_,g,rfl⟩ PySem.F.entry_tuple_index (PySem.F.args_tuple_index_2 _ _) (zin a its.toArray n dd sl (.int z t) (eqU (.int z)) j (by simp;omega) ?_ ?_) ⟨g,?_,?_⟩
 ·obtain⟨t',e⟩:=c j A;simp only[ydK];rw[e,o];show eqV (.int z) (.int z)=ac;simp[eqV]
 ·intro m hm f;have b:m<ns.length:=by simp at hm;omega
  obtain⟨t',e⟩:=c m b;simp only[ydK];rw[e];show eqV (.int ns[m]) (.int z)=ag;have:=d m b f;simp[eqV,this]
 ·intro y w;exact zmu (x := .int z) ⟨t,rfl⟩ f1 r f2 y (by simpa using w)
 ·exact⟨.int (j:Int),H,I.tok _,⟨_,rfl⟩,q⟩
def tBMQ(K:yb)(r:V->List V->Hp->VK->Prop)(T:TE)(t:TA):TE:=fun σ H Q=>T σ H fun x H1=>(∃p xs,x = .ref p/\TupAt K H1 p xs)/\t σ H1 fun ys H2=>r x ys H2 Q
theorem pe_bmQ{e:ak}{T:TE}{t:TA}{id:String}(slot:Slot "tuple" name id)(g:typeOf (.builtin id)=pure (.type "method_descriptor"))(hm:MtR X id r)(u:PE X o T)(ha:PA X [e] t)(c:autoParam (br o name X.env (eval o X.env)=eval o X.env) AutoP.a3._auto_1)(d:autoParam (((az cpos (ap [e] X.env)).all (fun x=> !x.1)&&(aL cpos (aM [] X.env)).all (fun x=>x.1.isSome)&&decide (([e]:List ak).length+([]:List aS).length+(if ([]:List aS).isEmpty then 0 else 1)<30))=ac) AutoP.a3._auto_1)(b:autoParam ((apos.endLine==cpos.line)=ac) AutoP.a3._auto_1)(hs:autoParam (ap [e] X.env=[(ag,eval e X.env)]) AutoP.a3._auto_1) : PE X (.Call (.Attribute o name apos) [e] [] cpos) (tBMQ X.K r T t):=by
 intro pins s σ H Q I h;refine wpAny_Call_method_late c d b rfl (thn (u pins s σ H _ I h) ?_);rintro v s1 ⟨x,l,j,m,⟨p,xs,ex,hp⟩,n⟩;subst ex;cases m;obtain⟨ob,h1,i,f⟩:∃ob,s1.heap.get? p=aa ob/\ob.cls = .type "tuple" /\ ob.dict=none:=by
  rcases hp with hp|⟨o,_,_,k1,k2,k3,_⟩
  ·obtain⟨_,_,_,⟨ob,h1,i,_⟩,od,f,w⟩:=(show ObjOk X.prog X.w l s1.heap p (.tup xs) from j.hok p _ hp);rw[h1]at f;cases f;exact⟨ob,h1,i,w⟩
  ·exact⟨o,j.kIn p o k1,k2,k3⟩
 refine⟨"tuple", id,PySem.F.plainAttrs_tuple,slot,g,⟨ob,h1,i⟩,fun a e=>by cases e;exact⟨ob,h1,f⟩,?_⟩;have k:=ha cpos pins s1 σ l _ j n;rw[hs]at k ⊢;refine ycA rfl (ycB ?_);refine thn k ?_;rintro us s2 ⟨vs,z,y,R,q⟩;exact hm pins s2 σ z (.ref p) vs (.ref p) us Q y rfl R q
def zeg(o:D)(ds:List D)(m:Sto):Res D:=match o,ds with
 |.tup xs,[.int v]=>match zed xs with
  |some ns=>if v∈ns then .ok (.int (ns.idxOf v)) m else .bad|none=>.bad
 |_,_=>.bad
theorem zpx:MtD K cl ex (fun x xs H Q=>∃(a:ad)(ns:List Int)(v:Int)(j:Nat)(h:j<ns.length),x = .ref a/\xs=[.int v]/\SqT K H a (ns.map V.int)/\ns[j]=v/\(∀m (hm:m<ns.length),m<j->ns[m]≠v)/\Q (.int (j:Int)) H) zeg:=fun α m H x xs g vs Q W R r h=>by
 unfold zeg at h;split at h
 ·split at h
  ·rename_i ns e;obtain⟨f,h⟩:=PQ.if h;rw[Rep]at R;obtain⟨a,ys,rfl,h1,d⟩:=R;obtain⟨v,rfl,c⟩:=r.one_of;rw[Rep]at c;subst c;have hl:=List.idxOf_lt_length_of_mem f;rw[zcZ e d]at h1;refine⟨a,ns,_,_,hl,rfl,rfl,h1.sq,List.getElem_idxOf hl,fun k i b z=>?_,PQ.ok W h _ zfJ⟩;have:=List.not_of_lt_findIdx (xs:=ns) (p:=(· == _)) (by unfold List.idxOf at b;exact b);simp[z]at this
  ·exact h.elim
 ·exact h.elim
theorem zjG{e:ak}{fr:AV}(l:QE X cl ex o fo)(ha:QA X cl ex [e] fr)(c:autoParam (br o "index" X.env (eval o X.env)=eval o X.env) AutoP.a3._auto_1)(f:autoParam (((az cpos (ap [e] X.env)).all (fun x=> !x.1)&&(aL cpos (aM [] X.env)).all (fun x=>x.1.isSome)&&decide (([e]:List ak).length+([]:List aS).length+(if ([]:List aS).isEmpty then 0 else 1)<30))=ac) AutoP.a3._auto_1)(b:autoParam ((apos.endLine==cpos.line)=ac) AutoP.a3._auto_1)(hs:autoParam (ap [e] X.env=[(ag,eval e X.env)]) AutoP.a3._auto_1) : QE X cl ex (.Call (.Attribute o "index" apos) [e] [] cpos) (zfy zrD zeg fo fr) :=
 ⟨PE.weak (pe_bmQ ydJ PySem.F.type_tuple_index znx l.out ha.out c f b hs) fun σ H Q n=>ex3 n fun α ρ m W hr h=>tD.use W hr h fun i m1 t d v u w hr1 R q=>by
  obtain⟨k,q⟩:=PQ.if q;refine⟨?_,tDA.use w hr1 q fun g m2 s ds vs E p hr2 r j=>zpx g m2 s d ds v vs Q p (R.mono w E) r j⟩;cases d with
  |tup ds=>rw[Rep]at R;obtain⟨a,ys,rfl,h1,_⟩:=R;exact⟨a,ys,rfl,h1⟩
  |_=>cases k⟩
def tyN(d:D)(m:Sto):Option String:=match d with
 |.non=>aa "NoneType"|.bl _=>aa "bool"|.int _=>aa "int"|.str _=>aa "str"|.flt _=>aa "float"|.tup _=>aa "tuple"|.lst _=>aa "list"|.ob k=>match m[k]? with
  |some (.lst _)=>aa "list"|some (.dct _)=>aa "dict"|_=>none
 |_=>none
def isiB(t n:String):Bool:=t==n||(t == "bool" && n == "int")
def zhI(n:String)(d:D)(m:Sto):Res D:=match tyN d m with
 |some t=>.ok (.bl (isiB t n)) m|none=>.bad
def zrZ:List String:=["int", "bool", "str", "tuple", "list", "dict"]
theorem zug{t n:String}(h:tyN d m=aa t)(hn:n∈zrZ):yaF K (.type t) (.type n)=aa (isiB t n):=by
 have H:t∈["NoneType", "bool", "int", "str", "float", "tuple", "list", "dict"]:=by
  unfold tyN at h;split at h <;> first | (cases h;simp;done) | (split at h <;> first | (cases h;simp;done) | cases h) | cases h
 simp only[zrZ,yn,yF,or_false]at hn H;rcases hn with rfl|rfl|rfl|rfl|rfl|rfl <;> rcases H with rfl|rfl|rfl|rfl|rfl|rfl|rfl|rfl <;> rfl
theorem zqv{n:String}(hn:n∈zrZ):CallR X (.builtin "isinstance") (fun xs H Q=>∃cl α m d v t,xs=[v,.ty n]/\Wd X.K cl α m H/\Rep X.K α H d v/\tyN d m=aa t/\Q (.bl (isiB t n)) H):=by
 intro pins s σ H xs us Q I r h;obtain⟨cl,α,m,d,v,t,rfl,W,R,b,q⟩:=h;obtain⟨u,w,rfl,f,c⟩:=zjm r;cases c;have k:=zug (K:=X.K) b hn;have O:∀{t':af},TyOf X.K H v t'->t' = .type t->wpAny (am X.prog X.w) X.A (call (.builtin "isinstance") [u,.type n]) (EP X pins σ Q) X.xe s:=fun {t'} ty e=>by
  subst e;exact zpW I f ty k fun tk=>⟨.bl _,H,I.tok _,rfl,q⟩
 unfold tyN at b;split at b
 ·cases b;rw[Rep]at R;subst R;exact O .non rfl
 ·cases b;rw[Rep]at R;subst R;exact O (.bl _) rfl
 ·cases b;rw[Rep]at R;subst R;exact O (.int _) rfl
 ·cases b;rw[Rep]at R;subst R;exact O (.str _) rfl
 ·cases b;rw[Rep]at R;subst R;exact O (.flt _) rfl
 ·cases b;rw[Rep]at R;obtain⟨a,xs,rfl,h1,_⟩:=R;rcases h1 with h1|⟨o,_,_,k1,k2,_⟩
  ·exact O (.tup h1) rfl
  ·cases f;exact yac yda I.kIn ⟨o,I.kIn a o k1,k2⟩ k (fun z=>nomatch z) fun tk=>⟨.bl _,H,I.tok _,rfl,q⟩
 ·cases b;rw[Rep]at R;obtain⟨a,xs,rfl,_,h1,_⟩:=R;rcases h1 with h1|⟨o,h1⟩
  ·exact O (.lst h1) rfl
  ·exact O (.frz h1) rfl
 ·rw[Rep]at R;obtain⟨a,ha,rfl⟩:=R;split at b
  ·cases b;obtain⟨xs,h1,_⟩:=W.lst ha ‹_›;exact O (.lst h1) rfl
  ·cases b;obtain⟨xs,h1,_⟩:=W.dct ha ‹_›;exact O (.dK h1) rfl
  ·cases b
 ·cases b
theorem zgP{e:ak}{p2:aw}{n:String}(hn:n∈zrZ)(s:Gl X "isinstance")(hm:X.mg "isinstance" = none)(f:Gl X x)(c:X.mg x=none)(l:ba x=aa (.type n))(ha:QE X cl ex e fa)(k:autoParam (x ≠ "__name__") AutoP.a1._auto_1)(i:autoParam ((x==("__debug__" : ae))=ag) AutoP.a1._auto_1)(j:autoParam (ap [e,.Name x p2] X.env=(ag,eval e X.env)::ap [.Name x p2] X.env) AutoP.a3._auto_1)(g:autoParam (ap [.Name x p2] X.env=(ag,eval (.Name x p2) X.env)::ap [] X.env) AutoP.a3._auto_1)(b:autoParam ((az pos (ap [.Name x p2] X.env)).any (·.1)=ag) AutoP.a3._auto_1) : QE X cl ex (.Call (.Name "isinstance" p) [e,.Name x p2] [] pos) (eUn (zhI n) fa) :=
 ⟨PE.weak (zmq (zqv hn) s hm boot_isinstance (zcu ha.out (zcu (ztE (v := .ty n) f c l rfl k i) zfL g) j) (by decide) (by decide) j b) fun σ H Q o=>ex3 o fun α ρ m W hr h=>tD.use W hr h fun a m1 t d v E w hr1 r q=>by
  unfold zhI at q;split at q
  ·exact⟨cl,a,m1,d,v,_,rfl,w,r,‹_›,PQ.ok w q _ zkV⟩
  ·exact q.elim⟩
def inB(x:D)(ds:List D):Option Bool:=if zfa x&&(pyOkL ds&&PyData.canLayAll0 (pyL ds)) then aa ((pyL ds).any fun y=>PyData.eqv y (py x)) else none
def inO(x y:D)(m:Sto):Option Bool:=match y with
 |.tup ds=>inB x ds|.lst ds=>inB x ds|.ob k=>match m[k]? with
  |some (.lst ds)=>inB x ds|some (.dct kvs)=>match x with
   |.int i=>aa (zd4 kvs (.inl i)).isSome|.str z=>aa (zd4 kvs (.inr z)).isSome|_=>none
  |_=>none
 |.str j=>match x with
  |.str i=>aa (!(ybN j i 0 j.length 1).isEmpty)|_=>none
 |_=>none
def inD(x y:D)(m:Sto):Res D:=match inO x y m with
 |some b=>.ok (.bl b) m|none=>.bad
def zjW(x y:D)(m:Sto):Res D:=match inO x y m with
 |some b=>.ok (.bl (!b)) m|none=>.bad
def rInS(K:yb)(f:Bool->Bool):R2:=fun vx vy H Q=>∃(α : List ad)(x:D)(ds:List D)(p:ad)(ys:List V),vy = .ref p/\(SqL K H p ys∨SqT K H p ys)/\RepL K α H ds ys/\Rep K α H x vx/\zfa x=ac/\pyOkL ds=ac/\PyData.canLayAll0 (pyL ds)=ac/\Q (.bl (f ((pyL ds).any fun y=>PyData.eqv y (py x)))) H
def rInD(f:Bool->Bool):R2:=fun x y H Q=>∃a o,y = .ref a/\DGet H a x o/\Q (.bl (f o.isSome)) H
def rInT(f:Bool->Bool):R2:=fun x y H Q=>∃i j,x = .str i/\y = .str j/\Q (.bl (f (!(ybN j i 0 j.length 1).isEmpty))) H
def zs6(K:yb)(f:Bool->Bool):R2:=fun x y H Q=>rInS K f x y H Q∨rInD f x y H Q∨rInT f x y H Q
theorem op_inS(k:X.A.units+65<aC):OpR X (aB .In) (rInS X.K id):=by
 intro pins s σ H l V v u Q I i g h;obtain⟨α,x,ds,p,ys,rfl,sq,b,j,d,ok,C,q⟩:=h;cases g;rw[zfa,yy]at d;obtain⟨bs,c⟩:=zbR I d.1 j i;have f:=SeqAt.canLay_of_shaped d.2;have R:=PyProof.Rows.room_in_shaped (A:=X.A) (xs:=pyL ds) d.2 k;rcases sq with sq|sq
 ·obtain⟨its,r,⟨o,n,a,E,_,e⟩,_⟩:=I.list sq;obtain⟨as,h1⟩:=rep_readsL I ok b r;exact SeqAt.in_list_reads (Reads.list a E e (by simpa using h1)) c C f R ⟨.bl _,H,I,rfl,q⟩
 ·obtain⟨its,r,⟨o,a,E,n,e⟩,_⟩:=I.tuple sq;obtain⟨as,h1⟩:=rep_readsL I ok b r;exact SeqAt.in_tuple_reads (Reads.tuple a E e (by simpa using h1)) c C f R ⟨.bl _,H,I,rfl,q⟩
theorem zo1(k:X.A.units+65<aC):OpR X (aB .NotIn) (rInS X.K not):=by
 intro pins s σ H l V v u Q I i g h;obtain⟨α,x,ds,p,ys,rfl,sq,b,j,d,ok,C,q⟩:=h;cases g;rw[zfa,yy]at d;obtain⟨bs,c⟩:=zbR I d.1 j i;have f:=SeqAt.canLay_of_shaped d.2;have R:=PyProof.Rows.room_in_shaped (A:=X.A) (xs:=pyL ds) d.2 k;rcases sq with sq|sq
 ·obtain⟨its,r,⟨o,n,a,E,_,e⟩,_⟩:=I.list sq;obtain⟨as,h1⟩:=rep_readsL I ok b r;exact SeqAt.notIn_list_reads (Reads.list a E e (by simpa using h1)) c C f R ⟨.bl _,H,I,rfl,q⟩
 ·obtain⟨its,r,⟨o,a,E,n,e⟩,_⟩:=I.tuple sq;obtain⟨as,h1⟩:=rep_readsL I ok b r;exact SeqAt.notIn_tuple_reads (Reads.tuple a E e (by simpa using h1)) c C f R ⟨.bl _,H,I,rfl,q⟩
theorem op_inD(b:X.A.units+1<aC):OpR X (aB .In) (rInD id):=by
 intro pins s σ H x y v u Q I R r h;obtain⟨a,o,rfl,g,q⟩:=h;cases r;exact d_in b I g R fun s' i=>⟨.bl _,H,i,rfl,q⟩
theorem zo2(b:X.A.units+1<aC):OpR X (aB .NotIn) (rInD not):=by
 intro pins s σ H x y v u Q I R r h;obtain⟨a,o,rfl,g,q⟩:=h;cases r;exact zuy b I g R fun s' i=>⟨.bl _,H,i,rfl,q⟩
theorem hu65{A:ax}{k:Nat}(hr:Room k A):A.units+65<aC:=by have:=hr.un;omega
theorem zo7{k:Nat}(hr:Room k X.A):OpR X (aB .In) (zs6 X.K id):=OpR.or (op_inS (hu65 hr)) (OpR.or (op_inD (zlL hr)) zo6)
theorem zo3{k:Nat}(hr:Room k X.A):OpR X (aB .NotIn) (zs6 X.K not):=OpR.or (zo1 (hu65 hr)) (OpR.or (zo2 (zlL hr)) zjJ)
theorem zpY{f:Bool->Bool}{x:D}(W:Wd K cl α m H)(e:inO x y m=aa b)(c:Rep K α H x vx)(r:Rep K α H y vy)(q:Q (.bl (f b)) H):zs6 K f vx vy H Q:=by
 have seq:∀{ds:List D}{p:ad}{ys:List V},inB x ds=aa b->vy = .ref p->(SqL K H p ys∨SqT K H p ys)->RepL K α H ds ys->zs6 K f vx vy H Q:=fun {ds p ys} E j o n=>by
  unfold inB at E;split at E
  ·rename_i i;rw[yy,yy]at i;exact .inl ⟨α,x,ds,p,ys,j,o,n,c,i.1,i.2.1,i.2.2,by rw[yG E];exact q⟩
  ·cases E
 unfold inO at e;split at e
 ·rw[Rep]at r;obtain⟨a,ys,rfl,h1,R⟩:=r;exact seq e rfl (.inr h1.sq) R
 ·rw[Rep]at r;obtain⟨a,ys,rfl,_,h1,R⟩:=r;exact seq e rfl (.inl (.inl h1)) R
 ·rw[Rep]at r;obtain⟨a,ha,rfl⟩:=r;split at e
  ·obtain⟨ys,h1,R⟩:=W.lst ha ‹_›;exact seq e rfl (.inl (SqL.of h1)) R
  ·obtain⟨ys,h1,R⟩:=W.dct ha ‹_›;have g:∀{k:L2.Key},vx=kV k->aa (zd4 _ k).isSome=aa b->zs6 K f vx (.ref a) H Q:=fun {k} E j=>by
    refine .inr (.inl ⟨a,zjk ys k,rfl,by rw[E];exact DGet.k h1,?_⟩);have:(zjk ys k).isSome=b:=by
     rw[<- yG j];cases h:zd4 _ k with
     |none=>rw[(RepKV.val R).2 h];rfl|some d=>obtain⟨v,l,_⟩:=(RepKV.val R).1 d h;rw[l];rfl
    rw[this];exact q
   split at e
   ·rw[Rep]at c;exact g (k := .inl _) c e
   ·rw[Rep]at c;exact g (k := .inr _) c e
   ·cases e
  ·cases e
 ·split at e
  ·rw[Rep]at c;rw[Rep]at r;exact .inr (.inr ⟨_,_,c,r,by rw[yG e];exact q⟩)
  ·cases e
 ·cases e
theorem ztV:OpD K cl ex (zs6 K id) inD:=fun α m H x y V v Q W R r h=>by
 unfold inD at h;split at h
 ·exact zpY (f:=id) W ‹_› R r (PQ.ok W h _ zkV)
 ·exact h.elim
theorem zro:OpD K cl ex (zs6 K not) zjW:=fun α m H x y V v Q W R r h=>by
 unfold zjW at h;split at h
 ·exact zpY (f:=not) W ‹_› R r (PQ.ok W h _ zkV)
 ·exact h.elim
end
variable{ks:List (Option ak)}
section
variable{i e value:ak}{fi fv:EV}{fr:AV}{pos':aw}
def zhH(d:D):Option L2.Key:=match d with
 |.int i=>aa (.inl i)|.str z=>aa (.inr z)|_=>none
def putS(x y v:D)(m:Sto):Res Unit:=match x with
 |.ob k=>match m[k]?,zhH y with
  |some (.dct kvs),aa q=>if kvs.length<sizeLine then .ok () (m.set k (.dct (zh0 kvs q v))) else .bad|some (.lst ds),aa (.inl i)=>match ixN ds.length i with
   |some j=>.ok () (m.set k (.lst (ds.set j v)))|none=>.bad
  |_,_=>.bad
 |_=>.bad
theorem zg8{k:L2.Key}(h:zhH d=aa k)(r:Rep K α H d v):v=kV k:=by
 unfold zhH at h;split at h
 ·cases h;rw[Rep]at r;exact r
 ·cases h;rw[Rep]at r;exact r
 ·cases h
def zhz(x y v:D)(m:Sto):Res Unit:=match x with
 |.ob k=>match m[k]? with
  |some (.dct kvs)=>match zhH y with
   |some q=>if kvs.length<sizeLine then .ok () (m.set k (.dct (zh0 kvs q v))) else .bad|none=>.bad
  |_=>.bad
 |_=>.bad
def zgz(fo fi f:EV):SV:=fun ρ m=>(f ρ m).bind fun v m1=>(fo ρ m1).bind fun x m2=>(fi ρ m2).bind fun y m3=>(zhz x y v m3).bind fun _ M=>.ok (.nx ρ) M
theorem ziI(B:X.A.units+1<aC)(C:QE X cl ex o fo)(hi:QE X cl ex i fi)(A:QE X cl ex value fv)(hs:aU value (aa (.Subscript o i pos')) pos.line X.env=pure ag) : QS X cl ex (.Assign [.Subscript o i pos'] value pos) (zgz fo fi fv) :=
 ⟨PS.weak (ztk B C.out hi.out A.out hs) fun D σ H F=>ex3 F fun α ρ m W hr h=>tD.use W hr h fun p m1 S d v T g hr1 R z=>tD.use g hr1 z fun n m2 P dx x N f hr2 r t=>tD.use f hr2 t fun b M L O y l w hr3 s Q=>by
  have R:=R.mono g (N.trans l);have r:=r.mono f l;unfold zhz at Q;split at Q
  ·rw[Rep]at r;obtain⟨a,ha,rfl⟩:=r;split at Q
   ·rename_i k _ kvs e;split at Q
    ·rename_i q J;split at Q
     ·rename_i G;obtain⟨ys,h1,c⟩:=w.dct ha e;obtain⟨K,j⟩:=w.set (u := .dK (zeI ys q v)) (o := .dct (zh0 kvs q d)) ha fun E=>⟨_,zaw,RepKV.put (R.mono w E) (c.mono w E)⟩;refine⟨a,_,rfl,by rw[zg8 J s];exact DPut.k h1 (by rw[<- c.length];exact G),?_⟩;exact(show PQ X.K cl ex (.ok (.nx ρ) (M.set k (.dct (zh0 kvs q d)))) b L fun I α' _ H'=>zdi X.K D I α' H' from Q) _ _ j K _ (hr3.mono w j)
     ·exact Q.elim
    ·exact Q.elim
   ·exact Q.elim
  ·exact Q.elim⟩
def zd9:List (ae×EV)->En->Sto->Res (List (L2.Key×D))
 |[],_,m=>.ok [] m| (k,f)::r,ρ,m=>(f ρ m).bind fun d m1=>(zd9 r ρ m1).bind fun ps m2=>.ok ((.inr k,d)::ps) m2
def zpw(more:List (L2.Key×D)):List (L2.Key×D):=more.foldl (fun a kv=>zh0 a kv.1 kv.2) []
def zde(fs:List (ae×EV)):EV:=fun ρ m=>(zd9 fs ρ m).bind fun ps m1=>.ok (.ob m1.length) (m1++[.dct (zpw ps)])
inductive QPs(X:Cx)(cl:ae->ad)(ex:XD):List (Option ak)->List ak->List (ae×EV)->Prop where
 |nil:QPs X cl ex [] [] []
 |cons {k:ae} {j} {pk:aw} {v:ak} {f:EV} {ks:List (Option ak)} {vs:List ak} {fs:List (ae×EV)}:QE X cl ex v f->QPs X cl ex ks vs fs->QPs X cl ex (aa (.Constant (.str k) j pk)::ks) (v::vs) ((k,f)::fs)
theorem QPs.pps{vs:List ak}{fs:List (ae×EV)}(h:QPs X cl ex ks vs fs):PPs X pos ks vs (fs.map fun q=>(tC (.str q.1),tD X.K cl ex q.2)):=by
 induction h with
 |nil=>exact ztl|cons H _ i=>exact zq9 zsa H.out i
theorem QPs.keys{vs:List ak}{fs:List (ae×EV)}(h:QPs X cl ex ks vs fs):ks.all (·.isSome)=ac/\ks.length=vs.length/\ks.length=fs.length:=by
 induction h with
 |nil=>exact⟨rfl,rfl,rfl⟩|cons _ _ i=>exact⟨by rw[ybm,i.1];rfl,by rw[yt,yt,i.2.1],by rw[yt,yt,i.2.2]⟩
theorem zjq{K:yb}{σ : L2.St}{ρ : En}{R:RD (List (L2.Key×D))}:∀(fs:List (ae×EV)){α : List ad}{m:Sto}{H:Hp}{Q:List (V×V)->Hp->Prop},Wd K cl α m H->RepE K α H ρ σ -> PQ K cl ex (zd9 fs ρ m) α H R →
  (∀a m1 H1 ps vs,Ext α H a H1->Wd K cl a m1 H1->RepE K a H1 ρ σ -> ps.length=fs.length->RepKV K a H1 ps vs->R ps a m1 H1->Q (vs.map fun kv=>(kV kv.1,kv.2)) H1)->zmb (fs.map fun q=>(tC (.str q.1),tD K cl ex q.2)) σ H Q
 |[],α,m,H,Q,W,hr,h,hQ=>hQ α m H [] [] (Ext.refl W) W hr rfl rfl (PQ.ok W h)| (k,f)::r,α,m,H,Q,W,hr,h,hQ=>by
  refine tD.use W hr h fun a m1 H1 d v n i hr1 j l=>?_;refine zjq (R:=fun ps b m2 c=>R ((.inr k,d)::ps) b m2 c) r i hr1 (PQ.mono (Ext.refl i) l.bind fun ps b m2 c E w g=>PQ.ok w g) fun b m2 c ps vs E w hr2 hl e g=>?_;exact hQ b m2 c ((.inr k,d)::ps) ((.inr k,v)::vs) (n.trans E) w hr2 (by rw[yt,yt,hl]) ⟨v,vs,rfl,j.mono i E,e⟩ g
theorem zjD{K:yb}{α : List ad}{H:Hp}:∀(ps:List (L2.Key×D)){vs:List (L2.Key×V)}{q:List (L2.Key×D)}{us:List (L2.Key×V)},RepKV K α H ps vs->RepKV K α H q us->RepKV K α H (ps.foldl (fun a kv=>zh0 a kv.1 kv.2) q) (zdD us vs)
 |[],_,_,_,h,h'=>by
  cases (show _=[] from h);exact h'
 |p::r,_,_,_,⟨v,R,e,h1,h2⟩,h'=>by
  subst e;exact(show RepKV K α H _ (zdD (zeI _ p.1 v) R) from zjD r h2 (RepKV.put h1 h'))
theorem zlh{vs:List ak}{fs:List (ae×EV)}(h:QPs X cl ex ks vs fs)(h0:ks≠[])(j:ks.length<=15):QE X cl ex (.Dict ks vs pos) (zde fs) :=
 ⟨PE.weak (ztA h.pps h.keys.1 h.keys.2.1 h0 j) fun σ H Q D=>ex3 D fun α ρ m W hr q p hp=>by
  have S:=Same.new (o := .dK []) hp;have F:=W.same S;have E0:=Ext.of_same W S;refine zjq (R:=fun ps f m1 g=>PQ X.K cl ex (.ok (.ob m1.length) (m1++[.dct (zpw ps)])) α H fun d α' _ H'=>∀v,Rep X.K α' H' d v->Q v H') fs F (hr.mono W E0) ?_ fun f m1 g ps us A B hr1 hl r C=>?_
  ·cases s:zd9 fs ρ m with
   |ok ps m1=>rw[show zde fs ρ m=(zd9 fs ρ m).bind _ from rfl,s]at q;exact fun _ _ _ _=>q|exc c m1=>rw[show zde fs ρ m=(zd9 fs ρ m).bind _ from rfl,s]at q;exact fun k G y x=>q k G (E0.trans y) x|bad=>rw[show zde fs ρ m=(zd9 fs ρ m).bind _ from rfl,s]at q;exact q
  have pn:p∉α := W.nin hp;have pk:g p=aa (.dK []):=A.keep p _ zaw pn;have E:Ext α H f g:=E0.trans A;have P:p∉f:=fun z=>by
   obtain⟨β,rfl,w⟩:=A.pre;rcases yJ.mp z with z|z
   ·exact pn z
   ·have:=w p z;rw[zaw]at this;cases this
  refine⟨pk,us,rfl,by rw[<- r.length,hl,<- h.keys.2.2];exact j,?_⟩;have keep:∀a o,g a=aa o->a≠p->upd g p (.dK (zdD [] us)) a=aa o:=fun a o e n=>by rw[zao n];exact e
  have kp:Kp f g (f++[p]) (upd g p (.dK (zdD [] us))):=by
   refine⟨⟨[p],rfl⟩,(fun a xs e=>keep a _ e fun z=>by rw[z,pk]at e;cases e),(fun a xs n e=>?_),(fun a xs e=>keep a _ e fun z=>by rw[z,pk]at e;cases e),fun a xs e=>keep a _ e fun z=>by rw[z,pk]at e;cases e⟩;have i:a≠p:=fun z=>by
    rcases e with e|⟨_,e⟩ <;> rw[z,pk]at e <;> cases e
   refine⟨fun z=>?_,?_⟩
   ·rcases yJ.mp z with z|z
    ·exact n z
    ·exact i (yE.mp z)
   ·rcases e with e|⟨o,e⟩
    ·exact .inl (keep a _ e i)
    ·exact .inr ⟨o,keep a _ e i⟩
  have x:=B.join (u := .dK (zdD [] us)) (o := .dct (zpw ps)) P kp ⟨_,zaw,zjD ps (r.kp kp) (show RepKV X.K _ _ [] [] from rfl)⟩;have y:Ext α H (f++[p]) (upd g p (.dK (zdD [] us))):=by
   obtain⟨β,l,w⟩:=E.pre;refine⟨⟨β ++ [p],by rw[l,yX],fun b t=>?_⟩,fun a o e n=>?_,fun a ha=>?_,fun a o u e=>keep a _ (E.frzs a o u e) (zau e hp)⟩
   ·rcases yJ.mp t with z|z
    ·exact w b z
    ·rw[yE.mp z];exact hp
   ·exact keep a o (E.keep a o e n) (zau e hp)
   ·rw[zao (fun z=>pn (by rw[<- z];exact ha))];exact E.there a ha
  refine C _ _ y x _ ?_;rw[Rep];refine⟨p,?_,rfl⟩;rw[<- B.len,yT (yc _)];simp⟩
end
structure FnX(P:aq)(w:al)(K:yb)(mg:ae->Option af)(base:au)(cl:ae->ad)(x:ae)(k n:Nat)(g:List D->Sto->Res D):Prop where
 ex:∃(f:ad)(fd:aF)(ps:List ae),mg x=aa (.ref f)/\yaw K (.ref f)=ac/\Binds K fd ps []/\FnOk P w K mg base CX0 k f fd ps (spD K cl X0 n g)
variable{n:Nat}{g:List D->Sto->Res D}
theorem qe_fn{e:ak}{fr:AV}{k:Nat}(h:FnX X.prog X.w X.K X.mg X.base cl x k n g)(hn:n=(e::es).length)(hr:Room k X.A)(c:Gl X x)(ha:QA X cl X0 (e::es) fr)(H:∀ρ m ds m1,fr ρ m = .ok ds m1->ds.length=(e::es).length)(b:autoParam ((x==("__debug__" : ae))=ag) AutoP.a1._auto_1)(d:autoParam (ap (e::es) X.env=(ag,eval e X.env)::ap es X.env) AutoP.a3._auto_1)(a:autoParam ((az pos (ap es X.env)).any (·.1)=ag) AutoP.a3._auto_1) : QE X cl X0 (.Call (.Name x p) (e::es) [] pos) (eFn g fr):=by
 obtain⟨f,fd,ps,h1,l,j,i⟩:=h.ex;exact ztd i hn hr c h1 l j ha H b d a
variable{f:ad}{P:aq}{mg:ae->Option af}{base:au}{qual:ae}{st:ao}{fd:aF}{N ps:List ae}{body:SV}
theorem FnX.mk'{w:al}{k:Nat}(F:Fun K x qual st f fd)(b:Binds K fd ps [])(m:mg x=aa (.ref f))(S:FnScope N ps (zah st))(hn:n=ps.length)(h:∀(cdv:af)(A:ax)(outer:List yP)(s:ai)(H:Hp)(E:XK),Room k (A.deeper (aH qual (zah st) s.heap.objs.size f cdv))->QSs (zkW CX0 P w K mg base N qual (zah st) f cdv A outer s H E).nox cl X0 (zbj st) body):FnX P w K mg base cl x (k+1) n (za2 N.length body) :=
 ⟨f,fd,ps,m,F.kp,b,F.ok S (fun vs H Q E h=>by rw[<- hn];exact h.1) fun cdv A outer s H vs Q E hr q=>⟨_,(h cdv A outer s H E hr).out,fn_d q⟩⟩
theorem FnX.none{w:al}{k:Nat}(F:Fun K x qual st f fd)(b:Binds K fd ps [])(m:mg x=aa (.ref f)):FnX P w K mg base cl x k n (fun _ _=>.bad) :=
 ⟨f,fd,ps,m,F.kp,b,⟨fun vs H Q E h=>(by obtain⟨_,_,_,_,_,_,q⟩:=h;exact q.elim),fun A outer s H args us vs Q E _ _ _ _ h=>(by obtain⟨_,_,_,_,_,_,q⟩:=h;exact q.elim)⟩⟩
mutual
def clsd(n:Nat):D->Bool
 |.ob k=>decide (k<n)|.tup ds=>clsdL n ds|.lst ds=>clsdL n ds|.scr ds=>clsdL n ds|.exn _ ds=>clsdL n ds|_=>ac
def clsdL(n:Nat):List D->Bool
 |[]=>ac|d::r=>clsd n d&&clsdL n r
end
variable{β : List ad}{m1:Sto}
section
mutual
theorem Rep.clsd:∀{d:D}{v:V},Rep K α H d v->MD.clsd α.length d=ac
 |.non,_,_=>by simp[MD.clsd]|.bl _,_,_=>by simp[MD.clsd]|.int _,_,_=>by simp[MD.clsd]|.str _,_,_=>by simp[MD.clsd]|.flt _,_,_=>by simp[MD.clsd]|.byt _,_,_=>by simp[MD.clsd]|.ob k,_,h=>by
  rw[Rep]at h;obtain⟨a,h1,_⟩:=h;rw[MD.clsd];exact decide_eq_true (ye.mp h1).1
 |.tup ds,_,h=>by
  rw[Rep]at h;obtain⟨_,_,_,_,b⟩:=h;rw[MD.clsd];exact RepL.clsd b
 |.lst ds,_,h=>by
  rw[Rep]at h;obtain⟨_,_,_,_,_,b⟩:=h;rw[MD.clsd];exact RepL.clsd b
 |.scr ds,_,h=>by
  rw[Rep]at h;obtain⟨_,_,_,_,b⟩:=h;rw[MD.clsd];exact RepL.clsd b
 |.exn _ ds,_,h=>by
  rw[Rep]at h;obtain⟨_,_,_,_,_,_,_,_,b⟩:=h;rw[MD.clsd];exact RepL.clsd b
theorem RepL.clsd:∀{ds:List D}{vs:List V},RepL K α H ds vs->clsdL α.length ds=ac
 |[],_,_=>by simp[clsdL]|_::_,_,h=>by
  rw[RepL]at h;obtain⟨_,_,_,h1,h2⟩:=h;rw[clsdL,yy];exact⟨Rep.clsd h1,RepL.clsd h2⟩
end
mutual
theorem Rep.less:∀{d:D}{v:V},MD.clsd α.length d=ac->Rep K (α ++ β) H d v->Rep K α H d v
 |.non,_,_,h=>by simpa [Rep] using h|.bl _,_,_,h=>by simpa [Rep] using h|.int _,_,_,h=>by simpa [Rep] using h|.str _,_,_,h=>by simpa [Rep] using h|.flt _,_,_,h=>by simpa [Rep] using h|.byt _,_,_,h=>by simpa [Rep] using h|.ob k,_,c,h=>by
  rw[Rep]at h ⊢;obtain⟨a,h1,h2⟩:=h;rw[MD.clsd]at c;rw[yI (of_decide_eq_true c)]at h1;exact⟨a,h1,h2⟩
 |.tup ds,_,c,h=>by
  rw[Rep]at h ⊢;obtain⟨a,xs,e,h1,h2⟩:=h;rw[MD.clsd]at c;exact⟨a,xs,e,h1,RepL.less c h2⟩
 |.lst ds,_,c,h=>by
  rw[Rep]at h ⊢;obtain⟨a,xs,e,n,h1,h2⟩:=h;rw[MD.clsd]at c;exact⟨a,xs,e,fun z=>n (yau _ z),h1,RepL.less c h2⟩
 |.scr ds,_,c,h=>by
  rw[Rep]at h ⊢;obtain⟨a,xs,e,h1,h2⟩:=h;rw[MD.clsd]at c;refine⟨a,xs,e,?_,RepL.less c h2⟩;rcases h1 with h1|h1
  ·exact .inl ⟨fun z=>h1.1 (yau _ z),h1.2⟩
  ·exact .inr h1
 |.exn _ ds,_,c,h=>by
  rw[Rep]at h ⊢;obtain⟨a,C,dd,xs,e,n,h1,h2,b⟩:=h;rw[MD.clsd]at c;exact⟨a,C,dd,xs,e,n,h1,h2,RepL.less c b⟩
theorem RepL.less:∀{ds:List D}{vs:List V},clsdL α.length ds=ac->RepL K (α ++ β) H ds vs->RepL K α H ds vs
 |[],_,_,h=>by rw[RepL]at h ⊢;exact h|_::_,_,c,h=>by
  rw[RepL]at h ⊢;obtain⟨v,r,e,h1,h2⟩:=h;rw[clsdL,yy]at c;exact⟨v,r,e,Rep.less c.1 h1,RepL.less c.2 h2⟩
end
theorem RepKV.less{a:Hp}:∀{ds:List (L2.Key×D)}{vs us:List (L2.Key×V)},RepKV K α a ds us->RepKV K (α ++ β) H ds vs->RepKV K α H ds vs
 |[],_,_,_,h=>h|_::_,_,_,⟨_,_,_,c1,c2⟩,⟨v,r,e,h1,h2⟩=>⟨v,r,e,h1.less c1.clsd,RepKV.less c2 h2⟩
theorem RepF.less{a:Hp}:∀{ds:List (ae×D)}{vs us:List (ae×V)},RepF K α a ds us->RepF K (α ++ β) H ds vs->RepF K α H ds vs
 |[],_,_,_,h=>h|_::_,_,_,⟨_,_,_,c1,c2⟩,⟨v,r,e,h1,h2⟩=>⟨v,r,e,h1.less c1.clsd,RepF.less c2 h2⟩
theorem Wd.less{f:Hp}(w:Wd K cl α m f)(W:Wd K cl (α ++ β) m1 H)(e:m1.take m.length=m):Wd K cl α m H:=by
 refine⟨w.len,(ybu.mp W.nd).1,fun k a o h1 h=>?_⟩;have b:=(ye.mp h1).1;have hm:k<m.length:=(ye.mp h).1;have d:m1[k]?=aa o:=by
  rw[<- e,ydf hm]at h;exact h
 have q:=W.at' k a o (by rw[yI b];exact h1) d;have Q:=w.at' k a o h1 h;cases o with
 |lst ds=>obtain⟨xs,a1,a2⟩:=q;obtain⟨_,_,b2⟩:=Q;exact⟨xs,a1,a2.less b2.clsd⟩
 |dct ds=>obtain⟨xs,a1,a2⟩:=q;obtain⟨_,_,b2⟩:=Q;exact⟨xs,a1,RepKV.less b2 a2⟩
 |ins c ds=>obtain⟨dx,xs,a1,a2⟩:=q;obtain⟨_,_,_,b2⟩:=Q;exact⟨dx,xs,a1,RepF.less b2 a2⟩
 |hid=>exact q
end
def frz(m:Sto)(n:Nat)(d:D):D:=match d with
 |.ob k=>if n<=k then match m[k]? with
  |some (.lst xs)=>.lst xs|_=>.ob k else .ob k
 |d=>d
open Classical in
def locF(g:List D->Sto->Res D):List D->Sto->Res D:=fun ds m=>(g ds m).bind fun d m1=>if m1.take m.length=m/\clsd m.length (frz m1 m.length d)=ac then .ok (frz m1 m.length d) m else .bad
theorem zp6(m:Sto)(n:Nat)(d:D):frz m n d=d∨∃k xs,d = .ob k/\n<=k/\m[k]?=aa (.lst xs)/\frz m n d = .lst xs:=by
 cases d with
 |ob k=>
  by_cases H:n<=k
  ·cases h:m[k]? with
   |none=>left;simp[frz,h]|some o=>
    cases o with
    |lst xs=>right;exact⟨k,xs,rfl,H,h,by simp[frz,H,h]⟩|dct _=>left;simp[frz,h]|ins _ _=>left;simp[frz,h]|hid=>left;simp[frz,h]
  ·left;simp[frz,H]
 |_=>left;rfl
theorem zs4(W:Wd K cl (α ++ β) m1 H)(e:α.length=m.length)(c:clsd m.length (frz m1 m.length d)=ac)(r:Rep K (α ++ β) H d v):Rep K α H (frz m1 m.length d) v:=by
 rw[<- e]at c ⊢;rcases zp6 m1 α.length d with h|⟨k,xs,rfl,p,l,h⟩
 ·rw[h]at c ⊢;exact Rep.less c r
 ·rw[h]at c ⊢;rw[Rep]at r;obtain⟨a,h1,rfl⟩:=r;obtain⟨ys,o,R⟩:=W.lst h1 l;rw[clsd]at c;rw[Rep];refine⟨a,ys,rfl,fun z=>?_,.inl o,R.less c⟩;obtain⟨j,n,g⟩:=ycP.mp z;obtain⟨f,b⟩:=ye.mp h1;have:j=k:=(ybK (i:=j) (j:=k) (h₀ := by rw[yj];omega) (h₁ := f) W.nd).mp (by rw[List.getElem_append_left n,g,b]);omega
open Classical in
theorem FnX.loc{w:al}{k:Nat}(h:FnX P w K mg base cl x k n g):FnX P w K mg base cl x k n (locF g):=by
 obtain⟨f,fd,ps,h1,t,s,p⟩:=h.ex;refine⟨f,fd,ps,h1,t,s,p.imp fun vs H Q E ⟨hn,α,m,ds,W,r,q⟩=>⟨hn,α,m,ds,W,r,?_⟩⟩;unfold locF at q;cases a:g ds m with
 |bad=>rw[a]at q;exact q.elim|exc c m1=>rw[a]at q;exact q|ok d m1=>
  rw[a]at q;have o:PQ K cl X0 (if m1.take m.length=m/\clsd m.length (frz m1 m.length d)=ac then .ok (frz m1 m.length d) m else .bad) α H fun d α' _ H'=>∀v,Rep K α' H' d v->Q v H':=q;obtain⟨⟨c1,C⟩,l⟩:=PQ.if o;intro j i e b v R;obtain⟨β,rfl,y⟩:=e.pre;have u:Ext α H α i:=⟨⟨[],by simp,fun _ h=>nomatch h⟩,e.keep,e.there,e.frzs⟩;exact l α i u (W.less b c1) v (zs4 b W.len C R)
theorem fnO{w:al}{k:Nat}(F:Fun K x qual st f fd)(S:FnScope N ps (zah st))(hn:n=ps.length)(h:∀(cdv:af)(A:ax)(outer:List yP)(s:ai)(H:Hp)(E:XK),Room k (A.deeper (aH qual (zah st) s.heap.objs.size f cdv))->QSs (zkW CX0 P w K mg base N qual (zah st) f cdv A outer s H E).nox cl X0 (zbj st) body):FnOk P w K mg base CX0 (k+1) f fd ps (spD K cl X0 n (za2 N.length body)) :=
 F.ok S (fun vs H Q E h=>by rw[<- hn];exact h.1) fun cdv A outer s H vs Q E hr q=>⟨_,(h cdv A outer s H E hr).out,fn_d q⟩
def spLaw(K:yb):Sp:=fun vs H Q _=>∃(a:ad)(ns:List Int),vs=[.ref a]/\SqL K H a (ns.map V.int)/\ns.length<=63/\∀H',Q (.bl ac) H'
theorem zjF{K:yb}{α : List ad}{H:Hp}:∀ns:List Int,RepL K α H (ns.map D.int) (ns.map V.int)
 |[]=>by simp[RepL]|a::r=>by
  rw[yl,yl,RepL];exact⟨_,_,rfl,by rw[Rep],zjF r⟩
theorem law_sp(h:∀ns:List Int,ns.length<=63->∃a m,g [.scr (ns.map D.int)] [] = .ok a m/\a = .bl ac):∀vs H Q E,spLaw K vs H Q E->spD K cl X0 1 g vs H Q E:=by
 rintro vs H Q E ⟨a,ns,rfl,c,b,q⟩;obtain⟨_,m',e,rfl⟩:=h ns b;refine⟨rfl,[],[],[.scr (ns.map D.int)],⟨rfl,List.nodup_nil,fun k a o h=>by simp at h⟩,?_,?_⟩
 ·rw[RepL];refine⟨_,_,rfl,?_,by rw[RepL]⟩;rw[Rep];refine⟨a,_,rfl,?_,zjF ns⟩;rcases c with c|c
  ·exact .inl ⟨by simp,c⟩
  ·exact .inr c
 ·rw[e];intro α' H' _ _ v r;rw[Rep]at r;subst r;exact q H'
theorem law_fn{w:al}{k:Nat}(F:FnOk P w K mg base CX0 k f fd ps (spD K cl X0 1 g))(h:∀ns:List Int,ns.length<=63->∃a m,g [.scr (ns.map D.int)] [] = .ok a m/\a = .bl ac):FnOk P w K mg base CX0 k f fd ps (spLaw K):=F.imp (law_sp h)
variable{us:List af}
theorem usS(hl:us.length=n+1):∃a r,us=a::r/\r.length=n:=by
 cases us with
 |nil=>exact absurd hl (by simp)|cons a r=>exact⟨a,r,rfl,Nat.succ.inj hl⟩
theorem us0(hl:us.length=0):us=[]:=ybW.mp hl
theorem us1(hl:us.length=1):∃(a0:af),us=[a0]:=by
 obtain⟨a0,r,rfl,h⟩:=usS hl;obtain rfl:=us0 h;exact⟨a0,rfl⟩
theorem us2(hl:us.length=2):∃(a0 a1:af),us=[a0,a1]:=by
 obtain⟨a0,r,rfl,h⟩:=usS hl;obtain⟨a1,rfl⟩:=us1 h;exact⟨a0,a1,rfl⟩
theorem us3(hl:us.length=3):∃(a0 a1 a2:af),us=[a0,a1,a2]:=by
 obtain⟨a0,r,rfl,h⟩:=usS hl;obtain⟨a1,a2,rfl⟩:=us2 h;exact⟨a0,a1,a2,rfl⟩
theorem us4(hl:us.length=4):∃(a0 a1 a2 a3:af),us=[a0,a1,a2,a3]:=by
 obtain⟨a0,r,rfl,h⟩:=usS hl;obtain⟨a1,a2,a3,rfl⟩:=us3 h;exact⟨a0,a1,a2,a3,rfl⟩
theorem us5(hl:us.length=5):∃(a0 a1 a2 a3 a4:af),us=[a0,a1,a2,a3,a4]:=by
 obtain⟨a0,r,rfl,h⟩:=usS hl;obtain⟨a1,a2,a3,a4,rfl⟩:=us4 h;exact⟨a0,a1,a2,a3,a4,rfl⟩
theorem us6(hl:us.length=6):∃(a0 a1 a2 a3 a4 a5:af),us=[a0,a1,a2,a3,a4,a5]:=by
 obtain⟨a0,r,rfl,h⟩:=usS hl;obtain⟨a1,a2,a3,a4,a5,rfl⟩:=us5 h;exact⟨a0,a1,a2,a3,a4,a5,rfl⟩
def zn1(ns:List Int):Int:=ns.getD (aQ (fun i j=>decide (ns.getD i 0>ns.getD j 0)) (ns.length-1)) 0
variable{ns:List Int}
theorem zoa{its:List af}(r:Vals (ns.map V.int) its):∃xs:Array (Int×Tok),its.toArray=bz xs/\xs.size=ns.length/\∀i,numAt xs i=ns.getD i 0:=by
 induction ns generalizing its with
 |nil=>cases r;exact⟨#[],by simp[bz],rfl,fun i=>by simp[numAt]⟩|cons a ns I=>
  cases r with
  |cons h r=>
   obtain⟨t,rfl⟩:=h;obtain⟨xs,e,hs,H⟩:=I r;refine⟨⟨(a,t)::xs.toList⟩,?_,by simp[hs],fun i=>?_⟩
   ·have E:=congrArg yci e;simp only[bz]at E ⊢;apply ycM;simpa using E
   ·cases i with
    |zero=>rfl|succ i=>
     have:=H i;simpa [numAt] using this
theorem zkF(g:X.calm=ac):CallR X (.builtin "max") (fun xs H Q=>∃(l:ad)(ns:List Int),xs=[.ref l]/\SqL X.K H l (ns.map V.int)/\ns≠[]/\Q (.int (zn1 ns)) H):=by
 intro pins s σ H xs us Q I r h;obtain⟨l,ns,rfl,hq,a,q⟩:=h;obtain⟨u,rfl,R⟩:=zch r;cases R;obtain⟨its,b,pl,j⟩:=I.list hq;have hl:=pl.isList;obtain⟨ys,e,hs,c⟩:=zoa b;rw[e]at hl;refine max_intList (I.ok.hd g) hl (by rw[hs];exact ydL.mpr a) fun v h' tk d f=>?_;obtain⟨t,rfl⟩:=intItems_at d;refine⟨_,H,I.kept f,?_,q⟩;have E:numAt ys=fun i=>ns.getD i 0:=funext c;refine⟨t,?_⟩;rw[E,hs];rfl
section
def zj1(ds:List D)(m:Sto):Res D:=match ds with
 |[d]=>match (lOf d m).bind zed with
  |some ns=>if ns≠[] then .ok (.int (zn1 ns)) m else .bad|none=>.bad
 |_=>.bad
theorem zqa:FnD K cl ex (fun xs H Q=>∃(l:ad)(ns:List Int),xs=[.ref l]/\SqL K H l (ns.map V.int)/\ns≠[]/\Q (.int (zn1 ns)) H) zj1:=fun α m H x d Q W r h=>by
 unfold zj1 at h;split at h
 ·split at h
  ·rename_i ns e;obtain⟨b,h⟩:=PQ.if h;obtain⟨v,rfl,R⟩:=r.one_of;obtain⟨xs,c,E⟩:=yby.mp e;obtain⟨p,ys,rfl,h1,a⟩:=zi6 W c R;rw[zcZ E a]at h1;exact⟨p,ns,rfl,h1,b,PQ.ok W h _ zfJ⟩
  ·exact h.elim
 ·exact h.elim
end
theorem zii{bt:Nat->Nat->Bool}:∀n,aQ bt n<=n
 |0=>yc _|n+1=>by
  unfold aQ;split
  ·exact yc _
  ·exact yb4 (zii n)
theorem zlV(f:Nat->Int):∀n i,i<=n->f i<=f (aQ (fun i j=>decide (f i>f j)) n)
 |0,i,h=>by
  have:i=0:=by omega
  subst this;exact yb6 _
 |n+1,i,h=>by
  unfold aQ;by_cases c:f (n+1)>f (aQ (fun i j=>decide (f i>f j)) n)
  ·rw[if_pos (decide_eq_true c)];rcases ybz n i with hi|hi
   ·rw[show i=n+1 by omega];exact yb6 _
   ·have:=zlV f n i hi;omega
  ·rw[if_neg (by rw[decide_eq_true_eq];exact c)];rcases ybz n i with hi|hi
   ·rw[show i=n+1 by omega];omega
   ·exact zlV f n i hi
theorem zrI{i:Nat}(h:i<ns.length):ns.getD i 0∈ns:=by
 rw[yaf,yh h];exact yaB h
theorem zrw(h:ns≠[]):zn1 ns∈ns:=zrI (by have:=zii (bt:=fun i j=>decide (ns.getD i 0>ns.getD j 0)) (ns.length-1);have:=ydL.mpr h;omega)
theorem zue{a:Int}(h:a∈ns):a<=zn1 ns:=by
 obtain⟨i,hi,rfl⟩:=ycP.mp h;have:=zlV (fun i=>ns.getD i 0) (ns.length-1) i (by omega);have e:ns.getD i 0=ns[i]:=by rw[yaf,yh hi];rfl
 rw[<- e];exact this
end MD
namespace HT
open PySem PySem.Spec PyProof.Rows L2
section
variable{prog:aq}{w:al}{A:ax}{E:af->ai->Prop}{s:ai}
theorem getItem_tuple_all{t sl:ad}{items:Array af}{V v:af}{lo hi:Option Int}{Q:af->ai->Prop}(a:IsTup s.heap t items)(hs:s.heap.IsSliceOf sl V v .none)(pl:aZ V lo)(pu:aZ v hi)(e:sIx items.size 0 lo=0/\sIx items.size items.size hi=items.size)(h:Q (.ref t) s):wpAny (am prog w) A (bv (.ref t) (.ref sl)) Q E s:=by
 obtain⟨os,b,c,f⟩:=id hs;have d:s.TypeIs (.ref sl) "slice" := ⟨os,b,c⟩;unfold bv;try with_reducible refine aY ?_
 first | refine aj (av ?_) | skip
 refine aj (wpAny_sequenceKey a.typeIs (by decide) ?_);refine aj (bR (name:=yH "__getitem__") a.typeIs PyProof.Rows.slot_tuple_getitem
  (bw PyProof.Rows.slot_tuple_getitem a.typeIs entry_tuple_getitem ?_ (args_tuple_getitem _ _)))
 show wpAny _ _ (ycz (.ref t) >>= _) _ _ s;refine aj (tupleItemsOf_ a ?_);refine aj (wpAny_typeOf d ?_);rw[if_pos (by decide)];refine aj (zdg hs pl pu ?_);have H:(((sIx items.size 0 lo:Nat):Int)==0&&(1:Int)==1&&(sIx items.size items.size hi-sIx items.size 0 lo)==items.size)=ac:=by
  rw[e.1,e.2];simp
 show wpAny _ _ (if (((sIx items.size 0 lo:Nat):Int)==0&&(1:Int)==1&&(sIx items.size items.size hi-sIx items.size 0 lo)==items.size)=ac then _ else _) _ _ s;rw[if_pos H];unfold Builtin.Tuple.tupleIsExact;refine aj (aj (wpAny_typeOf a.typeIs (av ?_)));rw[if_pos (by decide)];refine aj (bq ?_);exact av ⟨_,rfl,av h⟩
end
end HT
namespace MD
open PySem PySem.Spec PyProof.Rows L2
def rSlW(K:yb):V->Option Int->Option Int->Hp->VK->Prop:=fun x lo hi H Q=>∃a xs,x = .ref a/\SqT K H a xs ∧
 (HT.sIx xs.length 0 lo=0/\HT.sIx xs.length xs.length hi=xs.length)/\Q (.ref a) H
variable{X:Cx}
theorem zsS:SlR X (rSlW X.K):=by
 intro pins s σ H x v f V lo hi sl Q I R hs pl pu h;obtain⟨a,xs,rfl,d,e,q⟩:=h;cases R;obtain⟨its,r,c,g⟩:=I.tuple d;have b:its.toArray.size=xs.length:=by rw[yp];exact r.length.symm
 refine⟨"tuple", _,PyProof.Rows.slot_tuple_getitem.lookup,c.typeIs,?_⟩;exact HT.getItem_tuple_all c hs pl pu (by rw[b];exact e) ⟨.ref a,H,I,rfl,q⟩
def slA(x:D)(lo hi:Option Int)(m:Sto):Res D:=match x with
 |.tup ds=>.ok (.tup (zlP ds lo hi)) m|d=>slD d lo hi m
theorem zuz{a : Type}{xs:List a}{lo hi:Option Int}(h:HT.sIx xs.length 0 lo=0/\HT.sIx xs.length xs.length hi=xs.length):zlP xs lo hi=xs:=by
 unfold zlP;rw[h.1,h.2];simp
def eSlA(f:EV)(lo hi:OV):EV:=fun ρ m=>(f ρ m).bind fun x m1=>(lo ρ m1).bind fun l m2=>(hi ρ m2).bind fun h m3=>slA x l h m3
section
variable{cl:ae->ad}{ex:XD}{e:ak}{fa:EV}{lo hi:OV}{el eh:Option ak}{pos p2:aw}
theorem qe_slA(o:QE X cl ex e fa)(hl:QO X cl ex el lo)(f:QO X cl ex eh hi):QE X cl ex (.Subscript e (.Slice el eh none p2) pos) (eSlA fa lo hi) :=
 ⟨PE.weak (zmp (SlR.or zsS (SlR.or zr5 (SlR.or zom zr4))) o.out hl.out f.out) fun σ H Q f=>ex3 f fun α ρ m W hr h=>
  tD.use W hr h fun j m1 A d v B g hr1 r n=>tDO.use g hr1 n fun i m2 z l y t hr2 k=>tDO.use t hr2 k fun b M x u E w hr3 q=>by
   have r:=r.mono g (y.trans E);by_cases c:∃ds,d = .tup ds
   ·obtain⟨ds,rfl⟩:=c;replace q:PQ X.K cl ex (Res.ok (D.tup (zlP ds l u)) M) b x _:=q;rw[Rep]at r;obtain⟨a,xs,rfl,h1,R⟩:=r;by_cases hn:HT.sIx xs.length 0 l=0/\HT.sIx xs.length xs.length u=xs.length
    ·rw[zuz (by rw[R.length];exact hn)]at q;exact .inl ⟨a,xs,rfl,h1.sq,hn,PQ.ok w q _ (by rw[Rep];exact⟨a,xs,rfl,h1,R⟩)⟩
    ·refine .inr (.inl ⟨a,xs,rfl,h1.sq,hn,fun p hp=>?_⟩);exact PQ.okS w (Same.new hp) q _ (zbE w hp (R.cut l u))
   ·have e:slA d l u M=slD d l u M:=by cases d <;> first | rfl | exact absurd ⟨_,rfl⟩ c
    rw[e]at q;unfold slD at q;split at q
    ·exact absurd ⟨_,rfl⟩ c
    ·rw[Rep]at r;obtain⟨a,xs,rfl,_,h1,R⟩:=r;exact .inr (.inr (.inl ⟨a,xs,rfl,.inl h1,fun p hp=>PQ.okS w (Same.new hp) q _ (zbF w hp (R.cut l u))⟩))
    ·rw[Rep]at r;obtain⟨a,xs,rfl,h1,R⟩:=r;exact .inr (.inr (.inl ⟨a,xs,rfl,h1.sq,fun p hp=>PQ.okS w (Same.new hp) q _ (zbF w hp (R.cut l u))⟩))
    ·rw[Rep]at r;obtain⟨s,q⟩:=PQ.if q;exact .inr (.inr (.inr ⟨_,r,s,PQ.ok w q _ repS⟩))
    ·rw[Rep]at r;obtain⟨a,ha,rfl⟩:=r;split at q
     ·obtain⟨xs,h1,R⟩:=w.lst ha ‹_›;exact .inr (.inr (.inl ⟨a,xs,rfl,SqL.of h1,fun p hp=>PQ.okS w (Same.new hp) q _ (zbF w hp (R.cut l u))⟩))
     ·exact q.elim
    ·exact q.elim⟩
end
end MD
namespace HT
open PySem PySem.Spec PyProof.Rows L2
end HT
namespace MD
open PySem PySem.Spec PyProof.Rows L2
variable{X:Cx}{K:yb}{cl:ae->ad}{ex:XD}{pos:aw}
section
variable{α : List ad}{m:Sto}{H:Hp}
theorem zgi:QE X cl ex (.Dict [] [] pos) (zde []) :=
 ⟨PE.weak zrg fun σ H Q h=>ex3 h fun α ρ m W hr q p hp=>by
  obtain⟨w,E⟩:=W.new (u := .dK []) (o := .dct []) hp ⟨_,zaw,(show RepKV X.K _ _ [] [] from rfl)⟩;have a:PQ X.K cl ex (.ok (.ob m.length) (m++[.dct []])) α H fun d α' _ H'=>∀v,Rep X.K α' H' d v->Q v H':=q;refine a _ _ E w _ ?_;rw[Rep];refine⟨p,?_,rfl⟩;rw[<- W.len,yT (yc _),yaM];rfl⟩
end
def zfx:Nat:=1000000
def zh6:SV:=by walk_at "#v5sCuA6sPs8X)G%wpr[AuB"
def za1:List D->Sto->Res D:=za2 3 zh6
def zeB:SV:=by walk_at "#2w&tJv5sQuA)t-tGz5uz1+w't.6t_<t_m<J8s8<JsQv6"
def zbY:List D->Sto->Res D:=locF (za2 5 zeB)
def zmD:SV:=by walk_at "#v76v8"
def zcL:List D->Sto->Res D:=za2 2 zmD
def zfs:SV:=by walk_at "#4m6%w(tK)6to"
def zbo:List D->Sto->Res D:=za2 3 zfs
def zmI:SV:=by walk_at "#s9w(+wqtK)1Otrv9"
def zho:List D->Sto->Res D:=za2 5 zmI
def zic:SV:=by walk_at "#s9v:t`s[sCtaso5"
def zcw:List D->Sto->Res D:=za2 1 zic
def zmB:SV:=by walk_at "#sK{D)6uBD4u6t/wlxsxt6t01t1v9"
def zhd:List D->Sto->Res D:=za2 3 zmB
def zib:SV:=by walk_at "#=w$v;v<5uwtLv=s3=tM)v>sqtptNwrs9w(sRtqXv?Jts_sqtptNtbs9{Esr*5tnsZ_sqtptNwsuCv/v?tMv?MEs9w(sRtqXtpGcts_4tq"
def zdK:List D->Sto->Res D:=za2 9 zib
def zkf:SV:=by walk_at "#vAwt4SDvAu{4ttDuB"
def zcj:List D->Sto->Res D:=za2 2 zkf
def zmA:SV:=by walk_at "#s9xb>{FsoG%xuv9tLwZ9s3ta%{GrwX"
def zeA:List D->Sto->Res D:=za2 2 zmA
def zhc:SV:=by walk_at "#vAwtv6DvAu{s9{HLr'uDO'tt_4<"
def zcS:List D->Sto->Res D:=za2 4 zhc
def zmE:SV:=by walk_at "#tuuEt+u|%xvr+xwuF8tL*s':s32{IuGOtstOEs8Usl+{Js5soGWs5v;W5t)tns]34U"
def zhh:List D->Sto->Res D:=za2 9 zmE
def zkq:SV:=by walk_at "#=s+wusPt+t2Lt3tP%{KvB6G!1sPs1Cwv6GMpv6"
def zcm:List D->Sto->Res D:=za2 4 zkq
def zhn:SV:=by walk_at "#v5sCuA6sPs8XGvCwp'Ct$1s+ww[AuB"
def zb0:List D->Sto->Res D:=za2 3 zhn
def zdH(self:List D->Sto->Res D):SV :=
 (zan (sIf (tV (eUn (zhI "tuple") (zad 1)))
 (zan (sIf (zoc (zf2 (tV (eUn (zhI "tuple") (zad 0)))) (tV (eOp neD (eFn zew (zac (zad 0) zaj)) (eFn zew (zac (zad 1) zaj)))))
 (zaE (eC (.bl ag)))
 za0)
 (zaE (eFn allF (zac (eFn gL1 (zd3 2 (aZip (zad 0) (zad 1)) (gT 2 (zaC (gN 2) (zaC (gN 3) zc6))) zdY (eFn self (zac (zad 2) (zac (zad 3) zaj))))) zaj))))
 za0)
 (zan (sIf (tV (eOp isD (zad 1) (eC .non)))
 (zaE (eOp isD (zad 0) (eC .non)))
 za0)
 (zan (sIf (tV (eUn (zhI "str") (zad 1)))
 (zaE (zst (eUn (zhI "str") (zad 0)) (eOp eqD (zad 0) (zad 1))))
 za0)
 (zaE (zst (eUn (zhI "int") (zad 0)) (zst (eNot (eUn (zhI "bool") (zad 0))) (eOp eqD (zad 0) (zad 1))))))))
def zbl:Nat->List D->Sto->Res D
 |0=>fun _ _=>.bad|n+1=>za2 2 (zdH (zbl n))
def zcl:List D->Sto->Res D:=zbl 12
def zmC:SV:=by walk_at "#s9xx+xwuF8"
def zfu:List D->Sto->Res D:=za2 2 zmC
section
variable{o i:ak}{fo fi:EV}
def putL(x y v:D)(m:Sto):Res Unit:=match x,y with
 |.ob k,.int i=>match m[k]? with
  |some (.lst ds)=>match ixN ds.length i with
   |some j=>.ok () (m.set k (.lst (ds.set j v)))|none=>.bad
  |_=>.bad
 |_,_=>.bad
def gI(fo fi:EV):GV:=fun d ρ m=>(fo ρ m).bind fun x m1=>(fi ρ m1).bind fun y m2=>(putL x y d m2).bind fun _ m3=>.ok ρ m3
theorem RepL.put{α : List ad}{H:Hp}{d:D}{v:V}(h:Rep K α H d v):∀{ds:List D}{vs:List V}(j:Nat),RepL K α H ds vs->RepL K α H (ds.set j d) (vs.set j v)
 |[],vs,j,r=>by
  rw[RepL]at r;subst r;simp[RepL]
 |e::ds,vs,j,r=>by
  rw[RepL]at r;obtain⟨u,us,rfl,a,R⟩:=r;cases j with
  |zero=>rw[y8,y8,RepL];exact⟨v,us,rfl,h,R⟩|succ j=>rw[y9,y9,RepL];exact⟨u,_,rfl,a,RepL.put h j R⟩
theorem zs8(s:QE X cl ex o fo)(hi:QE X cl ex i fi) (ha:autoParam (∀v,aN (.Subscript o i pos) X.env v=(do
   let O <- holding [v] (eval o X.env)
   let I <- holding [v,O] (eval i X.env)
   aX pos
   holding [v,O,I] (setItem O I v)
   release [v,O,I] [])) AutoP.a2._auto_1):QG X cl ex (.Subscript o i pos) (gI fo fi) :=
 ⟨PG.weak (pg_sub s.out hi.out zqN ha) fun v σ H Q ⟨α,ρ,m,d,W,hr,R,h⟩=>tD.use W hr h fun n m1 C dx x B g hr1 r p=>tD.use g hr1 p fun b m2 A D y l w hr2 c q=>by
  have R:=R.mono W (B.trans l)
  have r:=r.mono g l
  unfold putL at q
  split at q
  ·rw[Rep]at r
   rw[Rep]at c
   obtain⟨a,ha,rfl⟩:=r
   subst c
   split at q
   ·rename_i ds e
    split at q
    ·rename_i j t
     obtain⟨ys,h1,f⟩:=w.lst ha e
     obtain⟨z,k⟩:=w.set (u := .lst (ys.set j v)) (o := .lst (ds.set j d)) ha fun E=>⟨_,zaw,RepL.put (R.mono w E) j (f.mono w E)⟩
     refine⟨a,ys,_,j,rfl,rfl,h1,by rw[<- f.length];exact t,?_⟩
     exact(show PQ X.K cl ex (.ok ρ (m2.set _ (.lst (ds.set j d)))) b A _ from q) _ _ k z _ (hr2.mono w k)
    ·exact q.elim
   ·exact q.elim
  ·exact q.elim⟩
end
end MD
namespace L2
open PySem PySem.Spec PyProof.Rows
variable{X:Cx}{e:ak}{te:TE}{pos:aw}
end L2
namespace MD
open PySem PySem.Spec PyProof.Rows L2
def zt4(x y:D)(m:Sto):Res D:=match x,y with
 |.int i,.int j=>if i.natAbs.log2<1100/\j.natAbs.log2<1100 then .ok (.int (i*j)) m else .bad|_,_=>.bad
theorem zpt:∃f:D->D->Sto->Res D,f=zt4:=⟨_,rfl⟩
def zt5:D->D->Sto->Res D:=yba zpt
theorem zpu:zt5=zt4:=ybb zpt
theorem zkK{a:Int}(h:a.natAbs.log2<1100):ydM a<=2^20:=by
 unfold ydM;split
 ·exact yZ _
 ·exact yx (Nat.succ_le_of_lt h) (by decide)
theorem ziO{X:Cx}:OpR X (aK .Mult) (rI IntMulOk fun i j=>.int (i*j)):=opI fun _ _ _ _ _ _ _ h q=>mul_int q h
variable{τ : Type}
theorem zi0{K:yb}{cl:ae->ad}{ex:XD}:OpD K cl ex (rI IntMulOk fun i j=>.int (i*j)) zt5:=fun α m H x y V v Q W R r h=>by
 rw[zpu]at h;unfold zt4 at h;split at h
 ·rw[Rep]at R r;obtain⟨a,h⟩:=PQ.if h;exact⟨_,_,R,r,IntMulOk.of_bits (zkK a.1) (zkK a.2),PQ.ok W h _ zfJ⟩
 ·exact h.elim
open Classical in
def grd(k:Nat)(o:MO)(m:Sto)(r:Res τ):Res τ := if m[k]?=aa o then r else .bad
theorem zsl{k:Nat}{o:MO}{m:Sto}{r:Res τ}(h:m[k]?=aa o):grd k o m r=r:=if_pos h
def zpF(k:Nat)(o:MO)(g:GV)(b:SV):List D->En->Sto->Res Fl
 |[],ρ,m=>grd k o m (.ok (.nx ρ) m)|d::r,ρ,m=>grd k o m ((g d ρ m).bind fun c m1=>(b c m1).bind fun f m2=>match f with
  |.nx a=>zpF k o g b r a m2|.ct a=>zpF k o g b r a m2|.bk a=>.ok (.nx a) m2|.rt d=>.ok (.rt d) m2)
abbrev OI:=En->Sto->Res (Nat×MO×List D)
def asObj(d:D)(m:Sto):Res (Nat×MO×List D):=match d with
 |.ob k=>match m[k]? with
  |some (.lst xs)=>.ok (k,.lst xs,xs) m|_=>.bad
 |_=>.bad
def aObj(f:EV):OI:=fun ρ m=>(f ρ m).bind asObj
def sForO(it:OI)(g:GV)(b:SV):SV:=fun ρ m=>(it ρ m).bind fun t m1=>zpF t.1 t.2.1 g b t.2.2 ρ m1
def zfB(k:Nat)(o:MO)(g:GV)(c:TV)(el:EV)(ρ : En):List D->Sto->Res (List D)
 |[],m=>grd k o m (.ok [] m)|d::r,m=>grd k o m ((g d ρ m).bind fun a m1=>(c a m1).bind fun b m2=>if b=ac then (el a m2).bind fun x m3=>(zfB k o g c el ρ r m3).bind fun xs M=>.ok (x::xs) M else zfB k o g c el ρ r m2)
def ItO(K:yb)(cl:ae->ad)(α : List ad)(H:Hp)(J:It)(k:Nat)(o:MO)(ds:List D):Prop :=
 ∀(i:Nat)(a:List ad)(m1:Sto)(H1:Hp),Ext α H a H1->Wd K cl a m1 H1->m1[k]?=aa o->(∀d,ds[i]?=aa d->J.go i H1/\∀x H2,J.yld i H1 x H2->Same H1 H2/\Rep K a H2 d x)/\(i=ds.length->J.stop i H1)
def zmF:SV:=by walk_at "#=I{LsC2w&tJ=Cw)Cw)Cw)Cw)vDvDvDvDvDsQuAw$6uHI{Mt-=t/mX)IxysnJwcwxI:I{NsCsflwy%xztrwc{OuIuz1vB%xztr<_4uxtct&xl1t&x{)t&tbS"
def zfw:List D->Sto->Res D:=za2 5 zmF
def zkp:SV:=by walk_at "#Ywzu0tFt:u?vEtQZvFSuIx|u?d!uJu?vE=snZvF)sP=CwvZvF){PvFv6DYtd6s+tbmu8tb5=u8tbsQtPmu8x{XX<vG{QXvG{Rt-=snXJI{SI{Tt-=snXJmsnJIxyI{UI{Vt-v7CwvJI{W)"
def zaz:List D->Sto->Res D:=za2 5 zkp
def zp4:SV:=by walk_at "#4sosS+uvL8"
def zaJ:List D->Sto->Res D:=za2 2 zp4
def zhj:SV:=by walk_at "#2v~ds6tKs7tRuK'v8vHv7tMsSss!v8"
def zbu:List D->Sto->Res D:=za2 3 zhj
def zh8:SV:=by walk_at "#2wVtvt3sKt%<GsX{Xtwt%vG/sXwr+w{]r8DsqvG/2{YsRGsS0s)!'s71vItuuK's7vJsRXGsStv!5!tLv=s3sXtb+vKv:t2tOEtat/UXWcs718DuLt%vG:vL)S2v~ds6'vMtI0w|'xcIw|tKsS0{Z!Iw|[:sXwsuKt0+xTtn8DsX{[!"
def zdJ:List D->Sto->Res D:=za2 8 zh8
def zhl:SV:=by walk_at "#=s+{]sPuM9/uK0x}!+w&8t+t2sR5sSLs]32tmvNssuNtv0w}vOs]*=XtMt/<XuOUIx}m5t/<UIEv>uIuzJ+witnsL+{^]tssLuPtD+xrtrtxwd0:0w}0{_0{`0{a'wc*uP"
def zcV:List D->Sto->Res D:=za2 8 zhl
def zkh:SV:=by walk_at "#2wVuNtJsKt%1uOsXwt_sq1uOsXw*_tP5sSLt3sXu{O+w{]O8"
def ze0:List D->Sto->Res D:=za2 4 zkh
def zh9:SV:=by walk_at "#2vKv:t`w^sQta%{b]sr95vHtDtxvNss0*0FvO8txvNssuN0*tv0fvO8to"
def zbT:List D->Sto->Res D:=za2 3 zh9
def zkk:SV:=by walk_at "#2tmddvNuN0{cs]AtPvCtmds6ss0wx0{dvHtDLrtxddwduN0x~8txddd0:0wxs60{euP"
def ze1:List D->Sto->Res D:=za2 3 zkk
def zkn:SV:=by walk_at "#2{fuFtJ2vKv:t2txdvNuN0f8vIta%y!]rs]9tDrtx0F0f0w}vO8O+{g]8"
def zdb:List D->Sto->Res D:=za2 4 zkn
end MD
namespace L2
open PySem PySem.Spec PyProof.Rows
end L2
namespace MD
open PySem L2
variable{K:yb}{cl:ae->ad}{ex:XD}
end MD
namespace MD
open PySem PySem.Spec PyProof.Rows L2
def zpC(ds:List D)(m:Sto):Res D:=match ds with
 |[.int j]=>if 0<=j/\j<=1000 then .ok (.lst (zcc 0 j.toNat)) m else .bad|_=>.bad
theorem zmj{K:yb}{α : List ad}{H:Hp}:∀(l:List Nat),RepL K α H (l.map fun i:Nat=>D.int (0+(i:Nat))) (l.map fun i:Nat=>V.int (i:Int))
 |[]=>by simp[RepL]|i::r=>by
  rw[yl,yl,RepL];exact⟨_,_,rfl,by rw[Rep,ybc],zmj r⟩
variable{X:Cx}{cl:ae->ad}{ex:XD}{p pos:aw}
section
variable{a:ak}{fr:AV}{p2 pos2:aw}
theorem zta(C:X.calm=ac)(B:Gl X "list")(hm:X.mg "list" = none)(n:Gl X "range")(k:X.mg "range" = none)(ha:QA X cl ex [a] fr)(s:autoParam (ap [Expr.Call (.Name "range" p2) [a] [] pos2] X.env=(ag,eval (Expr.Call (.Name "range" p2) [a] [] pos2) X.env)::ap [] X.env) AutoP.a3._auto_1)(g:autoParam ((az pos (ap [] X.env)).any (·.1)=ag) AutoP.a3._auto_1)(r:autoParam (ap [a] X.env=(ag,eval a X.env)::ap [] X.env) AutoP.a3._auto_1)(c:autoParam ((az pos2 (ap [] X.env)).any (·.1)=ag) AutoP.a3._auto_1) : QE X cl ex (.Call (.Name "list" p) [.Call (.Name "range" p2) [a] [] pos2] [] pos) (eFn zpC fr) :=
 ⟨PE.weak (zgT (zjj C) B hm boot_list (zcu (zgT zrW n k boot_range ha.out (by decide) (by decide) r c) zfL s) (by decide) (by decide) s g) fun σ H Q A=>ex3 A fun α ρ m W hr h=>tDA.use W hr h fun u m1 t d v E w hr1 x f=>by
  unfold zpC at f;split at f
  ·rename_i j;obtain⟨z,y⟩:=PQ.if f;obtain⟨v,rfl,R⟩:=x.one_of;rw[Rep]at R;subst R;refine⟨j,rfl,z.1,by omega,fun q hq=>?_⟩;refine⟨q,j.toNat,rfl,?_,by omega,fun l hl=>?_⟩
   ·rw[zaw];congr 2;omega
   ·have D:=w.same (Same.new (o := .rng 0 j) hq);have S:Same t (upd (upd t q (.rng 0 j)) l (.lst ((yw j.toNat).map fun i:Nat=>V.int (i:Int)))):=fun b o e=>Same.new hl b o (Same.new hq b o e);exact PQ.okS w S y _ (zbF D hl (zmj _))
  ·exact f.elim⟩
end
def zso(c f:ae)(x:D)(m:Sto):Res D:=match x with
 |.ob k=>match m[k]? with
  |some (.ins c' fs)=>if c'=c then opt (fs.lookup f) m else .bad|_=>.bad
 |_=>.bad
def zcy(c f:ae)(F:EV):EV:=fun ρ m=>(F ρ m).bind (zso c f)
def zf4(f:ae)(v:D):List (ae×D)->List (ae×D)
 |[]=>[(f,v)]| (g,x)::r=>if g=f then (g,v)::r else (g,x)::zf4 f v r
def zqO(c f:ae)(x y:D)(m:Sto):Res Unit:=match x with
 |.ob k=>match m[k]? with
  |some (.ins c' fs)=>if c'=c/\fs.length<1000 then .ok () (m.set k (.ins c (zf4 f y fs))) else .bad|_=>.bad
 |_=>.bad
def zeq(c f:ae)(fo F:EV):SV:=fun ρ m=>(F ρ m).bind fun y m1=>(fo ρ m1).bind fun x m2=>(zqO c f x y m2).bind fun _ m3=>.ok (.nx ρ) m3
def zfq(c M:ae)(x:D)(m:Sto):Bool:=match x with
 |.ob k=>match m[k]? with
  |some (.ins c' fs)=>decide (c'=c)&&(fs.lookup M).isNone|_=>ag
 |_=>ag
def zcE(c M:ae)(g:List D->Sto->Res D)(fo:EV)(fr:AV):EV:=fun ρ m=>(fo ρ m).bind fun x m1=>if zfq c M x m1=ac then (fr ρ m1).bind fun ds m2=>g (x::ds) m2 else .bad
def mkEnd(n:Nat)(v:D)(m:Sto):Res D:=match v with
 |.non=>.ok (.ob n) m|_=>.bad
def mkM(c:ae)(g:List D->Sto->Res D)(ds:List D)(m:Sto):Res D:=(g (.ob m.length::ds) (m++[.ins c []])).bind (mkEnd m.length)
variable{K:yb}{α : List ad}{H:Hp}{c:ae}
section
variable{m:Sto}
theorem RepF.look{f:ae}:∀{ds:List (ae×D)}{xs:List (ae×V)},RepF K α H ds xs->(∀d,ds.lookup f=aa d->∃v,xs.lookup f=aa v/\Rep K α H d v)/\(ds.lookup f=none->xs.lookup f=none)
 |[],_,h=>by
  cases (show _=[] from h);exact⟨fun d e=>(nomatch e),fun _=>rfl⟩
 |p::ds,_,⟨v,r,rfl,h1,h2⟩=>by
  obtain⟨a,b⟩:=RepF.look (f:=f) h2;obtain⟨g,x⟩:=p;simp only[yaJ];cases c:f==g with
  |true=>exact⟨fun d e=>by simp only[yaq]at e;subst e;exact⟨v,rfl,h1⟩,fun e=>by simp at e⟩|false=>exact⟨a,b⟩
theorem RepF.put{f:ae}{d:D}{v:V}(b:Rep K α H d v):∀{ds:List (ae×D)}{xs:List (ae×V)},RepF K α H ds xs->RepF K α H (zf4 f d ds) (zhy f v xs)
 |[],_,h=>by
  cases (show _=[] from h);exact⟨v,[],rfl,b,rfl⟩
 |p::ds,_,⟨u,r,rfl,h1,h2⟩=>by
  obtain⟨g,x⟩:=p;unfold zf4 zhy;by_cases a:g=f
  ·rw[if_pos a];show RepF K α H ((g,d)::ds) (if g=f then (g,v)::r else (g,u)::zhy f v r);rw[if_pos a];exact⟨v,r,rfl,b,h2⟩
  ·rw[if_neg a];show RepF K α H ((g,x)::zf4 f d ds) (if g=f then (g,v)::r else (g,u)::zhy f v r);rw[if_neg a];exact⟨u,_,rfl,h1,RepF.put b h2⟩
theorem RepF.length:∀{ds:List (ae×D)}{xs:List (ae×V)},RepF K α H ds xs->ds.length=xs.length
 |[],_,h=>by cases (show _=[] from h);rfl|p::ds,_,⟨u,r,rfl,h1,h2⟩=>by rw[yt,yt,RepF.length h2]
theorem Wd.ins(W:Wd K cl α m H){k:Nat}{a:ad}{ds:List (ae×D)}(h1:α[k]?=aa a)(h:m[k]?=aa (.ins c ds)):∃dx xs,H a=aa (.ins (cl c) dx xs)/\RepF K α H ds xs:=W.at' k a _ h1 h
end
variable{x:ae}{n:Nat}{mm:Sto}{pl:Sem Bool}{P:aq}{mg:ae->Option af}{base:au}{qual:ae}{st:ao}{fd:aF}{N ps:List ae}{body:SV}
section
variable{o e value:ak}{es:List ak}{f m:ae}{pos' apos:aw}{fa fv:EV}{fr:AV}{k:Nat}{g:List D->Sto->Res D}
theorem zbL(p:QE X cl ex e fa)(q:Cls X.K (cl c))(hn:NoAttr X.K (cl c) f)(s:autoParam (br e f X.env (eval e X.env)=eval e X.env) AutoP.a3._auto_1):QE X cl ex (.Attribute e f pos) (zcy c f fa) :=
 ⟨PE.weak (pe_fld p.out s) fun σ H Q o=>ex3 o fun α ρ m W hr h=>tD.use W hr h fun i m1 t d v E w hr1 r h1=>by
  unfold zso at h1;split at h1
  ·rename_i k;split at h1
   ·rename_i c' fs n;obtain⟨g,b⟩:=PQ.if h1;clear h1;subst g;rw[Rep]at r;obtain⟨a,ha,rfl⟩:=r;obtain⟨dx,xs,j,R⟩:=w.ins ha n;cases hl:fs.lookup f with
    |none=>rw[hl]at b;exact b.elim|some d=>
     rw[hl]at b;obtain⟨v,l,r⟩:=R.look.1 d hl;exact⟨a,_,dx,xs,v,rfl,j,q,hn,l,PQ.ok w b v r⟩
   ·exact h1.elim
  ·exact h1.elim⟩
theorem zgM(t:QE X cl ex o fa)(s:QE X cl ex value fv)(z:Cls X.K (cl c))(hn:NoAttr X.K (cl c) f)(hs:autoParam (aU value (aa (.Attribute o f pos')) pos.line X.env=pure ag) AutoP.a3._auto_1):QS X cl ex (.Assign [.Attribute o f pos'] value pos) (zeq c f fa fv) :=
 ⟨PS.weak (ps_fld t.out s.out hs) fun D σ H y=>ex3 y fun α ρ m W hr h=>tD.use W hr h fun n m1 G d v I i hr1 p h1=>tD.use i hr1 h1 fun l m2 F C V B w hr2 r b=>by
  unfold zqO at b;split at b
  ·rename_i k;split at b
   ·rename_i c' fs x;by_cases e:c'=c/\fs.length<1000
    ·rw[if_pos e]at b;obtain⟨rfl,hl⟩:=e;rw[Rep]at r;obtain⟨a,ha,rfl⟩:=r;obtain⟨dx,xs,q,g⟩:=w.ins ha x;have R:=p.mono i B;refine⟨a,_,dx,xs,rfl,q,z,hn,by rw[<- g.length];exact hl,?_⟩;obtain⟨A,j⟩:=w.set (u := .ins (cl c') dx (zhy f v xs)) (o := .ins c' (zf4 f d fs)) ha fun E=>⟨dx,_,zaw,(g.put R).mono w E⟩;exact b _ _ j A _ (hr2.mono w j)
    ·rw[if_neg e]at b;exact b.elim
   ·exact b.elim
  ·exact b.elim⟩
structure FnM(P:aq)(w:al)(K:yb)(mg:ae->Option af)(base:au)(cl:ae->ad)(c m:ae)(k n:Nat)(g:List D->Sto->Res D):Prop where
 ex:∃(f:ad)(fd:aF)(ps:List ae),Meth K (cl c) m f/\Binds K fd ps []/\FnOk P w K mg base CX0 k f fd ps (spD K cl X0 n g)
structure FnC(P:aq)(w:al)(K:yb)(mg:ae->Option af)(base:au)(cl:ae->ad)(c:ae)(k n:Nat)(g:List D->Sto->Res D):Prop where
 ex:∃(f:ad)(fd:aF)(ps:List ae),mg c=aa (.ref (cl c))/\Mk K (cl c) f/\Binds K fd ps []/\FnOk P w K mg base CX0 k f fd ps (spD K cl X0 n g)
theorem zeV{d:D}{v:V}(W:Wd K cl α mm H)(h:zfq c m d mm=ac)(r:Rep K α H d v):∃a dx fs,v = .ref a/\H a=aa (.ins (cl c) dx fs)/\fs.lookup m=none:=by
 unfold zfq at h;split at h
 ·rename_i k;split at h
  ·rename_i c' fs e;rw[yy,decide_eq_true_eq,Option.isNone_iff_eq_none]at h;obtain⟨rfl,f⟩:=h;rw[Rep]at r;obtain⟨a,ha,rfl⟩:=r;obtain⟨dx,xs,b,R⟩:=W.ins ha e;exact⟨a,dx,xs,rfl,b,R.look.2 f⟩
  ·cases h
 ·cases h
theorem zfK(h:FnM X.prog X.w X.K X.mg X.base cl c m k n g)(x:QE X cl X0 o fa)(A:Cls X.K (cl c))(hn:n=(e::es).length+1)(hr:Room k X.A)(ha:QA X cl X0 (e::es) fr)(b:∀ρ m ds m1,fr ρ m = .ok ds m1->ds.length=(e::es).length)
  (l:autoParam (ap (e::es) X.env=(ag,eval e X.env)::ap es X.env) AutoP.a3._auto_1) (p:autoParam ((az pos (ap es X.env)).any (·.1)=ag) AutoP.a3._auto_1)
  (u:autoParam (eval (.Call (.Attribute o m apos) (e::es) [] pos) X.env=(do
   let O <- eval o X.env
   aX apos.atName
   let (f,first) <- holding [O] (getMethod O m pl)
   bQ pos f first (az pos (ap (e::es) X.env)) (aL pos (aM [] X.env)))) AutoP.a3._auto_1):QE X cl X0 (.Call (.Attribute o m apos) (e::es) [] pos) (zcE c m g fa fr):=by
 obtain⟨f,fd,ps,h1,C,B⟩:=h.ex
 refine⟨PE.weak (zty (E:=E0) x.out A h1 B hr C .nil zrj ha.out l p u) fun σ H Q y=>ex3 y fun α ρ M W hr h=>tD.use W hr h fun t m1 I d v J w hr1 R q=>?_⟩
 obtain⟨hi,q⟩:=PQ.if q
 obtain⟨a,dx,fs,rfl,D,el⟩:=zeV w hi R
 refine⟨a,dx,fs,rfl,D,el,?_⟩
 cases i:fr ρ m1 with
 |bad=>rw[i]at q;exact q.elim
 |exc c m2=>exact tDA.exc w hr1 i q
 |ok ds m2=>
  rw[i]at q
  refine tDA.at w hr1 i fun j G vs s F hr2 r=>?_
  refine⟨?_,j,m2,d::ds,F,?_,PQ.mono s q fun _ _ _ _ _ _ z=>z⟩
  ·rw[y6,yt,<- r.length,b ρ m1 ds m2 i,hn]
  ·rw[y6,RepL]
   exact⟨_,_,rfl,R.mono w s,r⟩
theorem zdz(h:FnM X.prog X.w X.K X.mg X.base cl c m k n g)(i:QE X cl X0 o fa)(l:Cls X.K (cl c))(hn:n=1)(hr:Room k X.A)
  (e:autoParam (eval (.Call (.Attribute o m apos) [] [] pos) X.env=(do
   let O <- eval o X.env
   aX apos.atName
   let (f,first) <- holding [O] (getMethod O m pl)
   bQ pos f first (az pos (ap [] X.env)) (aL pos (aM [] X.env)))) AutoP.a3._auto_1):QE X cl X0 (.Call (.Attribute o m apos) [] [] pos) (zcE c m g fa zaj):=by
 obtain⟨f,fd,ps,h1,s,p⟩:=h.ex
 refine⟨PE.weak (zrd (E:=E0) i.out l h1 p hr s .nil zrj e) fun σ H Q j=>ex3 j fun α ρ M W hr h=>tD.use W hr h fun b m1 u d v x w hr1 r q=>?_⟩
 obtain⟨hi,q⟩:=PQ.if q
 obtain⟨a,dx,fs,rfl,t,el⟩:=zeV w hi r
 refine⟨a,dx,fs,rfl,t,el,?_⟩
 refine⟨by rw[hn];rfl,b,m1,[d],w,?_,q⟩
 rw[y6,RepL]
 exact⟨_,_,rfl,r,by rw[RepL]⟩
theorem zt8{ds:List D}{vs:List V}{Q:VK}{R:RD D}(W:Wd K cl α mm H)(r:RepL K α H ds vs)(hl:n=ds.length+1)(h:PQ K cl X0 (mkM c g ds mm) α H R)(p:∀d α' m' H',R d α' m' H'->∀v,Rep K α' H' d v->Q v H') : ∀x dx,H x=none->H dx=none->dx≠x->spD K cl X0 n g (.ref x::(vs++[])) (upd (upd H dx (.own x)) x (.ins (cl c) dx [])) (fun v H2=>v = .non/\Q (.ref x) H2) E0:=by
 intro x dx m i f;have s:Same H (upd H dx (.own x)):=Same.new i;have k:=W.same s;have l:=Ext.of_same W s;have e:upd H dx (.own x) x=none:=by rw[zao (Ne.symm f)];exact m
 obtain⟨w,E⟩:=k.new (u := .ins (cl c) dx []) (o := .ins c []) e ⟨dx,[],zaw,rfl⟩;have a:Rep K (α ++ [x]) (upd (upd H dx (.own x)) x (.ins (cl c) dx [])) (.ob mm.length) (.ref x):=by
  rw[Rep];refine⟨x,?_,rfl⟩;rw[<- W.len,yT (yc _)];simp
 refine⟨by rw[y6,yt,<- r.length,hl],α ++ [x],mm++[.ins c []],.ob mm.length::ds,w,?_,?_⟩
 ·rw[y6,RepL];exact⟨_,_,rfl,a,(r.mono W l).mono k E⟩
 ·unfold mkM at h;refine PQ.mono (l.trans E) h.bind fun d b m1 y z t q v j=>?_;cases d with
  |non=>
   rw[Rep]at j;exact⟨j,p _ _ _ _ (PQ.ok t (show PQ K cl X0 (.ok (.ob mm.length) m1) b y R from q)) _ (a.mono w z)⟩
  |_=>exact q.elim
theorem zs9(h:FnC X.prog X.w X.K X.mg X.base cl c k n g)(hn:n=(e::es).length+1)(hr:Room (k+1) X.A)(o:Gl X c)(ha:QA X cl X0 (e::es) fr)(a:∀ρ m ds m1,fr ρ m = .ok ds m1->ds.length=(e::es).length)(i:autoParam ((c==("__debug__" : ae))=ag) AutoP.a1._auto_1)(q:autoParam (ap (e::es) X.env=(ag,eval e X.env)::ap es X.env) AutoP.a3._auto_1)(d:autoParam ((az pos (ap es X.env)).any (·.1)=ag) AutoP.a3._auto_1):QE X cl X0 (.Call (.Name c p) (e::es) [] pos) (eFn (mkM c g) fr):=by
 obtain⟨f,fd,ps,h1,u,t,s⟩:=h.ex;refine⟨PE.weak (ztz (E:=E0) u s hr o h1 t .nil zrj ha.out i q d) fun σ H Q l=>ex3 l fun α ρ M W hr h=>?_⟩;unfold eFn at h;cases b:fr ρ M with
 |bad=>rw[b]at h;exact h.elim|exc c m2=>exact tDA.exc W hr b h|ok ds m1=>
  rw[b]at h;exact tDA.at W hr b fun j y v x w hr1 r=>zt8 w r (by rw[hn,a ρ M ds m1 b]) (PQ.mono x h fun _ _ _ _ _ _ z=>z) fun _ _ _ _ z=>z
theorem FnM.mk'{w:al}{f:ad}{k:Nat}(F:Fun K x qual st f fd)(b:Binds K fd ps [])(m:Meth K (cl c) x f)(S:FnScope N ps (zah st))(hn:n=ps.length)(h:∀(cdv:af)(A:ax)(outer:List yP)(s:ai)(H:Hp)(E:XK),Room k (A.deeper (aH qual (zah st) s.heap.objs.size f cdv))->QSs (zkW CX0 P w K mg base N qual (zah st) f cdv A outer s H E).nox cl X0 (zbj st) body):FnM P w K mg base cl c x (k+1) n (za2 N.length body) :=
 ⟨f,fd,ps,m,b,F.ok S (fun vs H Q E h=>by rw[<- hn];exact h.1) fun cdv A outer s H vs Q E hr q=>⟨_,(h cdv A outer s H E hr).out,fn_d q⟩⟩
theorem FnC.mk'{w:al}{f:ad}{k:Nat}(F:Fun K x qual st f fd)(b:Binds K fd ps [])(M:mg c=aa (.ref (cl c)))(m:Mk K (cl c) f)(S:FnScope N ps (zah st))(hn:n=ps.length)(h:∀(cdv:af)(A:ax)(outer:List yP)(s:ai)(H:Hp)(E:XK),Room k (A.deeper (aH qual (zah st) s.heap.objs.size f cdv))->QSs (zkW CX0 P w K mg base N qual (zah st) f cdv A outer s H E).nox cl X0 (zbj st) body):FnC P w K mg base cl c (k+1) n (za2 N.length body) :=
 ⟨f,fd,ps,M,m,b,F.ok S (fun vs H Q E h=>by rw[<- hn];exact h.1) fun cdv A outer s H vs Q E hr q=>⟨_,(h cdv A outer s H E hr).out,fn_d q⟩⟩
end
end MD
namespace L2
open PySem PySem.Spec PyProof.Rows
end L2
namespace MD
open PySem PySem.Spec PyProof.Rows L2
variable{X:Cx}{K:yb}{cl:ae->ad}{ex:XD}
section
variable{o i:ak}{fo fi:EV}{pos:aw}
theorem RepL.reps{K:yb}{α : List ad}{H:Hp}{ds:List D}{vs:List V}(h:RepL K α H ds vs):∀n:Nat,RepL K α H (yd n ds).flatten (yd n vs).flatten
 |0=>by simp[RepL]|n+1=>by rw[y7,y7,ya4,ya4];exact RepL.append h (RepL.reps h n)
end
section
def mulL(x y:D)(m:Sto):Res D:=match x,y with
 |.lst a,.int n=>if 0<=n/\n<=100000/\a.length*n.toNat<=sizeLine then .ok (.lst (yd n.toNat a).flatten) m else .bad|_,_=>.bad
def rRepR:R2:=fun x y H Q=>∃l k xs,x = .ref l/\y = .int k/\Rd H l (.lst xs) /\ -(2^63)<=k/\k<2^63/\xs.length*k.toNat<=sizeLine ∧
 ∀p,H p=none->Q (.ref p) (upd H p (.lst (yd k.toNat xs).flatten))
theorem ztJ:OpR X (aK .Mult) rRepR:=by
 intro pins s σ H x y v u Q I p R h;obtain⟨l,k,xs,rfl,rfl,i,h1,w,j,q⟩:=h;cases p;obtain⟨t,rfl⟩:=R;obtain⟨z,its,n,r,e⟩:ObjOk X.prog X.w H s.heap l (.lst xs):=by
  rcases i with i|⟨o,i⟩
  ·exact I.hok l _ i
  ·exact(I.hok l _ i).2
 have hl:=r.length;have d:its.toArray.size*k.toNat<=sizeLine:=by rw[yp,<- hl];exact j
 have g : ¬ its.toArray.size*k.toNat>(2^63-1)/8:=by
  have:(sizeLine:Nat)<=(2^63-1)/8:=by decide
  omega
 have f : ¬ (!Builtin.List.listFitsIndex k)=ac:=by
  rw[fitsIndex_both h1 w];exact yu
 have b : ¬ ycC (its.toArray.size*k.toNat)=ac:=by
  rw[zrr d];exact yu
 have c:ya5 (fun x1 x2=>x1++x2) #[] (yd (if its.toArray.isEmpty=ac then 0 else k.toNat) its.toArray)=(yd k.toNat its).flatten.toArray:=by
  have f0:∀m:Nat,ya5 (fun x1 x2=>x1++x2) #[] (yd m its.toArray)=(yd m its).flatten.toArray:=fun m=>by
   have:=zkt its m [];rw[ybx]at this;exact this
  rw[f0];cases its with
  |nil=>simp|cons a A=>rw[if_neg (by simp)]
 refine cz (T := "list") (U := "int") (by decide) ⟨_,e,rfl⟩ (fun s'=>b8 s' k t) noFill_list_mul F.fills_int_mul yb5 repeat_list F.slot_int_index.lookup
  (bi yb5 (b8 s k t) F.entry_int_rmul (F.args_int_rmul_2 _ _) (int___rmul___int_list k t l its.toArray n)
   ⟨e,rfl,⟨_,e,rfl⟩,bi F.slot_list_mul ⟨_,e,rfl⟩ F.entry_list_mul (F.args_list_mul_2 _ _) (AutoListH.list___mul___list_int_3 l its.toArray n k t f g b) ⟨e,?_⟩⟩)
 rw[c];exact⟨.ref _,_,I.lnew (t':=s.toks) (r.rep k.toNat) (by rw[zud,Nat.mul_comm];exact j),rfl,q _ I.fresh⟩
theorem ztU:OpD K cl ex rRepR mulL:=fun α m H x y V v Q W R r h=>by
 unfold mulL at h;split at h
 ·rename_i a n;obtain⟨c,h⟩:=PQ.if h;rw[Rep]at R;rw[Rep]at r;obtain⟨l,xs,rfl,n1,h1,b⟩:=R;subst r;exact⟨l,n,xs,rfl,rfl,h1,by omega,by omega,by rw[<- b.length];exact c.2.2,fun p hp=>PQ.okS W (Same.new hp) h _ (zbF W hp (b.reps n.toNat))⟩
 ·exact h.elim
end
end MD
namespace PySem
open Sem (wp)
open Builtin
end PySem
namespace L2
open PySem PySem.Spec PyProof.Rows
end L2
namespace MD
open PySem PySem.Spec PyProof.Rows L2
def ze4:SV:=by walk_at "#tiz3xp{hy#6tSuA6sCtyt:)s+y$lt:)s+wwtSxYy%"
def zb4:List D->Sto->Res D:=za2 2 ze4
def znL:SV:=by walk_at "#v5sC=5sPYwzu0s-16=X1GsPs8tRsCuB"
def zcv:List D->Sto->Res D:=za2 3 znL
def zmH:SV:=by walk_at "#vPvQtDs6'tt'Xsl+wiwTw*8t1s5s[S8D4ZuD)"
def zba:List D->Sto->Res D:=za2 2 zmH
def zhf:SV:=by walk_at "#s9y&sR5t1'uD8"
def za8:List D->Sto->Res D:=za2 1 zhf
def zfZ:SV:=by walk_at "#s9y&s5s[5!"
def zbq:List D->Sto->Res D:=za2 1 zfZ
def zfU:SV:=by walk_at "#2wnuFtJ4mmm%w~v9tM5%{i's[to%y'v9"
def zbH:List D->Sto->Res D:=za2 3 zfU
def zft:SV:=by walk_at "#2w't.)uH%w~]vHsKwo1t1'uD!w+D4x!tQ1S^sB15"
def zcT:List D->Sto->Res D:=za2 3 zft
def zi9:SV:=by walk_at "#vR{jt0w+D2{kuFtJuJt1t0%{l]tow+D2w~]t3tP<Zz8]to5t-uCt1t0%y']uE2w't.v<UuwvSsKwyWv;5w+DtDr+w't.v<<t_J!t.v<Jt_Uxa"
def zfv:List D->Sto->Res D:=za2 7 zi9
def zlN:SV:=by walk_at "#v5sCYwzu0s-v86s8tRsCuB"
def zbN:List D->Sto->Res D:=za2 2 zlN
def zkr:SV:=by walk_at "#4t/vCxx+xb>u|1tL9s'/s3taXm<GJ!tt"
def zdc:List D->Sto->Res D:=za2 3 zkr
def zfY:SV:=by walk_at "#s9vKv:t`w^sPta%w{]sr>58"
def zb1:List D->Sto->Res D:=za2 2 zfY
def zcM:SV:=by walk_at "#uM3*s5v;)Gsr>)!sqv-tNwrs8WXtzJM*tyt$v-tNtblu}Wtzs1Ztzt/wlxsxttzxaJt1sr35vSsftQv-tNwss8WXv-GsBv/tztMtzM*Dv7Ws7Zv;tR"
def zaV:List D->Sto->Res D:=za2 7 zcM
def ze3:SV:=by walk_at "#tuvIt+u|w^tLv=s32y(LtsrsZs6[:sqsSwXSs1t/tq%tms6'vMtI'xcI:uK's7v?uPs7v?v>Ds8JsltnvI4J"
def zbP:List D->Sto->Res D:=za2 8 ze3
def zia:SV:=by walk_at "#=)sQt+t2+uvrs]/s8<XmJGtMJsQv7<tt"
def zbD:List D->Sto->Res D:=za2 5 zia
def zfV:SV:=by walk_at "#vAu{4ttD4XvCwp'Ct$z6w*!"
def zbI:List D->Sto->Res D:=za2 2 zfV
def zdI:SV:=by walk_at "#=s+wusQt+u|s[tLu>3s3=x!lsIvQtz%y)'soJsr35vSs8<%w,vBtMJs7WsLt34<"
def zaX:List D->Sto->Res D:=za2 7 zdI
def zeC:SV:=by walk_at "#=6uQu>v=s':s3Yy*EFKts'^d!sKu-vQy*EFKs5tptRs5tp)GsR5)_tP%w,t4+y+sR5t1sLuP%w,vB1s7ct)vTtPtT%y,sZw_OvT4mtT%w,+w-sZrwX+y+vU58"
def zbv:List D->Sto->Res D:=za2 12 zeC
def zfW:SV:=by walk_at "#tuuEt+u|s[tL*s':s32y(uGOtstOE2y)'soWsr:5vVuMK>+y-t.1uHvW!t.1t_vWuw!sqv2WtNu{uCcv2WGMs)s1t/tTsnsBuRtTs7vWs7tB:5MEsftQv2WtNw*s1uRMEDs8Uslt)uE4U"
def zbJ:List D->Sto->Res D:=za2 12 zfW
end MD
namespace L2
open PySem PySem.Spec PyProof.Rows
variable{vs:Array af}
theorem zcX{h:au}{a:ad}{o:ar}{i:Nat}{x:af}(H:h.get? a=aa o)(hd:o.data = .fields vs):(h.update a (yaU fun z=>z.setIfInBounds i x)).get? a=aa { o with data := .fields (vs.setIfInBounds i x) }:=by
 obtain⟨c,d,D,sl⟩:=o;simp only at hd;subst hd;exact ybl _ H rfl
variable{M:Model}{A:ax}{E:af->ai->Prop}{s:ai}
theorem zly{nx fr l f L:af}{pl:List af}(hp:IsPlace pl){Q:af->ai->Prop}(h:∀ts:Array af,3<ts.size->Q (.ref s.heap.objs.size) { s with heap:=s.heap.push { cls := .type "traceback", data := .fields ts } }):wpAny M A (EntryCells.newEntry nx fr l f L pl) Q E s:=by
 unfold EntryCells.newEntry newFields;refine aR (h _ ?_) ?_
 ·simp
 ·show Array.size _<=sizeLine+2;have e:sizeLine=16777216:=by decide
  rcases hp with rfl|⟨a,b,c,d,C,B,_,rfl⟩ <;> simp <;> omega
variable{base:au}{env:aG}{outer:List aG}{L:ad}{oe:ar}{Q:Unit->ai->Prop}
theorem zmN{e:ad}{head:af}{g:Bool}(fr:A.frames=aa (env::outer))(F:s.heap.FunFrames base (env::outer))(m:env.frame=aa L)
  (k:s.heap.get? e=aa oe) (hd:oe.data = .fields vs) (i:1<vs.size)
  (h:∀h':au,(∀b o,b∉frs (env::outer)->b≠e->s.heap.get? b=aa o->h'.get? b=aa o)->(∀b o,b≠e->s.heap.get? b=aa o->∃sl,h'.get? b=aa { o with slots:=sl }) →
   (∃vs',h'.get? e=aa { oe with data := .fields vs' }/\vs'[1]?=aa (.ref s.heap.objs.size))->(∃oT ts,h'.get? s.heap.objs.size=aa oT/\oT.data = .fields ts/\ts[3]?=aa .none)->Q () { s with heap:=h' }) :
  wpAny M A (do
   let a <- frameOf env
   let pl <- entryPlaceOf L g
   let b <- EntryCells.newEntry head a yab (rawInt ↑L) yab pl
   setField (yo e) 1 b) (fun _ s'=>wpAny M A (bA (.ref e) none) Q E s') E s:=by
 have n:e∉frs (env::outer):=fun z=>by
  obtain⟨_,o,j,hn⟩:=F.mem z
  rw[k]at j
  cases j
  exact hn _ hd
 refine aj (wpAny_frameOf_fun fr F m fun h1 S=>?_)
 obtain⟨sz,k1,k2⟩:=S
 refine aj (wpAny_entryPlaceOf fun pl hp=>aj (zly hp fun ts d=>?_))
 have f:h1.get? e=aa oe:=by rw[k1 e n];exact k
 have H:(h1.push { cls := .type "traceback", data := .fields ts }).get? e=aa oe:=yf _ f
 have ne:h1.objs.size≠e:=yai (yi f)
 refine bU H hd i ?_
 unfold bA
 refine aj (aJ (zcX H hd) rfl (by rw[ycQ];simp[i];rfl) ?_)
 have l:((h1.push { cls := .type "traceback", data := .fields ts }).update e (yaU fun z=>z.setIfInBounds 1 (.ref h1.objs.size))).get? h1.objs.size=aa { cls := .type "traceback", data := .fields ts }:=by
  rw[yal _ _ _ _ ne];exact yr _ rfl
 show wpAny M A (setField (.ref h1.objs.size) 3 .none) Q E _
 refine bU l rfl d ?_
 rw[show s.heap.objs.size=h1.objs.size from sz.symm]at h
 refine h _ (fun b o nb g q=>?_) (fun b o g q=>?_) ⟨vs.setIfInBounds 1 (.ref h1.objs.size),?_,?_⟩ ⟨_,ts.setIfInBounds 3 .none,zcX l rfl,rfl,?_⟩
 ·have c:h1.get? b=aa o:=by rw[k1 b nb];exact q
  rw[yal _ _ _ _ (ym (yi c)),yal _ _ _ _ g]
  exact yf _ c
 ·obtain⟨sl,c⟩:=k2 b o q
  refine⟨sl,?_⟩
  rw[yal _ _ _ _ (ym (yi c)),yal _ _ _ _ g]
  exact yf _ c
 ·rw[yal _ _ _ _ ne.symm]
  exact zcX H hd
 ·rw[ycQ];simp[i]
 ·rw[ycQ];simp[d]
def TbO(T:ad):au->Prop:=fun h=>∃o vs,h.get? T=aa o/\o.data = .fields vs
theorem znD{e:ad}(fr:A.frames=aa (env::outer))(u:s.heap.FunFrames base (env::outer))(r:env.frame=aa L)
  (j:s.heap.get? e=aa oe) (hd:oe.data = .fields vs)
  (C:vs[1]?=aa .none∨∃T oT ts,vs[1]?=aa (.ref T)/\T≠e/\s.heap.get? T=aa oT/\oT.data = .fields ts/\ts[3]?=aa .none)
  (h:∀h':au,(∀b o,b∉frs (env::outer)->b≠e->vs[1]?≠aa (.ref b)->s.heap.get? b=aa o->h'.get? b=aa o)->(∀b o,b≠e->vs[1]?≠aa (.ref b)->s.heap.get? b=aa o->∃sl,h'.get? b=aa { o with slots:=sl })->(∀T,vs[1]?=aa (.ref T)->TbO T h') →
   (∃vs',h'.get? e=aa { oe with data := .fields vs' }/\vs'[1]?=aa (.ref s.heap.objs.size))->(∃oT ts,h'.get? s.heap.objs.size=aa oT/\oT.data = .fields ts/\ts[3]?=aa .none)->Q () { s with heap:=h' }) :
  wpAny M A (bK (.ref e) env) (fun _ s'=>wpAny M A (bA (.ref e) none) Q E s') E s:=by
 unfold bK;rw[r];rcases C with H|⟨T,oT,ts,H,ne,k,f,w⟩
 ·have h1:1<vs.size:=by have:=(yb7.mp H).1;exact this
  refine aj (aJ j hd H ?_);refine zmN (head := .none) fr u r j hd h1 fun h' k1 k2 k3 K=>h h' (fun b o a c _ q=>k1 b o a c q) (fun b o a _ q=>k2 b o a q) (fun T z=>?_) k3 K;rw[H]at z;cases z
 ·have h1:1<vs.size:=by have:=(yb7.mp H).1;exact this
  have t:3<ts.size:=by have:=(yb7.mp w).1;exact this
  refine aj (aJ j hd H ?_);refine aj (aJ k f w ?_);refine aj (bU k f t ?_);have N:T∉frs (env::outer):=fun z=>by
   obtain⟨_,o,v,hn⟩:=u.mem z;rw[k]at v;cases v;exact hn _ f
  have p:=zcX (i:=3) (x := .none) k f;have m:(s.heap.update T (yaU fun z=>z.setIfInBounds 3 .none)).get? e=aa oe:=by rw[yal _ _ _ _ ne.symm];exact j
  have F:(s.heap.update T (yaU fun z=>z.setIfInBounds 3 .none)).FunFrames base (env::outer):=by
   clear h fr;have go:∀l:List aG,T∉frs l->s.heap.FunFrames base l->(s.heap.update T (yaU fun z=>z.setIfInBounds 3 .none)).FunFrames base l:=by
    intro l;induction l with
    |nil=>exact fun _ q=>by simp only[Heap.FunFrames]|cons x l I=>
     intro hn q;simp only[Heap.FunFrames]at q ⊢;obtain⟨B,⟨L,o,a,b,c,d⟩,y⟩:=q;have g : ¬ (L=T∨T∈frs l):=by
      intro z;refine hn ?_;unfold frs;rw[ybJ,a];rcases z with z|z
      ·rw[z];exact yan ..
      ·exact yK _ z
     exact⟨B,⟨L,o,a,b,by rw[yal _ _ _ _ fun z=>g (.inl z)];exact c,d⟩,I (fun z=>g (.inr z)) y⟩
   exact go _ N u
  have Z:(s.heap.update T (yaU fun z=>z.setIfInBounds 3 .none)).objs.size=s.heap.objs.size:=Heap.size_update ..;refine zmN (head := .ref T) fr F r m hd h1 fun h' k1 k2 k3 K=>h h' (fun b o a c n q=>k1 b o a c ?_) (fun b o a n q=>k2 b o a ?_) (fun D z=>?_) (by simpa only[Z] using k3) (by simpa only[Z] using K)
  ·rw[yal _ _ _ _ fun z=>n (by rw[H,z])];exact q
  ·rw[yal _ _ _ _ fun z=>n (by rw[H,z])];exact q
  ·rw[H]at z;cases z;have:=k1 T _ N ne p;exact⟨_,_,this,rfl⟩
end L2
namespace L2
open PySem PySem.Spec PyProof.Rows MD
structure Fly(C:af)(dd:Option ad)(e:ad)(H:Hp)(h:au):Prop where
 te:H e=aa (.ext (zsA C dd e))
 lies:∃o vs,h.get? e=aa o/\o.cls=C/\o.dict=dd/\o.data = .fields vs/\(vs[1]?=aa .none∨∃T oT ts,vs[1]?=aa (.ref T)/\T≠e/\H T=aa (.ext (TbO T))/\h.get? T=aa oT/\oT.data = .fields ts/\ts[3]?=aa .none)
variable{P:aq}{H:Hp}{h:au}{C:af}{dd:Option ad}
theorem zsc{w:al}{e:ad}(x:zsA C dd e h):ObjOk P w H h e (.ext (zsA C dd e)):=by
 refine⟨x,?_,fun h1 b a k=>?_⟩
 ·obtain⟨o,_,q,_⟩:=x;exact⟨o,q⟩
 ·obtain⟨o,vs,q,r⟩:=a;exact⟨o,vs,k o q,r⟩
theorem ztQ{w:al}{T:ad}(x:TbO T h):ObjOk P w H h T (.ext (TbO T)):=by
 refine⟨x,?_,fun h1 b a k=>?_⟩
 ·obtain⟨o,_,q,_⟩:=x;exact⟨o,q⟩
 ·obtain⟨o,vs,q,r⟩:=a;exact⟨o,vs,k o q,r⟩
variable{a:ad}
theorem ObjOk.has{w:al}{o:HO}(x:ObjOk P w H h a o):∃u,h.get? a=aa u:=by
 cases o with
 |lst xs=>obtain⟨_,_,_,_,e⟩:=x;exact⟨_,e⟩
 |tup xs=>obtain⟨_,_,_,_,u,e,_⟩:=x;exact⟨u,e⟩
 |dK kvs=>obtain⟨_,_,_,_,o,_,_,e,_⟩:=x;exact⟨_,e⟩
 |dT kvs=>obtain⟨_,_,_,_,o,_,_,e,_⟩:=x;exact⟨_,e⟩
 |set S n=>obtain⟨o,_,_,_,e,_⟩:=x;exact⟨_,e⟩
 |ins C dx fs=>obtain⟨_,_,_,e,_⟩:=x;exact⟨_,e⟩
 |own y=>exact x|xd fs=>obtain⟨_,⟨_,_,_,e,_⟩,_⟩:=x;exact⟨_,e⟩
 |rng lo hi=>obtain⟨_,_,_,e⟩:=x;exact⟨_,e⟩
 |frz ob u=>obtain⟨e,_⟩:=x;exact⟨_,e⟩
 |tbl ps=>exact⟨_,show h.get? a=aa _ from x⟩|met f y=>exact⟨_,show h.get? a=aa _ from x⟩|ext φ=>exact x.2.1
theorem HOk.none{w:al}(x:HOk P w H h)(e:h.get? a=Option.none):H a=Option.none:=by
 cases q:H a with
 |none=>rfl|some u=>
  obtain⟨o,z⟩:=(x a u q).has;rw[e]at z;cases z
variable{M:Model}{A:ax}{Q:Unit->ai->Prop}{E:af->ai->Prop}
section
variable{X:Cx}{pins:List (ad×ar)}{σ : St}{s:ai}{e:ad}
theorem zry{h':au}{args:List af}(I:Inv X pins σ H s)(hm:s.heap.MadeExcOf h' e C args):H e=none/\Inv X pins σ (upd H e (.ext (zsA C none e))) { s with heap:=h' }/\Fly C none e (upd H e (.ext (zsA C none e))) h':=by
 have hn:=I.hok.none hm.new;obtain⟨t,h,_⟩:=hm.there;have ne:∀b o,s.heap.get? b=aa o->b≠e:=fun b o q z=>by rw[z,hm.new]at q;cases q
 refine⟨hn,?_,zaw,_,_,h,rfl,rfl,rfl,.inl rfl⟩;refine I.un (t':=s.toks) (h':=h') ⟨fun b o q _ _ _=>hm.keeps b o q,fun b o q _ _ _=>⟨_,hm.keeps b o q⟩,fun b o q n _=>by rw[zao (ne b o q)];exact n,fun b o q _=>⟨_,hm.keeps b o q⟩,fun b xs q=>by rw[zao (zau q hn)];exact q,fun b o u q=>by rw[zao (zau q hn)];exact q,fun b ps q=>⟨#[],by rw[zao (zau q hn),q];simp⟩⟩ fun b u q=>?_;by_cases a:b=e
 ·subst a;rw[zaw]at q;cases q;exact zsc ⟨_,_,h,rfl,rfl,rfl⟩
 ·rw[zao a]at q;exact(I.hok b u q).stay (fun c v _ z=>hm.keeps c v z) (fun c z=>by rw[zao (zau z hn)];exact z) fun c xs z=>by rw[zao (zau z hn)];exact z
theorem zj4(I:Inv X pins σ H s)(m:X.stack=X.env::X.outer)(G:A.frames=X.A.frames)(F:Fly C dd e H s.heap)(h:∀s' H',s'.os=s.os->Same H H'->Inv X pins σ H' s'->Fly C dd e H' s'.heap->Q () s'):wpAny M A (bK (.ref e) X.env) (fun _ s'=>wpAny M A (bA (.ref e) none) Q E s') E s:=by
 obtain⟨te,o,vs,x,i,p,hd,hl⟩:=F;have D:X.env.frame=aa X.env.locals:=by
  rcases I.ok.stk with z|⟨_,z⟩
  ·rw[m]at z;have:=congrArg yaG z;simp at this
  ·exact z
 have fr:A.frames=aa (X.env::X.outer):=by rw[G,<- m];exact I.ok.frames
 have L:s.heap.FunFrames X.base (X.env::X.outer):=m ▸ I.stack;refine znD fr L D x hd (hl.imp id fun⟨T,oT,ts,a,b,c,d,f,g⟩=>⟨T,oT,ts,a,b,d,f,g⟩) fun h' k1 k2 k3 K k5=>?_;have hn:H s.heap.objs.size=none:=I.hok.fresh (yc _);have trk:∀b,vs[1]?=aa (.ref b)->H b=aa (.ext (TbO b)):=fun b z=>by
  rcases hl with q|⟨T,oT,ts,a,_,c,_⟩
  ·rw[q]at z;cases z
  ·rw[a]at z;cases z;exact c
 have N:∀b u,H b=aa u->b∉frs (X.env::X.outer):=fun b u q z=>by
  have:=I.stkFree b (m ▸ z);rw[q]at this;cases this
 obtain⟨V,k,t⟩:=K;obtain⟨oT,ts,B,r,J⟩:=k5;have w:zsA C dd e h':=⟨_,V,k,i,p,rfl⟩;have S:∀b o,s.heap.get? b=aa o->b≠s.heap.objs.size:=fun b o q=>ym (yi q);have un:Un (frs X.stack) [] H (upd H s.heap.objs.size (.ext (TbO s.heap.objs.size))) s.heap h':=by
  rw[m];refine⟨fun b u q n j _=>k1 b u j (fun z=>by rw[z,te]at n;cases n) (fun z=>by rw[trk b z]at n;cases n) q,fun b u q n j _=>k2 b u (fun z=>by rw[z,te]at n;cases n) (fun z=>by rw[trk b z]at n;cases n) q,fun b u q n _=>by rw[zao (S b u q)];exact n,fun b u q _=>?_,fun b xs q=>by rw[zao (zau q hn)];exact q,fun b o u q=>by rw[zao (zau q hn)];exact q,fun b ps q=>⟨#[],by rw[zao (zau q hn),q];simp⟩⟩;by_cases j:b=e
  ·rw[j];exact⟨_,k⟩
  ·by_cases l:vs[1]?=aa (.ref b)
   ·obtain⟨o,_,q,_⟩:=k3 b l;exact⟨o,q⟩
   ·obtain⟨sl,q⟩:=k2 b u j l q;exact⟨_,q⟩
 have hok:HOk X.prog X.w (upd H s.heap.objs.size (.ext (TbO s.heap.objs.size))) h':=fun b u q=>by
  by_cases j:b=s.heap.objs.size
  ·subst j;rw[zaw]at q;cases q;exact ztQ ⟨oT,ts,B,r⟩
  ·rw[zao j]at q;by_cases y:b=e
   ·subst y;rw[te]at q;cases q;exact zsc w
   ·by_cases l:vs[1]?=aa (.ref b)
    ·rw[trk b l]at q;cases q;exact ztQ (k3 b l)
    ·refine(I.hok b u q).stay (fun c v i z=>?_) (fun c z=>by rw[zao (zau z hn)];exact z) fun c xs z=>by rw[zao (zau z hn)];exact z
     rcases i with rfl|i
     ·exact k1 c v (N c u q) y l z
     ·exact k1 c v (N c _ i) (fun z=>by rw[z,te]at i;cases i) (fun z=>by rw[trk c z]at i;cases i) z
 refine h _ _ rfl (MD.Same.new hn) (I.call (g':=s.gens) (t':=s.toks) (d':=s.drawn) un hok I.bare fun b z=>absurd z (by simp)) ⟨?_,_,V,k,i,p,rfl,.inr ⟨_,oT,ts,t,?_,zaw,B,r,J⟩⟩
 ·rw[zao (zau te hn)];exact te
 ·exact(S e o x).symm
theorem zpJ(I:Inv X pins σ H s)(a:X.stack=X.env::X.outer)(b:A.frames=X.A.frames)(F:Fly C dd e H s.heap)(h:∀s' H',s'.os=s.os->Same H H'->Inv X pins σ H' s'->Fly C dd e H' s'.heap->Q () s'):wpAny M A (leaving X.env (.ref e)) Q E s:=by
 unfold leaving;exact aj (zj4 I a b F h)
def CXx(P:aq)(w:al):CXT:=fun outer H s E v s'=>∃e C dd H',v = .ref e/\s'.os=s.os/\aW s'.gens/\Un (frs outer) [] H H' s.heap s'.heap/\HOk P w H' s'.heap/\Fly C dd e H' s'.heap/\E C dd H'
end
end L2
namespace MD
open PySem PySem.Spec PyProof.Rows L2
def Res.pu{α : Type}(r:Res α):Res α := match r with
 |.exc _ _=>.bad|r=>r
def ePu(f:EV):EV:=fun ρ m=>(f ρ m).pu
def aPu(f:AV):AV:=fun ρ m=>(f ρ m).pu
def tPu(f:TV):TV:=fun ρ m=>(f ρ m).pu
def sPu(f:SV):SV:=fun ρ m=>(f ρ m).pu
variable{K:yb}{cl:ae->ad}{α : List ad}{H:Hp}
theorem PQ.pu{ex:XD}{a : Type}{r:Res a}{R:RD a}(h:PQ K cl ex r.pu α H R):PQ K cl X0 r α H R:=by
 cases r with
 |ok d m=>exact h|exc c m=>exact h.elim|bad=>exact h
def FlyC(K:yb)(cl:ae->ad)(c:Exc)(e:ad)(α : List ad)(H:Hp)(h:au):Prop:=∃dd xs,yaj K aE c.cls=aa (aa (.ref (cl c.cls)))/\Fly (.ref (cl c.cls)) dd e H h/\XdAt H dd xs/\RepL K α H c.args xs
def XP(X:Cx)(cl:ae->ad)(pins:List (ad×ar))(σ : L2.St)(W:XD)(v:af)(s':ai):Prop :=
 ∃e H' c α' m',v = .ref e/\Inv X pins σ H' s'/\FlyC X.K cl c e α' H' s'.heap/\Wd X.K cl α' m' H'/\∀α2 H2,Ext α' H' α2 H2->Wd X.K cl α2 m' H2->W c α2 m' H2
def XPs(X:Cx)(cl:ae->ad)(pins:List (ad×ar))(W:XD)(v:af)(s':ai):Prop:=∃σ,XP X cl pins σ W v s'
section
variable(X:Cx)(cl:ae->ad)
structure YE(e:ak)(f:EV):Prop where
 out:∀(pins:List (ad×ar))(s:ai)(σ : L2.St)(H:Hp)(Q:VK)(W:XD),Inv X pins σ H s->tD X.K cl W f σ H Q->wpAny (am X.prog X.w) X.A (eval e X.env) (EP X pins σ Q) (XP X cl pins σ W) s
structure YS(st:ao)(f:SV):Prop where
 out:∀(pins:List (ad×ar))(s:ai)(σ : L2.St)(H:Hp)(D:Ends)(W:XD),Inv X pins σ H s->tDS X.K cl W f D σ H->wpAny (am X.prog X.w) X.A (exec st X.env) (SP X pins D) (XPs X cl pins W) s
structure YSs(st:List ao)(f:SV):Prop where
 out:∀(pins:List (ad×ar))(s:ai)(σ : L2.St)(H:Hp)(D:Ends)(W:XD),Inv X pins σ H s->tDS X.K cl W f D σ H->wpAny (am X.prog X.w) X.A (execs st X.env) (SP X pins D) (XPs X cl pins W) s
end
variable{X:Cx}{es:List ak}{pos p:aw}{st:ao}{W:XD}{σ : L2.St}{pins:List (ad×ar)}{s:ai}{x:ae}
section
variable{e:ak}{f g:EV}{ta:TV}{fr:AV}{sts sts':List ao}{fs gs:SV}
theorem tDT.pu{Q:Bool->Hp->Prop}(h:tDT X.K cl W (tPu ta) σ H Q):tDT X.K cl X0 ta σ H Q:=ex3 h fun α ρ m W hr h=>⟨α,ρ,m,W,hr,PQ.pu h⟩
theorem tDS.pu{D:Ends}(h:tDS X.K cl W (sPu fs) D σ H):tDS X.K cl X0 fs D σ H:=ex3 h fun α ρ m W hr h=>⟨α,ρ,m,W,hr,PQ.pu h⟩
theorem zdX(a:X.xe=fun _ _=>False)(h:QS X cl X0 st fs):YS X cl st (sPu fs) :=
 ⟨fun pins s σ H D W I q=>aA (h.out pins s σ H D I q.pu) (fun _ _ z=>z) fun _ _ z=>by rw[a]at z;exact z.elim⟩
theorem zik:YSs X cl [] za0:=⟨fun pins s σ H D W I a=>ex3 a fun α ρ m W hr h=>bC ⟨σ,H,I,PQ.ok W h σ hr⟩⟩
theorem zee(h1:YS X cl st fs):YSs X cl [st] fs:=⟨fun pins s σ H D W I h=>by
 refine bY (thn (h1.out pins s σ H D W I h) fun f s1 q=>?_);cases f with
 |next=>exact bC q|ret v=>exact q|brk=>exact q|cont=>exact q⟩
theorem zaR(h1:YS X cl st fs)(k:YSs X cl sts gs):YSs X cl (st::sts) (zan fs gs):=⟨fun pins s σ H D W I j=>by
 refine bY (thn (h1.out pins s σ H { D with nx:=fun b i=>tDS X.K cl W gs D b i } W I ?_) fun f s1 q=>?_)
 ·exact ex3 j fun α ρ m g hr h=>⟨α,ρ,m,g,hr,PQ.mono (Ext.refl g) h.bind fun F e m1 i E w q=>by
   cases F with
   |nx a=>exact fun b hr1=>⟨e,a,m1,w,hr1,q⟩|rt d=>exact PQ.ok w q|bk a=>exact PQ.ok w q|ct a=>exact PQ.ok w q⟩
 ·cases f with
  |next=>
   obtain⟨c,H',l,q⟩:=q;exact k.out pins s1 c H' D W l q
  |ret v=>exact q|brk=>exact q|cont=>exact q⟩
structure YB(X:Cx)(cl:ae->ad)(st:ao)(f:SV):Prop where
 out:∀(pins:List (ad×ar))(s:ai)(σ : L2.St)(H:Hp)(D:Ends)(W:XD),Inv X pins σ H s->tDS X.K cl W f D σ H->wpAny (am X.prog X.w) X.A (exec st X.env) (SP X pins D) (XP X cl pins σ W) s
theorem XP.up{v:af}(h:XP X cl pins σ W v s):XPs X cl pins W v s:=⟨σ,h⟩
theorem zqD(f:X.xe=fun _ _=>False){c:ak}(j:QT X cl X0 c ta)(ha:YSs X cl sts fs)(k:YSs X cl sts' gs):YS X cl (.If c sts sts' pos) (sIf (tPu ta) fs gs):=⟨fun pins s σ H D W I g=>by
 refine wpAny_If (aA (j.out pins s σ H (fun b a=>tDS X.K cl W (if b=ac then fs else gs) D σ a) I ?_) (fun d s1 ⟨a,i,q⟩=>?_) fun _ _ z=>by rw[f]at z;exact z.elim)
 ·refine tDT.pu (W:=W) (ex3 g fun α ρ m l hr h=>tDT.use l hr h fun e m1 a d E w hr1 h1=>⟨e,ρ,m1,w,hr1,?_⟩);cases d <;> exact h1
 ·cases d with
  |true=>exact ha.out pins s1 σ a D W i q|false=>exact k.out pins s1 σ a D W i q⟩
theorem zsD(g:YE X cl e f)(hs:autoParam (aU e none pos.line X.env=pure ag) AutoP.a3._auto_1):YB X cl (.Expr e pos) (zbU f):=⟨fun pins s σ H D W I c=>by
 refine wpAny_Expr_any (aA (g.out pins s σ H (fun _ a=>D.nx σ a) W I (ex3 c fun α ρ m W hr h=>tD.use W hr h fun b m1 a d v E w hr1 r h1=>PQ.ok w h1 _ hr1)) (fun v s1 ⟨x,a,i,R,q⟩=>⟨σ,a,i,q⟩) fun _ _ z=>z) I.quiet hs⟩
theorem yb_set{i:Nat}{p:aw}(l:X.N.Nodup)(hi:X.N[i]?=aa x)(c:Loc X.env.scope x)(k:YE X cl e f)(hs:autoParam (aU e (aa (.Name x p)) pos.line X.env=pure ag) AutoP.a3._auto_1)(j:autoParam (X.fn x=ac∨X.env.scope.names.lookup x=aa .local) AutoP.a0._auto_1) :
  YB X cl (.Assign [.Name x p] e pos) (zaA f (gN i)):=⟨fun pins s σ H D W I g=>by
 refine wpAny_Assign_Name (aA (k.out pins s σ H (fun v a=>D.nx (σ.set i (aa v)) a) W I (ex3 g fun α ρ m W hr h=>tD.use W hr h fun b m1 a d v E w hr1 r h1=>PQ.ok w h1 _ (hr1.set r))) (fun v s1 ⟨y,a,o,R,q⟩=>?_) fun _ _ z=>z) hs;exact zcB o l hi c R (fun s2 n=>⟨_,a,n,q⟩) j⟩
end
theorem YB.ys{f:SV}(h:YB X cl st f):YS X cl st f:=⟨fun pins s σ H D W I q=>aA (h.out pins s σ H D W I q) (fun _ _ z=>z) fun _ _ z=>z.up⟩
def exE(K:yb)(cl:ae->ad)(E:XK):XD:=fun c α' _ H'=>∀dd xs,yaj K aE c.cls=aa (aa (.ref (cl c.cls)))->XdAt H' dd xs->RepL K α' H' c.args xs->E (.ref (cl c.cls)) dd H'
def spX(K:yb)(cl:ae->ad)(n:Nat)(g:List D->Sto->Res D):Sp:=fun vs H Q E=>vs.length=n/\∃α m ds,Wd K cl α m H/\RepL K α H ds vs/\PQ K cl (exE K cl E) (g ds m) α H fun d α' _ H'=>∀v,Rep K α' H' d v->Q v H'
variable{n:Nat}{N:List ae}{body:SV}{vs:List V}{Q:VK}
theorem fn_x{E:XK}(h:spX K cl n (za2 N.length body) vs H Q E):tDS K cl (exE K cl E) body { nx:=fun _ H'=>Q .non H',rt:=Q } (L2.start N vs) H:=by
 obtain⟨_,α,m,ds,W,r,q⟩:=h;refine⟨α,_,m,W,zhV r,PQ.mono (Ext.refl W) q.bind fun f b m1 c e w a=>?_⟩;cases f with
 |nx ρ=>exact fun σ _=>PQ.ok w a _ (by rw[Rep])|rt d=>exact PQ.ok w a|bk ρ=>exact a.elim|ct ρ=>exact a.elim
variable{P:aq}{mg:ae->Option af}{base:au}{qual:ae}{f:ad}{fd:aF}{ps:List ae}
theorem zsn{w:al}{k:Nat}(F:Fun K x qual st f fd)(S:FnScope N ps (zah st))(hn:n=ps.length)(h:∀(cdv:af)(A:ax)(outer:List yP)(s:ai)(H:Hp)(E:XK),Room k (A.deeper (aH qual (zah st) s.heap.objs.size f cdv))->YSs (zkW (CXx P w) P w K mg base N qual (zah st) f cdv A outer s H E).nox cl (zbj st) body):FnOk P w K mg base (CXx P w) (k+1) f fd ps (spX K cl n (za2 N.length body)):=by
 obtain⟨oc,od,kV,doc,pm,an,cdv,ct,osl,rfl,L,j⟩:=F.ex;refine fn_of L j S (fun vs H Q E h=>by rw[<- hn];exact h.1) fun A outer s H vs Q E hr b=>?_;refine⟨fun D σ l=>tDS K cl (exE K cl E) body D σ l,fun pins s1 σ l D I t=>?_,fn_x b⟩;refine aA ((h cdv A outer s H E hr).out pins s1 σ l D (exE K cl E) (I.wish _) t) (fun _ _ q=>q.unwish) fun v s2 u=>?_;obtain⟨r,e,H',c,α',m',rfl,C,⟨dd,xs,g,F,a,d⟩,W,z⟩:=u;have B:=C.unwish;refine zpJ B rfl rfl F fun J p y o i G=>?_;have m:=Ext.of_same W o;exact⟨e,_,dd,p,rfl,i.os,i.bare,i.base,i.hok,G,z α' p m (W.same o) dd xs g ((m.kp W).xdAt a) (d.mono W m)⟩
structure FnE(P:aq)(w:al)(K:yb)(mg:ae->Option af)(base:au)(cl:ae->ad)(x:ae)(k n:Nat)(g:List D->Sto->Res D):Prop where
 ex:∃(f:ad)(fd:aF)(ps:List ae),mg x=aa (.ref f)/\yaw K (.ref f)=ac/\Binds K fd ps []/\FnOk P w K mg base (CXx P w) k f fd ps (spX K cl n g)
theorem FnE.mk'{w:al}{k:Nat}(F:Fun K x qual st f fd)(b:Binds K fd ps [])(m:mg x=aa (.ref f))(S:FnScope N ps (zah st))(hn:n=ps.length)(h:∀(cdv:af)(A:ax)(outer:List yP)(s:ai)(H:Hp)(E:XK),Room k (A.deeper (aH qual (zah st) s.heap.objs.size f cdv))->YSs (zkW (CXx P w) P w K mg base N qual (zah st) f cdv A outer s H E).nox cl (zbj st) body):FnE P w K mg base cl x (k+1) n (za2 N.length body) :=
 ⟨f,fd,ps,m,F.kp,b,zsn F S hn h⟩
section
variable{e:ak}{fr:AV}{k:Nat}{g:List D->Sto->Res D}
theorem zox{us:List af}{m:Sto}{ds:List D}(F:FnOk X.prog X.w X.K X.mg X.base (CXx X.prog X.w) k f fd ps (spX X.K cl n g))(hr:Room k X.A)(w:Binds X.K fd ps [])(I:Inv X pins σ H s)(r:Vals vs us)(hn:vs.length=n)(J:Wd X.K cl α m H)(rd:RepL X.K α H ds vs)(q:PQ X.K cl W (g ds m) α H fun d α' _ H'=>∀v,Rep X.K α' H' d v->Q v H'):wpAny (am X.prog X.w) X.A (call (.ref f) us) (EP X pins σ Q) (XP X cl pins σ W) s:=by
 let E:XK:=fun C dd l=>∃c a m2 xs,C = .ref (cl c.cls)/\yaj X.K aE c.cls=aa (aa (.ref (cl c.cls)))/\XdAt l dd xs/\RepL X.K a l c.args xs/\Wd X.K cl a m2 l/\∀i j,Ext a l i j->Wd X.K cl i m2 j->W c i m2 j;have hq:PQ X.K cl (exE X.K cl E) (g ds m) α H fun d α' _ H'=>∀v,Rep X.K α' H' d v->Q v H':=by
  cases o:g ds m with
  |ok d m1=>rw[o]at q;exact q|bad=>rw[o]at q;exact q|exc c m1=>
   rw[o]at q;exact fun a l L G dd xs h1 t p=>⟨c,a,m1,xs,rfl,h1,t,p,G,fun i j K B=>q i j (L.trans K) B⟩
 have h:spX X.K cl n g vs H Q E:=⟨hn,α,m,ds,J,rd,hq⟩;have hl:us.length=ps.length:=by rw[<- r.length];exact F.len _ _ _ _ h
 refine ce (bH (F.run X.A X.stack s H ⟨us,[]⟩ us vs Q E hr I.env0 (by have:=w s us I.kIn (by simpa using hl);simpa using this) r h) fun r s' hq=>?_);cases r with
 |error v=>
  obtain⟨e,C,dd,H',rfl,os,bare,un,hok,F,c,a,m2,xs,rfl,h1,t,p,y,x⟩:=hq;exact⟨e,H',c,a,m2,rfl,I.call' (ch:=[]) os un hok bare (fun b z=>absurd z (by simp)),⟨dd,xs,h1,F,t,p⟩,y,x⟩
 |ok A=>
  cases A with
  |ret u=>exact I.after hq|next=>exact False.elim hq|brk=>exact False.elim hq|cont=>exact False.elim hq
theorem ye_fn(u:X.xe=fun _ _=>False)(h:FnE X.prog X.w X.K X.mg X.base cl x k n g)(hn:n=(e::es).length)(hr:Room k X.A)(y:Gl X x)(ha:QA X cl X0 (e::es) fr)(b:∀ρ m ds m1,fr ρ m = .ok ds m1->ds.length=(e::es).length)(o:autoParam ((x==("__debug__" : ae))=ag) AutoP.a1._auto_1)(A:autoParam (ap (e::es) X.env=(ag,eval e X.env)::ap es X.env) AutoP.a3._auto_1)(l:autoParam ((az pos (ap es X.env)).any (·.1)=ag) AutoP.a3._auto_1) : YE X cl (.Call (.Name x p) (e::es) [] pos) (eFn g (aPu fr)):=by
 obtain⟨f,fd,ps,h1,D,C,B⟩:=h.ex;refine⟨fun pins s σ H Q W I w=>?_⟩;refine bO (zg5 I y h1 ?_ o);refine ybi (h₀ := X.base) I.ok.mod.kin D (aA (ha.out pos pins s σ H (fun vs j=>∃a m1 ds,Wd X.K cl a m1 j/\RepL X.K a j ds vs/\ds.length=n/\PQ X.K cl W (g ds m1) a j fun d α' _ H'=>∀v,Rep X.K α' H' d v->Q v H') I ?_) (fun us s1 ⟨vs,j,t,r,a,m1,ds,w1,rd,hl,q⟩=>⟨t.kIn,?_⟩) fun _ _ z=>by rw[u]at z;exact z.elim) A l
 ·refine ex3 w fun α ρ m F hr h=>?_;cases i:fr ρ m with
  |bad=>
   have h':PQ X.K cl W ((aPu fr ρ m).bind g) α H _:=h;unfold aPu at h';rw[i]at h';exact h'.elim
  |exc c m1=>
   have h':PQ X.K cl W ((aPu fr ρ m).bind g) α H _:=h;unfold aPu at h';rw[i]at h';exact h'.elim
  |ok ds m1=>
   have h':PQ X.K cl W ((aPu fr ρ m).bind g) α H _:=h;unfold aPu at h';rw[i]at h';refine tDA.at F hr i fun a j v G E hr1 R=>⟨a,m1,ds,E,R,by rw[b ρ m ds m1 i,hn],PQ.mono G h' fun _ _ _ _ _ _ z=>z⟩
 ·exact zox B hr C t r (by rw[<- rd.length];exact hl) w1 rd q
end
end MD
namespace L2
open PySem PySem.Spec PyProof.Rows MD
variable{M:Model}{A:ax}{s:ai}{E:af->ai->Prop}
theorem Looks.go{α : Type}{t:Sem α}{r:α}{Q:α -> ai->Prop}(h:PySem.W.Looks M s.heap t r)(q:Q r s):wpAny M A t Q E s:=h A Q E s (fun _ _ z=>z) q
structure ExA(K:yb)(C:ad):Prop where
 ga:yL K (.ref C) "__getattribute__" = aa (aa (.builtin "BaseException.__getattribute__"))
 no:yL K (.ref C) "__getattr__" = aa none
 sub:ya6 K (.ref C) (.type "BaseException")=aa ac
 obj:ybh K C (.type "object")=aa ac
 cls:∀od,ydN K C od "__class__" = aa (.bind (.builtin "getset_descriptor.__get__") (.builtin "object.__class__"))
abbrev Cx.marked(X:Cx)(e:ad):Cx:={ X with A:=X.A.mark (aa (.ref e)),calm:=ag }
section
variable{X:Cx}{pins:List (ad×ar)}{σ : St}{H:Hp}{C:af}{dd:Option ad}{e:ad}
theorem Inv.mark(I:Inv X pins σ H s)(e:ad):Inv (X.marked e) pins σ H s :=
 ⟨⟨I.ok.mod,I.ok.kind,I.ok.glob,I.ok.blt,I.ok.above,I.ok.inj,I.ok.has,I.ok.cab,(fun z=>nomatch z),I.ok.frames,I.ok.stk,I.ok.exf,I.ok.bs,I.ok.bsz,I.ok.noex,I.ok.exfs,I.ok.funs,I.ok.frf⟩,I.os,I.bare,I.base,I.loc,I.cell,I.free,I.freeC,I.pin,I.hok,I.len⟩
theorem Inv.unmark(I:Inv (X.marked e) pins σ H s)(h:X.calm=ac->X.A.handled=none):Inv X pins σ H s :=
 ⟨⟨I.ok.mod,I.ok.kind,I.ok.glob,I.ok.blt,I.ok.above,I.ok.inj,I.ok.has,I.ok.cab,h,I.ok.frames,I.ok.stk,I.ok.exf,I.ok.bs,I.ok.bsz,I.ok.noex,I.ok.exfs,I.ok.funs,I.ok.frf⟩,I.os,I.bare,I.base,I.loc,I.cell,I.free,I.freeC,I.pin,I.hok,I.len⟩
theorem znO{Q:Unit->ai->Prop}(I:Inv X pins σ H s)(F:Fly C dd e H s.heap)(h:∀s',s'.os=s.os->Inv X pins σ H s'->Q () s'):wpAny M A (bA (.ref e) none) Q E s:=by
 obtain⟨te,o,vs,i,m,j,hd,hl⟩:=F;unfold bA;rcases hl with d|⟨T,oT,ts,d,ne,t,f,a,k⟩
 ·exact aj (aJ i hd d (av (h s rfl I)))
 ·refine aj (aJ i hd d ?_);have g:3<ts.size:=(yb7.mp k).1;show wpAny M A (setField (.ref T) 3 .none) Q E s;refine bU f a g (h _ rfl ?_);have l:upd H T (.ext (TbO T))=H:=by
   funext b;by_cases c:b=T
   ·rw[c,zaw,t]
   ·rw[zao c]
  have:=I.write (x:=T) (e:=T) (o := .ext (TbO T)) (t':=s.toks) (h':=s.heap.update T (yaU fun z=>z.setIfInBounds 3 .none)) (by rw[t];trivial) (.inl rfl) (fun b u c q=>by rw[yal _ _ _ _ c];exact q) ⟨_,zcX f a⟩ (ztQ ⟨_,_,zcX f a,rfl⟩);rw[l]at this;exact this
end
theorem zlC{K:yb}{e C D:ad}{O:ar}{b:Bool}{Q:Bool->ai->Prop}(kin:K.In s.heap)(i:s.heap.get? e=aa O)(j:O.cls = .ref C)(h1:ya6 K (.ref D) (.type "BaseException")=aa ac)(l:yco K (.ref D)=aa (.type "type"))(g:(ybn K D).isSome=ac)(k:ya6 K (.ref C) (.ref D)=aa b)(q:Q b s):wpAny M A (excMatches (.ref e) (.ref D)) Q E s:=by
 have f:∃o a,s.heap.get? D=aa o/\o.data = .cls a:=by
  unfold ybn at g;split at g
  ·rename_i c d a sl hl;exact⟨_,a,kin _ _ hl,rfl⟩
  ·cases g
 obtain⟨m,a,f,H⟩:=f;unfold excMatches;refine aj ?_;unfold isInstance;refine aj (Looks.go (PySem.W.looks_typeIn (h:=s.heap) kin l) ?_);rw[show isSubtype (.type "type") (.type "tuple")=pure ag from rfl];refine av (aj (av ?_));show wpAny M A (forIn [yo D] PUnit.unit _ >>= _) Q E s;rw[ybt];refine aj (aj (aj ?_));unfold isExcClass isType loadHead;refine aj (aj (wpAny_loadPart f ?_));rw[H];refine av ?_;refine Looks.go (ydO (h:=s.heap) kin h1) ?_;refine av ?_;show wpAny M A (forIn ([]:List af) PUnit.unit _) _ E s;rw[ycL];refine av (aj (wpAny_typeOf_ref i ?_));rw[j,ybt];refine aj (aj (aj (Looks.go (ydO (h:=s.heap) kin k) ?_)));cases b with
 |true=>exact av (av (av q))|false=>
  refine av ?_;show wpAny M A (forIn ([]:List af) (none,()) _) _ E s;rw[ycL];exact av (av q)
end L2
namespace MD
open PySem PySem.Spec PyProof.Rows L2
structure TxE(K:yb)(cl:ae->ad)(es rs:List ae):Prop where
 ns:∀c∈es,yaj K aE c=aa (aa (.ref (cl c)))
 tab:zsr K es=ac
 rai:zss K rs=ac
 sub:∀c∈rs,c∈es
variable{cl:ae->ad}{es:List ae}{C:ad}
section
variable{K:yb}{rs:List ae}{c d:ae}
theorem TxE.row(T:TxE K cl es rs)(H:c∈es):askB K (cl c)=ac/\yaF K (.ref (cl c)) (.type "ValueError")=aa ac/\yaF K (.type "NoneType") (.ref (cl c))=aa ag/\∀d∈es,yaF K (.ref (cl c)) (.ref (cl d))=aa (isX c d)/\ya6 K (.ref (cl c)) (.ref (cl d))=aa (isX c d):=by
 have h:=yaA.mp T.tab c H;rw[T.ns c H]at h;simp only[yy,beq_iff_eq]at h;obtain⟨⟨⟨h1,e⟩,b⟩,a⟩:=h;refine⟨h1,e,b,fun d hd=>?_⟩;have h:=yaA.mp a d hd;rw[T.ns d hd]at h;simpa only[yy,beq_iff_eq] using h
theorem zr0(h:askB K C=ac):ExA K C:=by
 unfold askB at h;simp only[yy,beq_iff_eq]at h;obtain⟨⟨⟨⟨⟨⟨⟨⟨h1,g⟩,f⟩,e⟩,d⟩,c⟩,b⟩,a⟩,i⟩:=h;refine⟨h1,g,f,e,fun od=>?_⟩;obtain⟨j,H⟩:=ycs.mp d;unfold ydN;rw[H,yar,c,yar];simp only[b,yar,a]
theorem TxE.exa(T:TxE K cl es rs)(h:c∈es):ExA K (cl c):=zr0 (T.row h).1
theorem zqe{h:au}{b:List af}{a:String}(kin:K.In h)(x:ybo K C b a=ac):∃nm q N bs B hdct sn sub ab col dd k0 k1 k2 k3 k5,∃mN:ae->Option af, h.get? C=aa (excClassObj nm q C N bs B hdct sn sub ab col dd k0 k1 k2 k3 k5 a)/\h.Ns N mN/\mN "__init__" = none/\OwnTail h b B:=by
 unfold ybo at x;split at x
 ·rename_i dd g sl hl;split at x
  ·rename_i i B k0 k1 k2 k3 n k5 hm hs;simp only[yy,beq_iff_eq,Bool.not_eq_true']at x;obtain⟨⟨⟨⟨⟨f,d⟩,E⟩,c⟩,e5⟩,e⟩:=x;subst f d;have H:=kin _ _ hl;obtain⟨nm,bs,m,N,q,hd,sn,sub,ab,col,D⟩:=g;obtain⟨sl⟩:=sl;simp only at hm hs E e5 e;subst hm hs E;exact⟨nm,q,N,bs,B,hd,sn,sub,ab,col,dd,k0,k1,k2,k3,k5,h.nsMap N,H,Heap.Ns.of_isNs (PySem.W.isNs_of_in kin e5),PySem.W.nsMap_none_of_in kin e5 e,PySem.W.tail_of_in kin c⟩
  ·cases x
 ·cases x
theorem TxE.exc(T:TxE K cl es rs)(H:c∈rs):ybo K (cl c) bmV "ValueError.__new__" = ac:=by
 have h:=yaA.mp T.rai c H;rw[T.ns c (T.sub c H)]at h;exact h
end
def znb(c:ae)(fr:AV):SV:=fun ρ m=>(fr ρ m).bind fun _ m1=>.exc ⟨c,[]⟩ m1
variable{x:ae}
section
variable{X:Cx}{rs:List ae}{e:ak}{as:List ak}{fr:AV}{np cpos pos:aw}
theorem zgb(J:X.xe=fun _ _=>False)(M:X.calm=ac)(T:TxE X.K cl es rs)(hr:x∈rs)(L:Gl X x)(ha:QA X cl X0 (e::as) fr)(g:∀ρ m ds m1,fr ρ m = .ok ds m1->ds.length=(e::as).length)(hsz:autoParam ((e::as).length<=sizeLine) AutoP.a1._auto_1)(t:autoParam ((x==("__debug__" : ae))=ag) AutoP.a1._auto_1)
  (p:autoParam (ap (e::as) X.env=(ag,eval e X.env)::ap as X.env) AutoP.a3._auto_1) (n:autoParam ((az cpos (ap as X.env)).any (·.1)=ag) AutoP.a3._auto_1):YB X cl (.Raise (aa (.Call (.Name x np) (e::as) [] cpos)) none pos) (znb x (aPu fr)):=⟨fun pins s σ H D W I K=>by
 have hm:X.mg x=aa (.ref (cl x)):=yb8 I.mod.kin I.mod.glob (T.ns x (T.sub x hr));obtain⟨nm,q,N,bs,B,hdct,sn,sub,ab,col,dd,k0,k1,k2,k3,k5,mN,h1,Q,P,O⟩:=zqe I.mod.kin (T.exc hr);have u:B.contains (.type "BaseException")=ac:=by
  have:=(T.exa (T.sub x hr)).sub;have hl:∃o,X.K.lookup (cl x)=aa o/\o=(excClassObj nm q (cl x) N bs B hdct sn sub ab col dd k0 k1 k2 k3 k5 "ValueError.__new__"):=by
   have:=T.exc hr;unfold ybo at this;split at this
   ·rename_i z;have Z:=I.mod.kin _ _ z;rw[h1]at Z;exact⟨_,z,(yG Z).symm⟩
   ·cases this
  obtain⟨o,hl,rfl⟩:=hl;have U:ybn X.K (cl x)=aa { name:=nm,bases:=bs,mro:=yo (cl x)::B,ns:=N,qualname:=q,hasDict:=hdct,slotNames:=sn,subclasses:=sub,abstract:=ab,collection:=col }:=by
   unfold ybn;rw[hl]
  have E:ybh X.K (cl x) (.type "BaseException")=aa ac:=this;unfold ybh at E;rw[U,yar]at E;simpa using E
 refine wpAny_Raise_call_subT (nm:=nm) (q:=q) (C:=cl x) (N:=N) (bs:=bs) (hdct:=hdct) (sn:=sn) (sub:=sub) (ab:=ab) (col:=col) (dd:=dd) (k0:=k0) (k1:=k1) (k2:=k2) (k3:=k3) (k5:=k5) PySem.F.excBase_ValueError u (I.ok.hd M) (by rw[p];exact n) P (zg5 I L hm ?_ t);refine⟨rfl,?_⟩;rw[p];refine PySem.Calls.evalArgs_plain ?_;have j:=ha.out cpos pins s σ H (fun vs k=>∃b m1,Wd X.K cl b m1 k/\vs.length=(e::as).length/\PQ X.K cl W (.exc ⟨x,[]⟩ m1:Res Fl) b k fun F α' _ H'=>zdi X.K D F α' H') I (ex3 K fun α ρ m V hr h=>by
  have h':PQ X.K cl W ((aPu fr ρ m).bind fun _ m1=>(.exc ⟨x,[]⟩ m1:Res Fl)) α H fun F α' _ H'=>zdi X.K D F α' H':=h;unfold aPu at h';cases i:fr ρ m with
  |bad=>rw[i]at h';exact h'.elim|exc c m1=>rw[i]at h';exact h'.elim|ok ds m1=>
   rw[i]at h';exact tDA.at V hr i fun b k v E1 w hr1 R=>⟨b,m1,w,by rw[<- R.length,g ρ m ds m1 i],fun d A G y=>h' d A (E1.trans G) y⟩)
 rw[p]at j;refine aA j (fun us s1 ⟨vs,k,l,r,b,m1,w,hl,q⟩=>⟨rfl,by rw[<- r.length,hl];exact hsz,l.bk _ _ h1,Q.keeps l.bk,O.keeps l.bk,fun h' a f=>?_⟩) fun _ _ z=>by rw[J]at z;exact z.elim
 obtain⟨hn,Y,F2⟩:=zry l f;have S:Same k _:=Same.new (o := .ext (zsA (.ref (cl x)) none a)) hn;have Es:=Ext.of_same w S;exact⟨a,_,⟨x,[]⟩,b,m1,rfl,Y,⟨none,[],T.ns x (T.sub x hr),F2,.inl ⟨rfl,rfl⟩,by rw[RepL]⟩,w.same S,fun d A G y=>q d A (Es.trans G) y⟩⟩
end
variable{P:ae->Prop}
theorem zmW:∀c∈([]:List ae),P c:=fun _ h=>nomatch h
theorem zht{xs:List ae}(h:P x)(r:∀c∈xs,P c):∀c∈x::xs,P c:=fun c H=>by
 rcases yn.mp H with rfl|H
 ·exact h
 ·exact r c H
def puF(g:List D->Sto->Res D):List D->Sto->Res D:=fun ds m=>(g ds m).pu
end MD
namespace MxD
open PySem PySem.Spec PyProof.Rows
variable{p:aq}{A:ax}{d:af}{z:ai}
section
variable{w:al}{R:bG->ai->Prop}{it:ad}{fs ws:List ad}{n:Nat}{V:Nat->af->Prop}{T:Nat->au->Prop}
abbrev kwD(d:af):List (ae×af):=[(yH "default", d)]
def zsy(z:ai)(b:ad)(x:Array af)(c:Nat):Prop:=z.heap.get? b=aa { cls := .type "list", dict:=none,data := .seq x c,slots := #[] }
theorem zrt:(toString "max" ++ toString ".loop" : String) = "max.loop" := by decide
theorem zuc(W:Walks p w A.in1 it fs ws n V T)(bt:Nat->Nat->Bool)(B:CmpOf p w A.in1 .Gt V bt)(b:ad)(f:b∉fs) :
  ∀(k j:Nat)(z:ai)(x:af)(c:Nat),n-(j+1)=k->j+1<=n->T (j+1) z.heap->V (aQ bt j) x->zsy z b #[x,x] c →
  (∀v g t,V (aQ bt (n-1)) v->(∀a o,a∉ws->a≠b->z.heap.get? a=aa o->g.get? a=aa o)->R (.ok (.ret v)) { z with heap:=g,toks:=t }) →
  codeAny (am p w) A (.builtin "max.loop" ⟨[.ref it,.none,.ref b],kwD d⟩) R z
 |0,j,z,x,c,G,F,y,m,i,r=>by
  have u:b∉ws:=fun q=>f (W.sub _ q);have E:j+1=n:=by omega
  refine cw ycR ?_;rw[ycS yaV _];show wpAny _ A.in1 (b9 (.ref b) >>= _) _ _ z;refine aj (a9 i rfl ?_);show wpAny _ A.in1 (tryCatch (be (.ref it)) _ >>= _) _ _ z;refine aj (cb (W.done z _ _ (E ▸ y) fun g t kp=>?_));have h:=kp b _ u i;show wpAny _ A.in1 (updateSeq b (fun _=> #[]) >>= _) _ _ _;refine aj (cx h rfl (aj (bW (av ?_))));exact r x _ t (by rw[<- E];exact m) fun a o h1 l e=>(yay _ _ (Ne.symm l)).trans (kp a o h1 e)
 |k+1,j,z,x,c,G,F,y,m,i,r=>by
  have u:b∉ws:=fun q=>f (W.sub _ q);have hl:j+1<n:=by omega
  refine cw ycR ?_;rw[ycS yaV _];show wpAny _ A.in1 (b9 (.ref b) >>= _) _ _ z;refine aj (a9 i rfl ?_);show wpAny _ A.in1 (tryCatch (be (.ref it)) _ >>= _) _ _ z;refine aj (cb (W.item (j+1) z _ _ hl y fun v g t D H kp=>?_));have h:=kp b _ u i;show wpAny _ A.in1 (tryCatch (holding [v,v] (richCompare .Gt v x >>= _)) _ >>= _) _ _ _;refine aj (cb (aY (aj (B (j+1) (aQ bt j) v x _ _ _ D m ?_))));refine aj (aY (bo (aj (bW (av ?_)))));cases C:bt (j+1) (aQ bt j) with
  |true=>
   simp only[if_true];refine aj (cx h rfl (aj (bW ?_)));rw[zrt];refine av ⟨ci yaV _,zuc W bt B b f k (j+1) _ v _ (by omega) hl (W.frame _ _ _ H fun a ha o e=>(yay _ _ fun q:b=a=>f (by rw[q];exact ha)).trans e) (by simp only[aQ,C,if_true];exact D) (ybl _ h rfl) fun s g' t' h1 l=>?_⟩;exact r s g' t' h1 fun a o a1 a2 e=>l a o a1 a2 ((yay _ _ (Ne.symm a2)).trans (kp a o a1 e))
  |false=>
   simp only[ybA,if_false];refine aj (bW ?_);rw[zrt];refine av ⟨ci yaV _,zuc W bt B b f k (j+1) _ x c (by omega) hl H (by simp only[aQ,C,ybA,if_false];exact m) h fun s g' t' h1 l=>?_⟩;exact r s g' t' h1 fun a o a1 a2 e=>l a o a1 a2 (kp a o a1 e)
theorem beginD(W:Walks p w A.in1 it fs ws n V T)(bt:Nat->Nat->Bool)(s:CmpOf p w A.in1 .Gt V bt)(b:ad)(f:b∉fs){c:Nat}(i:T 0 z.heap)(j:zsy z b #[] c)
  (h1:0<n->∀v g t,V (aQ bt (n-1)) v->(∀a o,a∉ws->a≠b->z.heap.get? a=aa o->g.get? a=aa o)->R (.ok (.ret v)) { z with heap:=g,toks:=t })
  (h0:n=0->∀g t,(∀a o,a∉ws->z.heap.get? a=aa o->g.get? a=aa o)->R (.ok (.ret d)) { z with heap:=g,toks:=t }) :
  codeAny (am p w) A (.builtin "max.loop" ⟨[.ref it,.none,.ref b],kwD d⟩) R z:=by
 have m:b∉ws:=fun q=>f (W.sub _ q);refine cw ycR ?_;rw[ycS yaV _];show wpAny _ A.in1 (b9 (.ref b) >>= _) _ _ z;refine aj (a9 j rfl ?_);show wpAny _ A.in1 (tryCatch (be (.ref it)) _ >>= _) _ _ z;rcases Nat.eq_zero_or_pos n with E|hn
 ·refine aj (cb (W.done z _ _ (by rw[E];exact i) fun g t kp=>?_));exact aj (bq (av (h0 E g t kp)))
 ·refine aj (cb (W.item 0 z _ _ hn i fun v g t r H kp=>?_));have h:=kp b _ m j;show wpAny _ A.in1 (updateSeq b (fun _=> #[v,v]) >>= _) _ _ _;refine aj (cx h rfl ?_);rw[zrt];refine av ⟨ci yaV _,zuc W bt s b f _ 0 _ v _ rfl hn (W.frame _ _ _ H fun a ha o e=>(yay _ _ fun q:b=a=>f (by rw[q];exact ha)).trans e) r (ybl _ h rfl) fun k g' t' l Q=>?_⟩;exact h1 hn k g' t' l fun a o a1 a2 e=>Q a o a1 a2 ((yay _ _ (Ne.symm a2)).trans (kp a o a1 e))
end
theorem argsD(x d:af):argsOk "max" ⟨[x],kwD d⟩:=by unfold argsOk;kernel_rfl
section
variable{w:al}{X:af->ai->Prop}{l:ad}{xs:Array (Int×Tok)}
theorem maxD{Q:af->ai->Prop}(c:A.handled=none)(hl:z.heap.IsList l (bz xs))
  (h1:0<xs.size->∀v g t,(bz xs)[aQ (fun i j=>decide (numAt xs i>numAt xs j)) (xs.size-1)]?=aa v->(∀a o,z.heap.get? a=aa o->g.get? a=aa o)->Q v { z with heap:=g,toks:=t })
  (h0:xs.size=0->∀g t,(∀a o,z.heap.get? a=aa o->g.get? a=aa o)->Q d { z with heap:=g,toks:=t }) :
  wpAny (am p w) A (call (.builtin "max") [.ref l] (kwD d)) Q X z:=by
 have hs:(bz xs).size=xs.size:=by simp[bz]
 refine kmb_tree PySem.F.kind_max PySem.F.plain_max PySem.F.entry_max (argsD _ _) ?_;show wpAny _ A.in1 (ydP "max" ["key", "default"] 0 ⟨[],kwD d⟩ >>= _) _ _ z;refine aj (wpAny_of_eq (show ydP "max" ["key", "default"] 0 ⟨[],kwD d⟩=pure [none,aa d] from rfl) ?_);refine aj (av (aj (iter_intList hl fun z2 e st H h=>?_)));subst e;refine aj (aR ?_);have W:=ycF (prog:=p) (w:=w) (A:=A.in1) c _ l h (bz xs);have f:((z.heap.push { cls := .type "list_iterator", data := .fields #[.ref l,.int 0 0] }).objs.size)∉[z.heap.objs.size,l]:=fun q=>yO _ (H _ q);rw[zrt];refine av ⟨ci yaV _,beginD W _ (CmpOf.ints_gt (numAt xs) fun _ _=>intItems_at) _ f (W.frame _ _ _ st fun a _ o e=>yf _ e) (yr _ rfl) (fun hn v g t b kp=>?_) fun hn g t kp=>?_⟩
 ·refine h1 (by omega) v g t (by rw[<- hs];exact b) (old_kept fun a o ha e=>kp a o ha (ym (yi e)) (yf _ e))
 ·refine h0 (by omega) g t (old_kept fun a o ha e=>kp a o ha (yf _ e))
end
end MxD
namespace MD
open PySem PySem.Spec PyProof.Rows L2
variable{X:Cx}{p pos:aw}
section
variable{x:ae}{e:ak}{es:List ak}{kws:List aS}{t tk:TA}{id:String}{ks:List ae}{r:List V->List V->Hp->VK->Prop}
def zsB(X:Cx)(f:af)(ks:List ae)(r:List V->List V->Hp->VK->Prop):Prop :=
 ∀(pins:List (ad×ar))(s:ai)(σ : L2.St)(H:Hp)(vs:List V)(us:List af)(zs:List V)(ws:List af)(Q:VK),Inv X pins σ H s->Vals vs us->Vals zs ws->r vs zs H Q->wpAny (am X.prog X.w) X.A (call f us (ks.zip ws)) (EP X pins σ Q) X.xe s
def tCBK(r:List V->List V->Hp->VK->Prop)(t tk:TA):TE:=fun σ H Q=>t σ H fun vs H1=>tk σ H1 fun zs H2=>r vs zs H2 Q
theorem zoW(o:zsB X (.builtin id) ks r)(m:Gl X x)(hm:X.mg x=none)(l:ba x=aa (.builtin id))(ha:PA X (e::es) t)(f:PK X kws tk)(a:autoParam ((aL pos (aM kws X.env)).all (·.1.isSome)=ac) AutoP.a3._auto_1)(g:autoParam ((aL pos (aM kws X.env)).filterMap (·.1)=ks) AutoP.a3._auto_1)(hn:autoParam (x ≠ "__name__") AutoP.a1._auto_1)(i:autoParam ((x==("__debug__" : ae))=ag) AutoP.a1._auto_1)(n:autoParam (ap (e::es) X.env=(ag,eval e X.env)::ap es X.env) AutoP.a3._auto_1)(b:autoParam (((az pos (ap (e::es) X.env)).any (·.1)||(aL pos (aM kws X.env)).any (·.1.isNone))=ag) AutoP.a3._auto_1):PE X (.Call (.Name x p) (e::es) kws pos) (tCBK r t tk):=by
 intro pins s σ H Q I h;refine bO (zeR I m hm l ?_ hn i);obtain⟨d,c⟩:=ycT.mp b;refine callWith_builtin_kwB d c (evalArgs_kw2 a (thn (ha pos pins s σ H _ I h) fun us s1 ⟨vs,y,v,j,q⟩=>?_) n);refine thn (f pos pins s1 σ y _ v q) ?_;rintro ws s2 ⟨z,w,u,R,k⟩;rw[g];exact o pins s2 σ w vs us z ws Q u j R k
def rMaxD(K:yb):List V->List V->Hp->VK->Prop:=fun vs zs H Q=>∃(l:ad)(ns:List Int)(y:V),vs=[.ref l]/\zs=[y]/\SqL K H l (ns.map V.int)/\(ns≠[]->Q (.int (zn1 ns)) H)/\(ns=[]->Q y H)
theorem zqt(m:X.calm=ac):zsB X (.builtin "max") ["default"] (rMaxD X.K):=by
 intro pins s σ H vs us z ws Q I r R h;obtain⟨l,ns,y,rfl,rfl,hq,h1,h0⟩:=h;obtain⟨u,rfl,c⟩:=zch r;obtain⟨d,rfl,b⟩:=zch R;cases c;obtain⟨its,f,pl,n⟩:=I.list hq;have hl:=pl.isList;obtain⟨ys,e,hs,j⟩:=zoa f;rw[e]at hl;refine MxD.maxD (I.ok.hd m) hl (fun hn v g t k a=>?_) fun hn g t a=>?_
 ·obtain⟨t',rfl⟩:=intItems_at k;refine⟨_,H,I.kept a,?_,h1 fun q=>?_⟩
  ·have E:numAt ys=fun i=>ns.getD i 0:=funext j;refine⟨t',?_⟩;rw[E,hs];rfl
  ·have:ns.length=0:=by rw[q];rfl
   omega
 ·exact⟨y,H,I.kept a,b,h0 (ybW.mp (by rw[<- hs];exact hn))⟩
end
def zpy(x d:D)(m:Sto):Res D:=match (lOf x m).bind zed with
 |some ns=>if ns=[] then .ok d m else .ok (.int (zn1 ns)) m|none=>.bad
def zkA(f fd:EV):EV:=fun ρ m=>(f ρ m).bind fun x m1=>(fd ρ m1).bind fun d m2=>zpy x d m2
variable{cl:ae->ad}{ex:XD}
section
variable{e e2:ak}{fa fd:EV}{kp:aw}
theorem zlg(t:X.calm=ac)(o:Gl X "max")(hm:X.mg "max" = none)(s:QE X cl ex e fa)(hd:QE X cl ex e2 fd)(hs:autoParam (ap [e] X.env=(ag,eval e X.env)::ap [] X.env) AutoP.a3._auto_1)(b:autoParam ((aL pos (aM [⟨aa "default", e2,kp⟩] X.env)).all (·.1.isSome)=ac) AutoP.a3._auto_1)(f:autoParam ((aL pos (aM [⟨aa "default", e2,kp⟩] X.env)).filterMap (·.1)=[yH "default"]) AutoP.a3._auto_1)(c:autoParam (((az pos (ap [e] X.env)).any (·.1)||(aL pos (aM [⟨aa "default", e2,kp⟩] X.env)).any (·.1.isNone))=ag) AutoP.a3._auto_1) : QE X cl ex (.Call (.Name "max" p) [e] [⟨aa "default", e2,kp⟩] pos) (zkA fa fd) :=
 ⟨PE.weak (zoW (zqt t) o hm (by rfl) (zcu s.out zfL hs) (ztt hd.out pk_nil) b f (by decide) (by decide) hs c) fun σ H Q n=>ex3 n fun α ρ m W hr h=>
  tD.use W hr h fun j m1 y d v z g hr1 R l=>tD.use g hr1 l fun i m2 x D V u w hr2 r a=>by
   have R:=R.mono g u;unfold zpy at a;split at a
   ·rename_i ns e;obtain⟨xs,E,e2⟩:=yby.mp e;obtain⟨p,ys,rfl,h1,k⟩:=zi6 w E R;rw[zcZ e2 k]at h1;refine⟨p,ns,V,rfl,rfl,h1,fun q=>?_,fun q=>?_⟩
    ·rw[if_neg q]at a;exact PQ.ok w a _ zfJ
    ·rw[if_pos q]at a;exact PQ.ok w a _ r
   ·exact a.elim⟩
end
theorem znS:CallR X (.type "dict") (fun xs H Q=>∃(a:ad)(kvs:List (L2.Key×V)),xs=[.ref a]/\Rd H a (.dK kvs)/\∀p,H p=none->Q (.ref p) (upd H p (.dK kvs))):=by
 intro pins s σ H xs us Q I r h;obtain⟨a,kvs,rfl,hr,q⟩:=h;obtain⟨u,rfl,R⟩:=zch r;cases R;exact zrS I hr fun p s' hp i=>⟨.ref p,_,i,rfl,q p hp⟩
variable{K:yb}
section
def dctF(ds:List D)(m:Sto):Res D:=match ds with
 |[.ob k]=>match m[k]? with
  |some (.dct kvs)=>.ok (.ob m.length) (m++[.dct kvs])|_=>.bad
 |_=>.bad
theorem zpq{α : List ad}{m:Sto}{H:Hp}{p:ad}{ds:List (L2.Key×D)}{vs:List (L2.Key×V)}{R:RD D}(W:Wd K cl α m H)(hp:H p=none)(r:RepKV K α H ds vs)(h:PQ K cl ex (.ok (.ob m.length) (m++[.dct ds])) α H R):∃α' m',R (.ob m.length) α' m' (upd H p (.dK vs))/\Rep K α' (upd H p (.dK vs)) (.ob m.length) (.ref p):=by
 have E0:Ext α H (α ++ [p]) (upd H p (.dK vs)):=⟨⟨[p],rfl,fun b c=>by rw[yE.mp c];exact hp⟩,fun a o h _=>Same.new hp a o h,(Ext.of_same W (Same.new hp)).there,fun a o u h=>Same.new hp a _ h⟩;obtain⟨w,E⟩:=W.new (u := .dK vs) (o := .dct ds) hp ⟨vs,zaw,r.mono W E0⟩;refine⟨_,_,h _ _ E w,?_⟩;rw[Rep];refine⟨p,?_,rfl⟩;rw[<- W.len,yT (yc _)];simp
theorem fd_dct:FnD K cl ex (fun xs H Q=>∃(a:ad)(kvs:List (L2.Key×V)),xs=[.ref a]/\Rd H a (.dK kvs)/\∀p,H p=none->Q (.ref p) (upd H p (.dK kvs))) dctF:=fun α m H x d Q W b h=>by
 unfold dctF at h;split at h
 ·split at h
  ·obtain⟨v,rfl,R⟩:=b.one_of;rw[Rep]at R;obtain⟨a,ha,rfl⟩:=R;obtain⟨xs,h1,c⟩:=W.dct ha ‹_›;refine⟨a,xs,rfl,.inl h1,fun p hp=>?_⟩;obtain⟨_,_,q,r⟩:=zpq W hp c h;exact q _ r
  ·exact h.elim
 ·exact h.elim
end
def zul(d:D)(m:Sto):Bool:=match d with
 |.ob k=>match m[k]? with
  |some (.dct _)=>ac|_=>ag
 |_=>ag
section
end
end MD
namespace L2
open PySem PySem.Spec PyProof.Rows
variable{X:Cx}{e:ak}{te:TE}{pos:aw}
end L2
namespace MD
open PySem PySem.Spec PyProof.Rows L2
variable{X:Cx}{K:yb}{cl:ae->ad}{ex:XD}
section
end
section
end
def zc9:SV :=
 (zan (sPu (zaA (eFn za1 (zac (eSl (zad 1) zd1 (zb9 (eFn za8 (zac (zad 0) zaj)))) zaj)) (gN 2)))
 (zan (sIf (tPu (tV (eOp gtD (zad 2) (eFn zew (zac (eOp ixD (zad 0) (eC (.int 2))) zaj)))))
 (znb "NoLetter" (aPu (zac (eC (.str "a sort of no form")) zaj)))
 za0)
 (sPu (zaE (eIf (tV (eOp eqD (zad 2) (eC (.int 0)))) (eC .non) (eOp zdO (zad 2) (eC (.int 1))))))))
def zbW:List D->Sto->Res D:=za2 3 zc9
def zcU:SV :=
 (zan (sIf (tPu (zf2 (tV (eFn zb4 (zac (zad 1) zaj)))))
 (znb "NoLetter" (aPu (zac (eC (.str "no bits")) zaj)))
 za0)
 (zan (zaA (eFn zbW (aPu (zac (zad 0) (zac (zad 1) zaj)))) (gN 2))
 (zan (sIf (tPu (tV (eOp neD (eFn zew (zac (zad 1) zaj)) (eFn zbH (zac (zad 0) (zac (zad 2) zaj))))))
 (znb "NoLetter" (aPu (zac (eC (.str "not as many bits as its sort asks for")) zaj)))
 za0)
 (zan (sPu (zaA (eFn za8 (zac (zad 0) zaj)) (gN 3)))
 (zan (sPu (zaA (eOp zbb (zad 3) (eOp ixD (eFn zba (zac (zad 0) (zac (zad 2) zaj))) (eC (.int 1)))) (gN 4)))
 (zan (sPu (zaA (eOp zdO (eFn zew (zac (zad 1) zaj)) (eFn zbq (zac (zad 0) zaj))) (gN 5)))
 (zan (sPu (zaA (eFn za1 (zac (eSl (zad 1) (zb9 (zad 5)) zd1) zaj)) (gN 6)))
 (zan (sIf (tPu (tV (eOp geD (zad 6) (eOp ixD (eOp ixD (zad 0) (eC (.int 0))) (eC (.int 1))))))
 (znb "NoLetter" (aPu (zac (eC (.str "a check that no letter has")) zaj)))
 za0)
 (sPu (zaE (eFn zbg (zac (zad 2) (zac (eFn za1 (zac (eSl (zad 1) (zb9 (zad 3)) (zb9 (zad 4))) zaj)) (zac (eSl (zad 1) (zb9 (zad 4)) (zb9 (zad 5))) (zac (zad 6) zaj)))))))))))))))
def za7:List D->Sto->Res D:=za2 7 zcU
def yMth(c m:ae)(g:List D->Sto->Res D)(f:EV)(fr:AV):EV:=fun ρ mm=>(ePu f ρ mm).bind fun d m1=>if zfq c m d m1=ac then (aPu fr ρ m1).bind fun ds m2=>g (d::ds) m2 else .bad
structure FnEM(P:aq)(w:al)(K:yb)(mg:ae->Option af)(base:au)(cl:ae->ad)(c m:ae)(k n:Nat)(g:List D->Sto->Res D):Prop where
 ex:∃(f:ad)(fd:aF)(ps:List ae),Meth K (cl c) m f/\Binds K fd ps []/\FnOk P w K mg base (CXx P w) k f fd ps (spX K cl n g)
variable{P:aq}{mg:ae->Option af}{base:au}{c x qual:ae}{st:ao}{f:ad}{fd:aF}{N ps:List ae}{n:Nat}{body:SV}
theorem FnEM.mk'{w:al}{k:Nat}(F:Fun K x qual st f fd)(b:Binds K fd ps [])(m:Meth K (cl c) x f)(S:FnScope N ps (zah st))(hn:n=ps.length)(h:∀(cdv:af)(A:ax)(outer:List yP)(s:ai)(H:Hp)(E:XK),Room k (A.deeper (aH qual (zah st) s.heap.objs.size f cdv))->YSs (zkW (CXx P w) P w K mg base N qual (zah st) f cdv A outer s H E).nox cl (zbj st) body):FnEM P w K mg base cl c x (k+1) n (za2 N.length body) :=
 ⟨f,fd,ps,m,b,zsn F S hn h⟩
variable{o:ak}{es:List ak}{fa:EV}{p pos apos:aw}{m:ae}{g:List D->Sto->Res D}{pl:Sem Bool}
section
variable{e:ak}{fr:AV}{k:Nat}
theorem ye_mth(K:X.xe=fun _ _=>False)(h:FnEM X.prog X.w X.K X.mg X.base cl c m k n g)(Y:QE X cl X0 o fa)(hc:Cls X.K (cl c))(hn:n=(e::es).length+1)(hr:Room k X.A)(ha:QA X cl X0 (e::es) fr)(y:∀ρ m ds m1,fr ρ m = .ok ds m1->ds.length=(e::es).length)
  (D:autoParam (ap (e::es) X.env=(ag,eval e X.env)::ap es X.env) AutoP.a3._auto_1) (G:autoParam ((az pos (ap es X.env)).any (·.1)=ag) AutoP.a3._auto_1)
  (V:autoParam (eval (.Call (.Attribute o m apos) (e::es) [] pos) X.env=(do
   let O <- eval o X.env
   aX apos.atName
   let (f,first) <- holding [O] (getMethod O m pl)
   bQ pos f first (az pos (ap (e::es) X.env)) (aL pos (aM [] X.env)))) AutoP.a3._auto_1):YE X cl (.Call (.Attribute o m apos) (e::es) [] pos) (yMth c m g fa fr):=by
 obtain⟨f,fd,ps,h1,h2,h3⟩:=h.ex
 refine⟨fun pins s σ H Q W I Z=>?_⟩
 obtain⟨α,ρ,M,W0,hr0,hq⟩:=Z
 have l:PQ X.K cl W ((fa ρ M).pu.bind fun d m1=>if zfq c m d m1=ac then (aPu fr ρ m1).bind fun ds m2=>g (d::ds) m2 else .bad) α H fun d α' _ H'=>∀v,Rep X.K α' H' d v->Q v H':=hq
 cases B:fa ρ M with
 |bad=>rw[B]at l;exact l.elim
 |exc c m1=>rw[B]at l;exact l.elim
 |ok d m1=>
  rw[B]at l
  have F:PQ X.K cl W (if zfq c m d m1=ac then (aPu fr ρ m1).bind fun ds m2=>g (d::ds) m2 else .bad) α H fun d α' _ H'=>∀v,Rep X.K α' H' d v->Q v H':=l
  obtain⟨hi,E⟩:=PQ.if F
  refine ybQ (pl:=pl) (aA (Y.out pins s σ H (fun x t=>∃i,Ext α H i t/\Wd X.K cl i m1 t/\RepE X.K i t ρ σ /\ Rep X.K i t d x) I (tD.at W0 hr0 B fun i t v J A hr1 R=>⟨i,J,A,hr1,R⟩)) (fun u s1 ⟨x,t,N,T,i,J,A,hr1,R⟩=>?_) fun _ _ z=>by rw[K]at z;exact z.elim) V
  obtain⟨a,dx,fs,rfl,ea,el⟩:=zeV A hi R
  obtain rfl:u=yo a:=T
  refine zdT N ea hc h1 el ?_
  refine ybi (first:=[.ref a]) (h₀ := X.base) I.ok.mod.kin h1.kp (aA (ha.out pos pins s1 σ t (fun vs w=>∃b m2 ds,Wd X.K cl b m2 w/\RepL X.K b w ds vs/\Rep X.K b w d (.ref a)/\ds.length=(e::es).length/\PQ X.K cl W (g (d::ds) m2) b w fun d α' _ H'=>∀v,Rep X.K α' H' d v->Q v H') N ?_) (fun us s2 ⟨vs,w,L,r,b,m2,ds,S,rd,U,hl,q⟩=>⟨L.kIn,?_⟩) fun _ _ z=>by rw[K]at z;exact z.elim) D G
  ·have j:PQ X.K cl W ((fr ρ m1).pu.bind fun ds m2=>g (d::ds) m2) α H fun d α' _ H'=>∀v,Rep X.K α' H' d v->Q v H':=E
   cases p:fr ρ m1 with
   |bad=>rw[p]at j;exact j.elim
   |exc c m1=>rw[p]at j;exact j.elim
   |ok ds m2=>
    rw[p]at j
    exact tDA.at A hr1 p fun b w v P W2 hr2 C=>⟨b,m2,ds,W2,C,R.mono A P,y ρ m1 ds m2 p,PQ.mono (J.trans P) j fun _ _ _ _ _ _ z=>z⟩
  ·exact zox (us := .ref a::us) (vs := .ref a::vs) (ds:=d::ds) h3 hr h2 L (.cons rfl r) (by rw[yt,<- rd.length,hl,hn]) S (by rw[RepL];exact⟨_,_,rfl,U,rd⟩) q
end
theorem FnEM.pure{w:al}{k:Nat}(h:FnEM P w K mg base cl c m k n g):FnM P w K mg base cl c m k n (puF g):=by
 obtain⟨f,fd,ps,h1,o,b⟩:=h.ex;refine⟨f,fd,ps,h1,o,?_⟩;have imp:∀vs H Q E,spD K cl X0 n (puF g) vs H Q E->spX K cl n g vs H Q E0:=fun vs H Q E ⟨hl,α,m,ds,W,r,q⟩=>⟨hl,α,m,ds,W,r,by
  unfold puF at q;cases a:g ds m with
  |ok d m1=>rw[a]at q;exact q|bad=>rw[a]at q;exact q|exc c m1=>rw[a]at q;exact q.elim⟩
 refine⟨fun vs H Q E q=>b.len vs H Q E0 (imp vs H Q E q),fun A outer s H args us vs Q E hr j l i hs=>bH (b.run A outer s H args us vs Q E0 hr j l i (imp _ _ _ _ hs)) fun r s' hq=>?_⟩;cases r with
 |error v=>
  obtain⟨e,C,dd,H',_,_,_,_,_,_,z⟩:=hq;exact z.elim
 |ok F=>cases F <;> exact hq
section
variable{es rs:List ae}{h:ae}{c:ak}{a b bst b0:ao}{suite:List ao}{ta:TV}{fb fs gs:SV}{np hp:aw}
def zna(es:List ae)(h:ae)(F fs:SV):SV:=fun ρ m=>match F ρ m with
 |.ok f m1=>.ok f m1|.bad=>.bad|.exc c m1=>if (es.contains c.cls&&isX c.cls h)=ac then fs ρ m1 else .bad
end
abbrev ze8(k:Nat)(A:ax):Prop:=Room k { A with handled:=none }
variable{A:ax}
theorem roomH{k:Nat}(r:Room k A):ze8 k A:=⟨rfl,r.dp,r.un,r.gd⟩
theorem znc{k:Nat}{v:Option af}(r:ze8 k A):ze8 k (A.mark v):=⟨rfl,r.dp,r.un,r.gd⟩
theorem zjB{k:Nat}(r:ze8 (k+1) A)(env:yP):ze8 k (A.deeper env):=by
 have q:=Room.deeper r env;exact⟨rfl,q.dp,q.un,q.gd⟩
theorem zmg{j k:Nat}(r:ze8 k A)(h:j<=k):ze8 j A:=Room.mono r h
structure FnOkH(P:aq)(w:al)(K:yb)(mg:ae->Option af)(base:au)(k:Nat)(f:ad)(fd:aF)(ps:List ae)(sp:Sp):Prop where
 len:∀vs H Q E,sp vs H Q E->vs.length=ps.length
 run:∀(A:ax)(outer:List yP)(s:ai)(H:Hp)(args:Args)(us:List af)(vs:List V)(Q:VK)(E:XK),ze8 k A->Env0 P w K mg base A outer s H->bu s fd args (ps.zip us)->Vals vs us->sp vs H Q E →
  codeAny (am P w) A (.call (.ref f) args) (CR CX0 outer P w H s Q E) s
variable{sp:Sp}
theorem FnOkH.ok{w:al}{k:Nat}(F:FnOkH P w K mg base k f fd ps sp):FnOk P w K mg base CX0 k f fd ps sp :=
 ⟨F.len,fun A outer s H args us vs Q E hr=>F.run A outer s H args us vs Q E (roomH hr)⟩
abbrev cxH(P:aq)(w:al)(K:yb)(mg:ae->Option af)(base:au)(N:List ae)(qual:ae)(scope:aI)(f:ad)(c:af)(A:ax)(outer:List yP)(s:ai)(H:Hp)(E:XK):Cx :=
 { zkW CX0 P w K mg base N qual scope f c A outer s H E with calm:=ag }
variable{s:ai}{H:Hp}{us:List af}{vs:List V}
theorem znE{w:al}{scope:aI}{c:af}{outer:List yP}{s1:ai}{E:XK}(S:FnScope N ps scope)(e:Env0 P w K mg base A outer s H)(hl:vs.length=ps.length)(r:Vals vs us)(x:InCallC s s.heap.objs.size (bg (aH qual scope s.heap.objs.size f c).kindOf (ps.zip us) fun _=>none) (b7 (s.heap.objs.size+1) scope.names []) (bh (aH qual scope s.heap.objs.size f c).kindOf (ps.zip us) fun _=>none) s1) : Inv (cxH P w K mg base N qual scope f c A outer s H E) [] (L2.start N vs) H s1:=by
 have a:Env0 P w K mg base { A with handled:=none } outer s H:=⟨e.frames,e.mod,e.bs,e.bsz,e.funs,e.frf,e.hok,e.bare⟩;have I:=zkc (CX:=CX0) (E:=E) S rfl a hl r x;exact⟨⟨I.ok.mod,I.ok.kind,I.ok.glob,I.ok.blt,I.ok.above,I.ok.inj,I.ok.has,I.ok.cab,(fun z=>nomatch z),I.ok.frames,I.ok.stk,I.ok.exf,I.ok.bs,I.ok.bsz,I.ok.noex,I.ok.exfs,I.ok.funs,I.ok.frf⟩,I.os,I.bare,I.base,I.loc,I.cell,I.free,I.freeC,I.pin,I.hok,I.len⟩
theorem fn_ofH{w:al}{k:Nat}(F:Fun K x qual st f fd)(S:FnScope N ps (zah st))(len:∀vs H Q E,sp vs H Q E->vs.length=ps.length)(c:∀(cdv:af)(A:ax)(outer:List yP)(s:ai)(H:Hp)(vs:List V)(Q:VK)(E:XK),ze8 k (A.deeper (aH qual (zah st) s.heap.objs.size f cdv))->sp vs H Q E->∃t,PSs (cxH P w K mg base N qual (zah st) f cdv A outer s H E).nox (zbj st) t/\t { nx:=fun _ H'=>Q .non H',rt:=Q } (L2.start N vs) H):FnOkH P w K mg base (k+1) f fd ps sp:=by
 obtain⟨oc,od,kV,doc,pm,an,cdv,ct,osl,rfl,L,j⟩:=F.ex;refine⟨len,fun A outer s H args us vs Q E hr i C r d=>?_⟩;have hl:=len _ _ _ _ d;have m:K.In s.heap:=i.mod.kin.keeps fun b o e=>(i.bs b o e).1;have l:s.heap.NoLimit:=i.mod.nolimit.keeps fun b o e=>(i.bs b o e).1;have h:∀y∈ps.zip us,(zah st).names.lookup y.1=aa .local∨((zah st).names.lookup y.1=aa .cell/\((b7 (s.heap.objs.size+1) (zah st).names []).lookup y.1).isSome=ac):=fun⟨n,v⟩ p=>by
  rcases S.par n (ybR p).1 with q|q
  ·exact .inl q
  ·exact .inr ⟨q,ycr _ _ _ (.inl q)⟩
 refine codeAny_call_function (Room.depth (A:={ A with handled:=none }) hr) (m _ _ L) rfl S.co S.gen rfl (ydg m j) (C _ _ _ _ ?_);refine cy S.kind h fun env B s1 x=>?_;subst B;refine⟨l.keeps x.toInCall.keep,codeAny_func ?_⟩;obtain⟨t,z,hq⟩:=c cdv A outer s H vs Q E (zjB hr _) d;have I:Inv (cxH P w K mg base N qual (zah st) f cdv A outer s H E) [] (L2.start N vs) H s1:=znE S i hl r x;refine aA (z.nox [] s1 (L2.start N vs) H _ I hq) (fun D s' hs=>?_) fun e s' hs=>hs;have g:∀{a:L2.St}{H':Hp}{v:V}{u:af},Inv (cxH P w K mg base N qual (zah st) f cdv A outer s H E) [] a H' s'->RelV v u->Q v H'->CE outer P w H s Q u s' :=
  fun {a H' v u} J R q=>⟨v,H',J.os,J.bare,J.base,J.hok,R,q⟩
 cases D with
 |ret u=>
  obtain⟨v,a,H',J,R,q⟩:=hs;exact g J R q
 |next=>
  obtain⟨a,H',J,q⟩:=hs;exact g (v:=V.non) (u:=yab) J rfl q
 |brk=>
  obtain⟨_,_,_,q⟩:=hs;exact False.elim q
 |cont=>
  obtain⟨_,_,_,q⟩:=hs;exact False.elim q
structure FnHM(P:aq)(w:al)(K:yb)(mg:ae->Option af)(base:au)(cl:ae->ad)(c m:ae)(k n:Nat)(g:List D->Sto->Res D):Prop where
 ex:∃(f:ad)(fd:aF)(ps:List ae),Meth K (cl c) m f/\Binds K fd ps []/\FnOkH P w K mg base k f fd ps (spD K cl X0 n g)
section
variable{w:al}{k:Nat}
theorem fn_okH(F:Fun K x qual st f fd)(S:FnScope N ps (zah st))(hn:n=ps.length)(h:∀(cdv:af)(A:ax)(outer:List yP)(s:ai)(H:Hp)(E:XK),ze8 k (A.deeper (aH qual (zah st) s.heap.objs.size f cdv))->QSs (cxH P w K mg base N qual (zah st) f cdv A outer s H E).nox cl X0 (zbj st) body):FnOkH P w K mg base (k+1) f fd ps (spD K cl X0 n (za2 N.length body)) :=
 fn_ofH F S (fun vs H Q E h=>by rw[<- hn];exact h.1) fun cdv A outer s H vs Q E hr q=>⟨_,(h cdv A outer s H E hr).out,fn_d q⟩
theorem FnHM.mk'(F:Fun K x qual st f fd)(b:Binds K fd ps [])(m:Meth K (cl c) x f)(S:FnScope N ps (zah st))(hn:n=ps.length)(h:∀(cdv:af)(A:ax)(outer:List yP)(s:ai)(H:Hp)(E:XK),ze8 k (A.deeper (aH qual (zah st) s.heap.objs.size f cdv))->QSs (cxH P w K mg base N qual (zah st) f cdv A outer s H E).nox cl X0 (zbj st) body):FnHM P w K mg base cl c x (k+1) n (za2 N.length body) :=
 ⟨f,fd,ps,m,b,fn_okH F S hn h⟩
theorem FnHM.toM(h:FnHM P w K mg base cl c x k n g):FnM P w K mg base cl c x k n g:=by
 obtain⟨f,fd,ps,h1,a,H⟩:=h.ex;exact⟨f,fd,ps,h1,a,H.ok⟩
end
section
variable{e:ak}{fr:AV}{k:Nat}
theorem zs0{pins:List (ad×ar)}{σ : L2.St}{Q:VK}(F:FnOkH X.prog X.w X.K X.mg X.base k f fd ps sp)(hr:ze8 k X.A)(a:Binds X.K fd ps [])(I:Inv X pins σ H s)(r:Vals vs us)(h:sp vs H Q E0):wpAny (am X.prog X.w) X.A (call (.ref f) us) (EP X pins σ Q) X.xe s:=by
 have hl:us.length=ps.length:=by rw[<- r.length];exact F.len _ _ _ _ h
 refine ce (bH (F.run X.A X.stack s H ⟨us,[]⟩ us vs Q E0 hr I.env0 (by have:=a s us I.kIn (by simpa using hl);simpa using this) r h) fun r s' hq=>?_);cases r with
 |error e=>exact hq.elim|ok b=>
  cases b with
  |ret u=>exact I.after hq|next=>exact False.elim hq|brk=>exact False.elim hq|cont=>exact False.elim hq
theorem zmm(h:FnHM X.prog X.w X.K X.mg X.base cl c m k n g)(t:QE X cl X0 o fa)(z:Cls X.K (cl c))(hn:n=1)(hr:ze8 k X.A)
  (p:autoParam (eval (.Call (.Attribute o m apos) [] [] pos) X.env=(do
   let O <- eval o X.env
   aX apos.atName
   let (f,first) <- holding [O] (getMethod O m pl)
   bQ pos f first (az pos (ap [] X.env)) (aL pos (aM [] X.env)))) AutoP.a3._auto_1):QE X cl X0 (.Call (.Attribute o m apos) [] [] pos) (zcE c m g fa zaj):=by
 obtain⟨f,fd,ps,h1,A,F⟩:=h.ex
 refine⟨fun pins s σ H Q I y=>?_⟩
 refine ybQ (pl:=pl) (thn (t.out pins s σ H (fun x b=>∃a dx fs,x = .ref a/\b a=aa (.ins (cl c) dx fs)/\fs.lookup m=none/\spD X.K cl X0 n g [.ref a] b Q E0) I ?_) fun u s1 ⟨x,b,j,R,a,dx,fs,l,E,el,q⟩=>?_) p
 ·refine ex3 y fun α ρ M W hr h=>tD.use W hr h fun e m1 b d v B w hr1 r i=>?_
  obtain⟨hi,i⟩:=PQ.if i
  obtain⟨a,dx,fs,rfl,E,el⟩:=zeV w hi r
  refine⟨a,dx,fs,rfl,E,el,by rw[hn];rfl,e,m1,[d],w,?_,i⟩
  rw[RepL]
  exact⟨_,_,rfl,r,by rw[RepL]⟩
 ·subst l
  obtain rfl:u=yo a:=R
  refine zdT j E z h1 el ?_
  exact yde (first:=[.ref a]) j.kIn h1.kp (zs0 (us:=[.ref a]) F hr A j (.cons (show L2.RelV (.ref a) (.ref a) from rfl) .nil) q)
end
section
end
end MD
namespace L2
open PySem PySem.Spec PyProof.Rows
variable{X:Cx}{pins:List (ad×ar)}{σ : St}{H:Hp}{s:ai}{a:ad}{o:ar}{kvs:List (Key×V)}
section
theorem Inv.freeze(I:Inv X pins σ H s)(e:H a=aa (.dK kvs))(h:s.heap.get? a=aa o):Inv X pins σ (upd H a (.frz o (.dK kvs))) s :=
 I.write (x:=a) (e:=a) (t':=s.toks) (by rw[e];trivial) (.inl rfl) (fun b u _ q=>q) ⟨_,h⟩ ⟨h,I.hok a _ e⟩
def Warm(X:Cx)(a:ad):Prop:=∀o u,X.H₀ a≠aa (.frz o u)
theorem Inv.warm(I:Inv X pins σ H s)(e:H a=aa (.dK kvs)):Warm X a:=fun o u q=>by
 have:=I.base.frzs a o u q;rw[e]at this;cases this
theorem Inv.thaw(I:Inv X pins σ H s)(e:H a=aa (.frz o (.dK kvs)))(w:Warm X a):Inv X pins σ (upd H a (.dK kvs)) s:=by
 have N:∀b,H b=none->b≠a:=fun b n z=>by rw[z,e]at n;cases n
 have kp:∀b,H b=none->upd H a (.dK kvs) b=none:=fun b n=>by rw[zao (N b n)];exact n
 refine⟨I.ok,I.os,I.bare,⟨I.base.keep,I.base.slot,fun b u q n f=>kp b (I.base.free b u q n f),I.base.there,fun b xs q=>?_,fun b u v q=>?_,fun b ps q=>?_⟩,I.loc,I.cell,kp _ I.free,fun x c q=>kp _ (I.freeC x c q),fun p hp=>?_,fun b u q=>?_,I.len⟩
 ·have h:=I.base.tups b xs q;rw[zao fun z=>by rw[z,e]at h;cases h];exact h
 ·have h:=I.base.frzs b u v q;rw[zao fun z=>w u v (by rw[<- z];exact q)];exact h
 ·obtain⟨more,h⟩:=I.base.tbls b ps q;exact⟨more,by rw[zao fun z=>by rw[z,e]at h;cases h];exact h⟩
 ·obtain⟨h1,i,g⟩:=I.pin p hp;exact⟨h1,kp _ i,g⟩
 ·by_cases d:b=a
  ·subst d;rw[zaw]at q;cases q;exact(I.hok b _ e).2
  ·rw[zao d]at q;exact(I.hok b u q).stay (fun c v _ r=>r) (fun c r=>by rw[zao fun z=>by rw[z,e]at r;cases r];exact r) fun c xs r=>by rw[zao fun z=>by rw[z,e]at r;cases r];exact r
end
def Itk(a:ad)(o:ar)(kvs:List (Key×V)):It :=
 ⟨fun i H=>H a=aa (.frz o (.dK kvs))/\i<kvs.length,fun i H x H'=>H'=H/\∃k v,kvs[i]?=aa (k,v)/\x=kV k,fun i H=>H a=aa (.frz o (.dK kvs))/\kvs.length<=i⟩
variable{P:aq}
theorem zpO{w:al}{k:Key}{u:af}(h:(zaK P w).is k u=ac):RelV (kV k) u:=by
 rcases za4 (show zlG k u=ac from h) with⟨i,t,rfl,rfl⟩|⟨x,t,rfl,rfl⟩
 ·exact⟨t,rfl⟩
 ·exact⟨t,rfl⟩
theorem zsm{es:Array DictEntry}{ep:Nat}(I:Inv X pins σ H s)(e:H a=aa (.frz o (.dK kvs)))(hd:o.data = .dict es ep):∃vs,KV kvs vs/\s.heap.DictAt (zaK X.prog X.w) a vs ep:=by
 obtain⟨h1,_,_,vs,r,o',E,f,b,d,h,c⟩:=I.hok a _ e;rw[h1]at b;cases b;rw[hd]at h;cases h;exact⟨vs,r,o,es,h1,d,hd,c⟩
variable{tg:ak}
theorem zn8{w:al}{K:yb}(a it:ad)(o:ar)(kvs:List (Key×V))(es:Array DictEntry)(ep:Nat)(hd:o.data = .dict es ep):Turn P w K tg (Itk a o kvs) [it] it (fun i h=>h.IsKeyIter it a i kvs.length ep) where
 mem:=by simp
 obj:=fun i h st b f=>by
  have e:b=it:=by simpa using f
  subst e
  obtain⟨o,e,c,d⟩:=st
  exact⟨o,e,fun v z=>by rw[d]at z;cases z⟩
 keep:=fun i h h' st k=>st.at fun o e=>k it (by simp) o e
 item:=by
  intro X u m y B i pins s σ H E I g st p
  subst u m y
  obtain⟨t,hi⟩:=p
  obtain⟨vs,r,D⟩:=zsm I t hd
  have hl:=r.length
  obtain⟨f0,f1,f2,f3,f4,F⟩:=g it (by simp)
  obtain⟨⟨k,x⟩,A⟩:∃q,vs[i]?=aa q:=⟨vs[i]'(by omega),by simp[show i<vs.length by omega]⟩
  rw[hl]at st
  refine wpAny_pyNext_dict_item st D A fun j h' J S C=>?_
  have N:Inv X pins σ H { s with heap:=h' }:=I.turned (t':=s.toks) (fun b o f e=>(C.2 b f).trans e) f0 f1 f3 f4 F
  obtain⟨o',M,c',d'⟩:=id S
  have n:∃v,kvs[i]?=aa (k,v):=by
   have:=congrArg (fun l=>l[i]?) r.keys
   simp only[yz,A,yaC]at this
   obtain⟨q,hq,e⟩:=yak.mp this
   exact⟨q.2,by rw[hq,<- e]⟩
  obtain⟨v,G⟩:=n
  exact⟨j,rfl,zp1 (s:={ s with heap:=h' }) M c' d' (by decide) ⟨kV k,H,N,zpO J,⟨rfl,k,v,G,rfl⟩,by rw[hl];exact S,fun b f=>(g b f).1⟩⟩
 done:=by
  intro X u m y B i pins s σ H E I g st p
  subst u m y
  obtain⟨t,hi⟩:=p
  obtain⟨vs,r,D⟩:=zsm I t hd
  have hl:=r.length
  obtain⟨f0,f1,f2,f3,f4,F⟩:=g it (by simp)
  rw[hl]at st
  exact wpAny_pyNext_dict_end (I.ok.hd B) st D (by simp;omega) fun h' L=>⟨rfl,I.turned (t':=s.toks) (fun b o f e=>L b o f e) f0 f1 f3 f4 F⟩
 self:=fun _ _ _ _ _ st h=>wpAny_pyIter_keyiter st h
def iKeys(X:Cx)(t:TE):TI:=fun σ H R=>t σ H fun x H1=>∃a kvs,x = .ref a/\H1 a=aa (.dK kvs)/\∀o,Warm X a->R (Itk a o kvs) (upd H1 a (.frz o (.dK kvs)))
variable{tl:TE}
theorem zoR{l:ak}(hl:PE X l tl):PI X tg l (iKeys X tl):=by
 intro pins s σ H R I h;refine thn (hl pins s σ H _ I h) ?_;rintro v s1 ⟨x,m,c,f,Q⟩;obtain⟨a,kvs,rfl,e,q⟩:=Q;cases f;obtain⟨_,hs,vs,r,o,es,ep,h1,k,d,j⟩:=c.hok a _ e;have D:s1.heap.DictAt (zaK X.prog X.w) a vs ep:=⟨o,es,h1,k,d,j⟩;refine wpAny_pyIter_dict hs D ?_;have i:=c.freeze e h1;refine⟨s1.heap.objs.size,[s1.heap.objs.size],_,_,upd m a (.frz o (.dK kvs)),rfl,i.kept (t':=s1.toks) fun b o e=>yf _ e,zn8 a _ o kvs es ep d,⟨_,yr _ rfl,rfl,by rw[r.length];rfl⟩,fun b g=>?_,q o (c.warm e)⟩;have e:b=s1.heap.objs.size:=by simpa using g
 subst e;exact i.fpOk (yc _) (i.hok.fresh (yc _))
section
variable{N0:List ae}{elt iter:ak}{ifs:List ak}{scope:aI}{xs:List ae}{cl:List (ae×ad)}{pos:aw}{g:TG}{tf:TT}{te:TE}
def zsz(n:Nat)(g:TG)(tf:TT)(te:TE)(J:It)(f:List V->Hp->Prop)(σ : St)(H:Hp):Prop :=
 ∃W:Nat->Nat->List V->Hp->Prop,(∃m,W 0 m [] H)/\∀i m ys H,W i m ys H->ys.length<=sizeLine/\((J.stop i H/\f ys H)∨(J.go i H/\∃(Y:V->Hp->Prop)(Z:Hp->Prop),(∀y H4,Y y H4->ys.length<sizeLine/\∃m',m'<m/\W (i+1) m' (ys++[y]) H4) ∧
  (∀h,Z h->∃m',m'<m/\W (i+1) m' ys h)/\∀x H',J.yld i H x H'->g x (σ ++ yd n none) H' fun a H2=>tf a H2 fun b h=>if b=ac then te a h Y else Z h))
def zoe(X:Cx)(n:Nat)(t:TE)(g:TG)(tf:TT)(te:TE):TE:=fun σ H Q=>iKeys X t σ H fun J H2=>∃a o kvs,J=Itk a o kvs/\Warm X a ∧
 zsz n g tf te (Itk a o kvs) (fun ys H'=>H' a=aa (.frz o (.dK kvs))/\∀p,H' p=none->Q (.ref p) (upd (upd H' p (.lst ys)) a (.dK kvs))) σ H2
theorem zrh(m:X.calm=ac)(d:X.xe=fun _ _=>False)(S:CompOk X N0 scope xs cl)(hl:PE X iter tl)(f:∀C s H fp,PG (X.comp N0 scope xs cl C s H fp) tg g)(j:∀C s H fp,PIf (X.comp N0 scope xs cl C s H fp) ifs tf)(l:∀C s H fp,PE (X.comp N0 scope xs cl C s H fp) elt te)(hs:autoParam (∀x,bc iter X.env x=pure x) AutoP.a2._auto_1) : PE X (.ListComp elt [⟨tg,iter,ifs,0⟩] scope pos) (zoe X xs.length tl g tf te):=by
 intro pins s σ H Q I h;rw[eval_ListComp];refine cf (use:=none) rfl hs S.clos S.kind (fun y c hl=>(S.lo c hl).1) ?_;refine thn (zoR (tg:=tg) hl pins s σ H _ I h) fun t s1 h1=>thn h1 fun i s2 p=>?_;obtain⟨it,fp,tn,J,u,rfl,q,T,b,f2,a,o,kvs,rfl,w,W,⟨m0,w0⟩,turn⟩:=p;refine zfA (RR:=fun A C=>compPost (am X.prog X.w) X.A X.xe none (EP X pins σ Q) A C) m d S f j l q T b f2 w0 turn ?_;intro D C s' ys H' m' r n hn F ⟨e,fin⟩;have ne:a≠D:=fun z=>by rw[z,n]at e;cases e
 exact⟨m',hn,fun h' k=>⟨.ref D,_,(ze6 r F k).thaw (by rw[zao ne];exact e) w,rfl,fin D n⟩⟩
end
end L2
namespace MD
open PySem PySem.Spec PyProof.Rows L2
variable{K:yb}{cl:ae->ad}{ex:XD}{gt:GV}{ta:TV}{fa:EV}{α : List ad}{H:Hp}{a:ad}{o:ar}{kvs:List (L2.Key×D)}
section
theorem zjo{n k:Nat}{o:MO}{ds:List D}{F:List V->Hp->Prop}{σ : L2.St}{c:List ad}{ρ : En}{m1:Sto}{f:Hp}{J:It}{R:RD (List D)}(G:Wd K cl c m1 f)(hr1:RepE K c f ρ σ)(T:ItO K cl c f J k o ds)(hk:ds.length<=1000000)(q:PQ K cl ex (zfB k o gt ta fa (ρ ++ yd n none) ds m1) c f R)(hR:∀ds α' m' H' vs,Ext c f α' H'->Wd K cl α' m' H'->m'[k]?=aa o->R ds α' m' H'->RepL K α' H' ds vs->F vs H'):zsz n (tDG K cl ex gt) (tDT K cl ex ta) (tD K cl ex fa) J F σ f:=by
 refine zqp (k:=ds.length) (fun i ys H=>∃a m2 done,Ext c f a H/\Wd K cl a m2 H/\RepL K a H done ys/\done.length<=i/\PQ K cl ex ((zfB k o gt ta fa (ρ ++ yd n none) (ds.drop i) m2).bind fun xs m=>.ok (done++xs) m) a H R) hk ?_ ?_ ?_ ?_
 ·refine⟨c,m1,[],Ext.refl G,G,by rw[RepL],yc _,?_⟩;simp only[ybx,yb3,Res.bind_ok'];exact q
 ·rintro i ys H ⟨_,_,done,_,_,r,l,_⟩;rw[<- r.length];exact l
 ·rintro i ys H hi ⟨a,m2,done,t,W,u,l2,Q⟩;have hd:ds[i]?=aa ds[i]:=by simp[hi]
  rw[ybv hi,zfB]at Q;have e:m2[k]?=aa o/\PQ K cl ex (((gt ds[i] (ρ ++ yd n none) m2).bind fun j m1=>(ta j m1).bind fun b m2=>if b=ac then (fa j m2).bind fun x M=>(zfB k o gt ta fa (ρ ++ yd n none) (ds.drop (i+1)) M).bind fun xs m=>.ok (x::xs) m else zfB k o gt ta fa (ρ ++ yd n none) (ds.drop (i+1)) m2).bind fun xs m=>.ok (done++xs) m) a H R:=by
   unfold grd at Q;split at Q
   ·exact⟨‹_›,Q⟩
   ·exact Q.elim
  obtain⟨h,Q⟩:=e;obtain⟨g1,g2⟩:=(T i a m2 H t W h).1 _ hd;refine⟨g1,fun x H3 y=>?_⟩;obtain⟨S,Z⟩:=g2 x H3 y;have w:=Ext.of_same W S;have C:=W.same S;rw[Res.bind_assoc]at Q;have g:=t.trans w;refine⟨a,ρ ++ yd n none,m2,ds[i],C,(hr1.mono G g).more n,Z,PQ.mono w Q.bind fun z Y m H4 E4 W4 N X hr4=>?_⟩;rw[Res.bind_assoc]at N;refine tDT.use W4 hr4 N fun p P H5 b E5 B hr5 L=>?_;have E:=E4.trans E5;cases b with
  |false=>exact⟨p,P,done,g.trans E,B,(u.mono W w).mono C E,yb4 l2,L⟩|true=>
   have s:PQ K cl ex (((fa z P).bind fun x M=>(zfB k o gt ta fa (ρ ++ yd n none) (ds.drop (i+1)) M).bind fun xs m=>.ok (x::xs) m).bind fun xs m=>.ok (done++xs) m) p H5 R:=L;rw[Res.bind_assoc]at s;refine tD.use B hr5 s fun A m6 H6 d v U W6 hr6 rv I=>?_;rw[Res.bind_assoc]at I;refine⟨A,m6,done++[d],g.trans (E.trans U),W6,RepL.append (((u.mono W w).mono C E).mono B U) (RepL.one rv),by rw[yj];show done.length+1<=i+1;omega,?_⟩;simp only[yX,ydE];exact I
 ·rintro ys H ⟨a,m2,done,t,W,u,l2,Q⟩;rw[ya9 (yc _),zfB]at Q;have e:m2[k]?=aa o/\PQ K cl ex (.ok (done++[]) m2) a H R:=by
   unfold grd at Q;split at Q
   ·exact⟨‹_›,Q⟩
   ·exact Q.elim
  obtain⟨h,O⟩:=e;refine⟨(T ds.length a m2 H t W h).2 rfl,?_⟩;rw[y6]at O;exact hR _ _ _ _ _ t W h (PQ.ok W O) u
def kD:L2.Key->D
 |.inl i=>.int i|.inr z=>.str z
theorem rep_k(k:L2.Key):Rep K α H (kD k) (kV k):=by
 cases k with
 |inl i=>rw[kD,Rep];rfl|inr z=>rw[kD,Rep];rfl
theorem RepKV.keysEq{α : List ad}{H:Hp}:∀{ds:List (L2.Key×D)}{vs:List (L2.Key×V)},RepKV K α H ds vs->ds.map (·.1)=vs.map (·.1)
 |[],_,h=>by rw[RepKV]at h;subst h;rfl| (k,d)::r,_,h=>by
  rw[RepKV]at h;obtain⟨v,R,rfl,_,h2⟩:=h;rw[yl,yl,RepKV.keysEq h2]
theorem ito_k{k:Nat}{xs:List (L2.Key×V)}(g:H a=aa (.frz o (.dK xs)))(e:kvs.map (·.1)=xs.map (·.1)):ItO K cl α H (Itk a o xs) k .hid (kvs.map fun p=>kD p.1):=fun i b m1 n E W m=>by
 have h:=E.frzs a o _ g;have hl:kvs.length=xs.length:=by have:=congrArg yaG e;simpa using this
 refine⟨fun d hd=>?_,fun hi=>⟨h,by rw[hi,yg];omega⟩⟩;have hi:=(ye.mp hd).1;rw[yg]at hi;refine⟨⟨h,by omega⟩,?_⟩;rintro x j ⟨rfl,c,v,f,rfl⟩;refine⟨Same.refl _,?_⟩;have h1:=congrArg (fun l=>l[i]?) e;simp only[yz,f,yaC]at h1;obtain⟨p,hp,ep⟩:=yak.mp h1;rw[yz,hp]at hd;cases hd;show Rep K b j (kD p.1) (kV c);rw[ep];exact rep_k _
end
section
variable{m:Sto}
theorem Kp.thaw{ys:List (L2.Key×V)}(ha:a∈α)(c:H a=aa (.frz o (.dK ys))):Kp α H α (upd H a (.dK ys)):=by
 refine⟨⟨[],by simp⟩,fun b xs h=>by rw[zao fun z=>by rw[z,c]at h;cases h];exact h,fun b xs n h=>⟨n,?_⟩,fun b xs h=>by rw[zao fun z=>by rw[z,c]at h;cases h];exact h,fun b xs h=>by rw[zao fun z=>by rw[z,c]at h;cases h];exact h⟩;have ne:b≠a:=fun z=>n (by rw[z];exact ha);rcases h with h|⟨o',h⟩
 ·exact .inl (by rw[zao ne];exact h)
 ·exact .inr ⟨o',by rw[zao ne];exact h⟩
theorem Wd.thaw(W:Wd K cl α m H){k:Nat}{ys:List (L2.Key×V)}(h1:α[k]?=aa a)(f:H a=aa (.frz o (.dK ys)))(r:RepKV K α H kvs ys):Wd K cl α (m.set k (.dct kvs)) (upd H a (.dK ys)):=by
 have ha:a∈α := yM h1;have kp:=Kp.thaw ha f;refine⟨by rw[yad];exact W.len,W.nd,fun j b o' E e=>?_⟩;by_cases c:k=j
 ·subst c;rw[h1]at E;cases E;have d:k<m.length:=by rw[<- W.len];exact(ye.mp h1).1
  rw[yaQ d]at e;cases e;exact⟨ys,zaw,r.kp kp⟩
 ·rw[yaZ c]at e;have h:b≠a:=fun z=>by
   subst z;obtain⟨d,n⟩:=ye.mp h1;obtain⟨i,l⟩:=ye.mp E;exact c ((ybK W.nd).mp (n.trans l.symm))
  exact(W.at' j b o' E e).kp kp fun u g=>by rw[zao h];exact g
end
def zrC(n:Nat)(g:GV)(c:TV)(el:EV)(ρ : En)(x:D)(m1:Sto):Res D:=match x with
 |.ob k=>match m1[k]? with
  |some (.dct kvs)=>if kvs.length<=1000000 then (match zfB k .hid g c el (ρ ++ yd n none) (kvs.map fun p=>kD p.1) (m1.set k .hid) with
   |.ok xs m2=>.ok (.lst xs) (m2.set k (.dct kvs))|_=>.bad) else .bad
  |_=>.bad
 |_=>.bad
def zcF(n:Nat)(fi:EV)(g:GV)(c:TV)(el:EV):EV:=fun ρ m=>(fi ρ m).bind fun x m1=>zrC n g c el ρ x m1
section
variable{X:Cx}{N0:List ae}{e tg it:ak}{ifs:List ak}{fi:EV}{pos:aw}{scope:aI}{xs:List ae}{clo:List (ae×ad)}
theorem ziK(hc:X.calm=ac)(T:X.xe=fun _ _=>False)(S:CompOk X N0 scope xs clo)(hi:QE X cl ex it fi)(hg:∀C s H fp,QG (X.comp N0 scope xs clo C s H fp) cl ex tg gt)(hf:∀C s H fp,PIf (X.comp N0 scope xs clo C s H fp) ifs (tDT X.K cl ex ta))(he:∀C s H fp,QE (X.comp N0 scope xs clo C s H fp) cl ex e fa)(hs:autoParam (∀x,bc it X.env x=pure x) AutoP.a2._auto_1):QE X cl ex (.ListComp e [⟨tg,it,ifs,0⟩] scope pos) (zcF xs.length fi gt ta fa) :=
 ⟨PE.weak (zrh (g:=tDG X.K cl ex gt) (tf:=tDT X.K cl ex ta) (te:=tD X.K cl ex fa) hc T S hi.out (fun C s H fp=>(hg C s H fp).out) hf (fun C s H fp=>(he C s H fp).out) hs) fun σ H Q Y=>ex3 Y fun α ρ m W hr h=>
  tD.use W hr h fun c m1 H1 d v E1 A hr1 J f=>by
   unfold zrC at f;split at f
   ·rename_i k;split at f
    ·rename_i kvs V;obtain⟨r,f⟩:=PQ.if f;rw[Rep]at J;obtain⟨a,ha,rfl⟩:=J;obtain⟨ys,h1,K⟩:=A.dct ha V;have ek:=RepKV.keysEq K;split at f
     ·rename_i Z m2 i;refine⟨a,ys,rfl,h1,fun o N=>⟨a,o,ys,rfl,N,?_⟩⟩;obtain⟨L,G⟩:=A.set (u := .frz o (.dK ys)) (o := .hid) ha fun _=>⟨o,ys,zaw⟩;refine zjo (R:=fun ds α' m' _=>ds=Z/\m'=m2) (k:=k) (o := .hid) (ds:=kvs.map fun p=>kD p.1) L (hr1.mono A G) (ito_k zaw ek) (by rw[yg];exact r) (by rw[i];exact fun _ _ _ _=>⟨rfl,rfl⟩) ?_;rintro ds α' m' H' vs I F U ⟨rfl,rfl⟩ D;have t:=I.frzs a o _ zaw;refine⟨t,fun p hp=>?_⟩;obtain⟨β,rfl,P⟩:=I.pre;have y:(c ++ β)[k]?=aa a:=by rw[yI (ye.mp ha).1];exact ha
      have B:=Same.new (o := .lst vs) hp;have Wp:=F.same B;have l:upd H' p (.lst vs) a=aa (.frz o (.dK ys)):=B a _ t;have M:=I.trans (Ext.of_same F B);have O:RepKV X.K (c ++ β) (upd H' p (.lst vs)) kvs ys:=(K.mono A G).mono L M;have Wt:=Wp.thaw y l O;have Et:Ext c H1 (c ++ β) (upd (upd H' p (.lst vs)) a (.dK ys)):=by
       have E0:=G.trans M;have E:a∈c:=yM ha;refine⟨E0.pre,fun b u j n=>?_,fun b j=>?_,fun b u w j=>?_⟩
       ·rw[zao fun z=>n (by rw[z];exact E)];exact E0.keep b u j n
       ·by_cases z:b=a
        ·rw[z,zaw];exact fun q=>nomatch q
        ·rw[zao z];exact E0.there b j
       ·rw[zao fun z=>by rw[z,h1]at j;cases j];exact E0.frzs b u w j
      exact f _ _ Et Wt _ ((zbF F hp D).kp (Kp.thaw (yM y) l))
     ·exact f.elim
    ·exact f.elim
   ·exact f.elim⟩
end
end MD
namespace L2
open PySem PySem.Spec PyProof.Rows
theorem zfQ:∀{ns:List Int}{us:List af},Vals (ns.map V.int) us->bT us ns
 |[],_,r=>by cases r;exact .nil|n::ns,_,r=>by
  cases r with
  |cons a b=>
   obtain⟨t,rfl⟩:=a;exact .cons _ _ (zfQ b)
def zeh(ns:List Int):List Int:=ns.mergeSort
theorem zbK(ns:List Int):(zeh ns).Perm ns:=List.mergeSort_perm ns _
theorem zdo(ns:List Int):(zeh ns).Pairwise (· <= ·):=by
 have h:=List.pairwise_mergeSort (le:=fun a b:Int=>decide (a<=b)) (fun a b c h1 H=>by simp at *;omega) (fun a b=>by simp;omega) ns;exact h.imp fun h=>by simpa using h
theorem zqL{ns n:List Int}(p:n.Perm ns)(o:n.Pairwise (· <= ·)):n=zeh ns:=ydQ (p.trans (zbK ns).symm) o (zdo ns)
theorem zgr(ns:List Int):(zeh ns).length=ns.length:=(zbK ns).length_eq
variable{X:Cx}{vs:List (Key×af)}
section
theorem zh4{P:aq}{w:al}{kvs:List (Key×V)}(r:KV kvs vs){A:List af}(hl:A.length=vs.length)(h:∀(j:Nat)(v:af),A[j]?=aa v->∃(k:Key)(x:af),vs[j]?=aa (k,x)/\(zaK P w).is k v=ac):Vals (kvs.map fun p=>kV p.1) A:=by
 have H:=r.keys;have:∀(ks:List Key)(A:List af),A.length=ks.length->(∀(j:Nat)(v:af),A[j]?=aa v->∃k:Key,ks[j]?=aa k/\(zaK P w).is k v=ac)->Vals (ks.map kV) A:=by
  intro ks;induction ks with
  |nil=>intro A hl _;cases A with
   |nil=>exact .nil|cons=>cases hl
  |cons k ks i=>intro A hl h;cases A with
   |nil=>cases hl|cons a A=>
    obtain⟨K,b,E⟩:=h 0 a rfl;cases b;exact .cons (zpO E) (i A (by simpa using hl) fun j v e=>by simpa using h (j+1) v (by simpa using e))
 have q:=this (vs.map (·.1)) A (by rw[yg];exact hl) fun j v e=>by
  obtain⟨k,x,b,E⟩:=h j v e;exact⟨k,by rw[yz,b];rfl,E⟩
 rw[<- H,yY]at q;exact q
def zmk:List V->Hp->VK->Prop:=fun xs H Q=>∃(a:ad)(kvs:List (Key×V))(ns:List Int),xs=[.ref a]/\Rd H a (.dK kvs)/\kvs.map (·.1)=ns.map yaa/\ns.length<64/\∀l,H l=none->Q (.ref l) (upd H l (.lst ((zeh ns).map V.int)))
theorem zkE(E:X.calm=ac):CallR X (.builtin "sorted") zmk:=by
 intro pins s σ H xs us Q I r h;obtain⟨a,kvs,ns,rfl,hr,z,F,q⟩:=h;obtain⟨u,rfl,C⟩:=zch r;cases C;obtain⟨l,hd,vs,R,dd⟩:=ze5 I.hok hr;obtain⟨ep,k⟩:=dd.dictAt;have y:kvs.length=ns.length:=by have:=congrArg yaG z;simpa using this
 have i:=R.length;refine Calls.call_function_entry kind_sorted plain_sorted entry_sorted (args_sorted1 _) ?_;unfold aO.«sorted»;refine aj (m:=checkCount "sorted" 1 1 _) (av ?_);refine aj (PySem.W.kdu_collect (A:=X.A.in1) (ydR (knd:=zaK X.prog X.w) (kvs:=vs) (ep:=ep) hd) (I.ok.hd E) k (by rw[<- i];exact l) fun h' tk c kp d=>?_);have hl:c.toList.length=vs.length:=by rw[ya0];exact d.1
 have t:=zh4 (P:=X.prog) (w:=X.w) R hl fun j v e=>d.2 j v (by rw[<- ycD];exact e);have G:(kvs.map fun p=>kV p.1)=ns.map V.int:=by
  have:=congrArg (List.map kV) z;rw[yY,yY]at this;exact this
 rw[G]at t;have hi:=zfQ t;refine aj (wpAny_newList ?_ (by rw[hl,<- i];exact l));have f:(h'.push (seqObj "list" c.toList.toArray 0)).get? h'.objs.size=aa (seqObj "list" c.toList.toArray 0):=yr _ rfl;show wpAny _ _ _ _ _ { s with heap:=h'.push (seqObj "list" c.toList.toArray 0),toks:=tk };refine aj (aY (bw slot_list_sort ⟨_,f,rfl⟩ entry_list_sort (list_sort_tree f hi (by omega) fun out n a1 a2 a3=>⟨_,rfl,?_⟩) (args_list_sort _)));refine av ⟨_,rfl,?_⟩;obtain⟨e,D⟩:=sortedHeap_at (out:=out) f;have hn:n=zeh ns:=zqL a2 a3;subst hn;have B:Inv X pins σ H { s with heap:=h',toks:=tk }:=I.kept (t':=tk) kp;refine⟨.ref h'.objs.size,_,B.laid (t':=tk) (fun b o x=>?_) (yc _) (show ObjOk X.prog X.w _ _ _ (.lst ((zeh ns).map V.int)) from ⟨?_,out.toList,e,zgm a1,by simpa using D⟩),rfl,q _ (B.hok.fresh (yc _))⟩
 ·have g:=yi x;rw[sortedHeap_old (ym g) (by rw[size_push'];exact ydx g),Heap.get?_push_ne _ _ _ (ym g)];exact x
 ·rw[yg,zgr,bf];omega
def zr8:List V->Hp->VK->Prop:=fun xs H Q=>∃(a:ad)(kvs:List (Key×V)),xs=[.ref a]/\Rd H a (.dK kvs)/\∀l,H l=none->Q (.ref l) (upd H l (.lst (kvs.map fun p=>kV p.1)))
theorem znR(l:X.calm=ac):CallR X (.type "list") zr8:=by
 intro pins s σ H xs us Q I r h;obtain⟨a,kvs,rfl,hr,q⟩:=h;obtain⟨u,rfl,i⟩:=zch r;cases i;obtain⟨g,hd,vs,R,dd⟩:=ze5 I.hok hr;obtain⟨ep,f⟩:=dd.dictAt;have d:=R.length;refine PySem.W.kdl_call (ydR (knd:=zaK X.prog X.w) (kvs:=vs) (ep:=ep) hd) (I.ok.hd l) f (by rw[<- d];exact g) fun h' tk A c kp m b=>?_;have hl:A.toList.length=vs.length:=by rw[ya0];exact b.1
 have k:=zh4 (P:=X.prog) (w:=X.w) R hl fun j v e=>b.2 j v (by rw[<- ycD];exact e);exact⟨.ref s.heap.objs.size,_,I.laid (t':=tk) kp (yc _) (show ObjOk X.prog X.w _ _ _ (.lst (kvs.map fun p=>kV p.1)) from ⟨by rw[yg];exact g,A.toList,c,k,by simpa using m⟩),rfl,q _ (I.hok.fresh (yc _))⟩
end
variable{N0:List ae}{scope:aI}{xs:List ae}{cl:List (ae×ad)}{pins:List (ad×ar)}{σ : St}{H2:Hp}{s2:ai}{fp:List ad}
section
variable{C:ad}
theorem zqo{p:List (ad×ar)}{a:St}{H':Hp}{s':ai}{D:ad}{ys:List (Key×V)}(I:Inv X pins σ H2 s2)(f2:∀b∈fp,ze9 X pins H2 b)(h:s2.heap.objs.size<=D)(J:Inv (X.comp N0 scope xs cl C s2 H2 fp) p a H' s')(hn:H' D=none)(hs:(D==aT)=ag)(r:KV ys vs)(dd:s'.heap.DictOf (zaK X.prog X.w) D vs)(H:ys.length<=sizeLine) : Inv X pins σ (upd H' D (.dK ys)) s':=by
 have u:Un (frs X.stack) fp H2 H' s2.heap s'.heap:=J.base;have neD:∀b o,s2.heap.get? b=aa o->b≠D:=fun b o q=>ym (yB (yi q) h);have neT:∀b o,H2 b=aa o->b≠D:=fun b o q=>ym (yB (I.hok.lt q) h);refine I.call' (ch:=fp) J.os ⟨u.keep,u.slot,fun b o q m d=>?_,u.there,fun b z q=>?_,fun b o z q=>?_,fun b ps q=>?_⟩ (zeW J.hok hn ⟨H,hs,vs,r,dd⟩) J.bare fun b e=>?_
 ·rw[zao (neD b o q)];exact u.free b o q m d
 ·rw[zao (neT b _ q)];exact u.tups b z q
 ·rw[zao (neT b _ q)];exact u.frzs b o z q
 ·rw[zao (neT b _ q)];exact u.tbls b ps q
 ·obtain⟨_,c,_,z2,z3,Z⟩:=f2 b e;exact⟨z2,c,z3,Z⟩
end
variable{kx vx iter:ak}{ifs:List ak}{pos:aw}
theorem zlQ{prog:aq}{w:al}{A:ax}{R:bG->ai->Prop}{s:ai}{t:ak}{it:af}{D:ad}{env:aG}(I:Nat->ai->Prop)
  (turn:∀n s,I n s->wpAny (am prog w) A (be it) (fun r a=>match r with
   |none=>R (.ok .next) a
   |some v=>wpAny (am prog w) A (b6 t it v) (fun _ T=>wpAny (am prog w) A (aN t env v) (fun _ f=>
     wpAny (am prog w) A (forIn ifs ac fun c r=>if r=ac then do let ok <- isTrue c env (eval c env);pure (ForInStep.yield ok) else pure (ForInStep.yield r)) (fun ok S=>
      if ok=ac then wpAny (am prog w) A (eval kx env) (fun kv e=>wpAny (am prog w) A (eval vx env) (fun V d=>wpAny (am prog w) A (dictSet D kv V) (fun _ b=> ∃m,m<n/\I m b) (fun _ _=>False) d) (fun _ _=>False) e) (fun _ _=>False) S
      else ∃m,m<n/\I m S) (fun _ _=>False) f) (fun _ _=>False) T) (fun _ _=>False) a) (fun _ _=>False) s)
  (n:Nat) (h:I n s):codeAny (am prog w) A (.compLoop (.DictComp kx vx [⟨t,iter,ifs,0⟩] scope pos) 0 it (.ref D) env) R s:=by
 refine codeAny_loop rfl I (fun n s o=>?_) n h
 show wpAny _ A (Sem.onRaise (compTurn _ 0 it (.ref D) env) fun x=>do bK x env;theTreesLotGoes x) _ _ s
 refine wpAny_noted ?_
 rw[compTurn_dict]
 refine aj (bp (aj (aA (turn n s o) (fun r a h₁=> ?_) fun _ _ z=>z.elim)))
 cases r with
 |none=>exact av h₁
 |some v=>
  refine aj (aA h₁ (fun _ T k=> ?_) fun _ _ z=>z.elim)
  refine aj (aA k (fun _ f l=>aj (aA l (fun ok S H=> ?_) fun _ _ z=>z.elim)) fun _ _ z=>z.elim)
  cases ok with
  |false=>exact av ⟨rfl,H⟩
  |true=>
   exact aj (aj (aA H (fun kv e j=>aj (aY (aA j (fun V d i=>aj (bp (aY (aA i (fun _ b g=>av ⟨rfl,g⟩) fun _ _ z=>z.elim)))) fun _ _ z=>z.elim))) fun _ _ z=>z.elim))
section
variable{tg:ak}{wi:TI}{g:TG}{tf:TT}{tk tv:TE}
theorem zlR{it:ad}{tn:Nat->au->Prop}{J:It}{W:Nat->Nat->List (Key×V)->Hp->Prop}{m0:Nat}{fin:List (Key×V)->Hp->Prop}{RR:af->ad->bG->ai->Prop}(hc:X.calm=ac)(hx:X.xe=fun _ _=>False)(S:CompOk X N0 scope xs cl)(hg:∀C s H fp,PG (X.comp N0 scope xs cl C s H fp) tg g)(hf:∀C s H fp,PIf (X.comp N0 scope xs cl C s H fp) ifs tf)(hk:∀C s H fp,PE (X.comp N0 scope xs cl C s H fp) kx tk)(he:∀C s H fp,PE (X.comp N0 scope xs cl C s H fp) vx tv)(K:Inv X pins σ H2 s2)(T:Turn X.prog X.w X.K tg J fp it tn)(st2:tn 0 s2.heap)(f2:∀b∈fp,ze9 X pins H2 b)(w0:W 0 m0 [] H2)(turn:∀i m ys H,W i m ys H->ys.length<=sizeLine/\((J.stop i H/\fin ys H)∨(J.go i H/\∃(Y:Key->V->Hp->Prop)(Z:Hp->Prop),(∀k y H4,Y k y H4->ys.length<sizeLine/\∃m',m'<m/\W (i+1) m' (zeI ys k y) H4)/\(∀H3,Z H3->∃m',m'<m/\W (i+1) m' ys H3)∧∀x H',J.yld i H x H'->g x (σ ++ yd xs.length none) H' fun R H2=>tf R H2 fun b H3=>if b=ac then tk R H3 (fun kv H4=>tv R H4 fun y H5=>∃k,kv=kV k/\Y k y H5) else Z H3)))(hRR:∀(D C:ad)(s':ai)(ys:List (Key×V))(H':Hp)(m':ae->Option af),Inv X pins σ (upd H' D (.dK ys)) s'->H' D=none->s'.heap.Ns C m'->ze9 X pins (upd H' D (.dK ys)) C->fin ys H'->RR (.ref D) C (.ok .next) s') : wpAny (am X.prog X.w) X.A newDict (fun acc s₃=>wpAny (am X.prog X.w) X.A (newFunctionEnv scope X.env.globals cl [] X.env.qual none .none (aa X.env)) (fun Q s₄=>codeAny (am X.prog X.w) X.A (.compStart (.DictComp kx vx [⟨tg,iter,ifs,0⟩] scope pos) 0 (.ref it) acc { Q with scope:=bm scope X.env }) (RR acc Q.locals) s₄) X.xe s₃) X.xe s2:=by
 refine aR (wpAny_newFunctionEnv S.nc (by intro y hy;simp at hy) (fun h₁ f h=> ?_) S.kind);dsimp only at f h ⊢;generalize hG:s2.heap.push { cls := .type "dict", dict:=none,data := .dict #[] }=G at f h ⊢;have szG:G.objs.size=s2.heap.objs.size+1:=by rw[<- hG,yS]
 have hDC:s2.heap.objs.size≠G.objs.size:=by rw[szG];exact ym (yaS _)
 have hC:s2.heap.objs.size<=G.objs.size:=by rw[szG];exact ya1 _
 have F:∀b∈fp,b<s2.heap.objs.size:=fun b a=>let ⟨_,e,_⟩:=T.obj 0 _ st2 b a;yi e;have old:∀b o,s2.heap.get? b=aa o->h₁.get? b=aa o:=fun b o e=>
  h.extBut b o (ym (yB (yi e) hC)) (yf _ (hG ▸ yf _ e))
 have N:h₁.get? s2.heap.objs.size=aa { cls := .type "dict", data := .dict #[] }:=h.extBut _ _ hDC (yf _ (hG ▸ yr _ rfl));have hnew:h₁.DictOf (zaK X.prog X.w) s2.heap.objs.size []:=(ydA (knd:=zaK X.prog X.w) s2.heap).at fun o e=>by rw[yr _ rfl]at e;cases e;exact N
 have hsys:(s2.heap.objs.size==aT)=ag:=beq_eq_false_iff_ne.mpr (Ne.symm (ym K.big));have l : tn 0 h₁ := T.keep 0 _ _ st2 fun b _ o e=>old b o e;have I3:∀tk,Inv (X.comp N0 scope xs cl G.objs.size s2 H2 fp) [(s2.heap.objs.size,{ cls := .type "dict", data := .dict #[] })] (σ ++ yd xs.length none) H2 { s2 with heap:=h₁,toks:=tk }:=fun tk=>
  zie K S f2 F hC (yc _) hDC old rfl K.bare f N fun _ z=>nomatch z
 have A:∀{H':Hp}{o:ar},(∀b∈fp,H' b=none)->∀b∈fp,ze9 (X.comp N0 scope xs cl G.objs.size s2 H2 fp) [(s2.heap.objs.size,o)] H' b:=fun {H' o} hn b a=>by
  refine⟨hn b a,ym (yB (F b a) hC),fun z=>?_,.inl a,fun x c e=>(f2 b a).2.2.2.2.1 x c (S.sub.at e),fun p hp=>?_⟩
  ·rcases yn.mp (K.stkSub b z) with q|q
   ·exact(f2 b a).2.1 q
   ·exact(f2 b a).2.2.1 q
  ·have e:p=(s2.heap.objs.size,o):=yE.mp (show p∈[(s2.heap.objs.size,o)] from hp);subst e;exact yai (F b a)
 have L:∀U,codeAny (am X.prog X.w) X.A (.compLoop (.DictComp kx vx [⟨tg,iter,ifs,0⟩] scope pos) 0 (.ref it) (.ref s2.heap.objs.size) (compEnvC scope cl G.objs.size X.env)) (RR (.ref s2.heap.objs.size) G.objs.size) { s2 with heap:=h₁,toks:=U }:=by
  intro U;refine zlQ (fun n s'=>∃i ys vs O H',Inv (X.comp N0 scope xs cl G.objs.size s2 H2 fp) [(s2.heap.objs.size,O)] (σ ++ yd xs.length none) H' s'/\tn i s'.heap/\(∀b∈fp,H' b=none)/\KV ys vs/\s'.heap.DictOf (zaK X.prog X.w) s2.heap.objs.size vs/\W i n ys H')
   ?_ m0 ⟨0,[],[],_,H2,I3 U,l,fun b a=>(f2 b a).1,.nil,hnew,w0⟩
  rintro n s' ⟨i,ys,vs,O,H',I',st',fr',rv,dd,w'⟩;obtain⟨M,way⟩:=turn i n ys H' w';have atD:∀{P:List (ad×ar)}{w:St}{H':Hp}{s':ai},Inv (X.comp N0 scope xs cl G.objs.size s2 H2 fp) P w H' s'->(s2.heap.objs.size,O)∈(X.comp N0 scope xs cl G.objs.size s2 H2 fp).pn++P->s'.heap.DictOf (zaK X.prog X.w) s2.heap.objs.size vs:=fun {P w H' s'} J hm=>by
   obtain⟨o,ho,hr⟩:=ycU.mp dd;obtain⟨e1,_⟩:=I'.pin _ (yC _ (yE.mpr rfl));rw[e1]at ho;cases ho;exact ycU.mpr ⟨O,(J.pin _ hm).1,hr⟩
  rcases way with⟨stop,qf⟩|⟨go,Y,Z,hY,hZ,step⟩
  ·refine thn (T.done (X.comp N0 scope xs cl G.objs.size s2 H2 fp) rfl rfl rfl hc i _ s' _ H' (fun _ _=>False) I' (A fr') st' stop) ?_;rintro r s1 ⟨hr,I1⟩;subst hr;obtain⟨e,n1,_⟩:=I1.pin _ (yC _ (yE.mpr rfl));obtain⟨m1,hn1,_⟩:=I1.loc;refine hRR _ _ s1 ys H' m1 (zqo K f2 (yc _) I1 n1 hsys rv (atD I1 (yC _ (yE.mpr rfl))) M) n1 hn1 ?_ qf;refine K.fpOk hC ?_;rw[zao hDC.symm];exact I1.free
  ·refine thn (T.item (X.comp N0 scope xs cl G.objs.size s2 H2 fp) rfl rfl rfl hc i _ s' _ H' (fun _ _=>False) I' (A fr') st' go) ?_;rintro r s1 ⟨u,hr,h1⟩;subst hr;refine thn h1 ?_;rintro _ s5 ⟨x,H5,I5,r5,y5,st5,fr5⟩;have I5':=I5.pinned (A fr5) (T.obj _ _ st5);have I:(X.comp N0 scope xs cl G.objs.size s2 H2 fp).xe=fun _ _=>False:=hx;have q6:=hg _ s2 H2 fp _ s5 _ H5 x u _ I5' r5 (step x H5 y5);rw[I]at q6;refine thn q6 ?_;rintro _ s6 ⟨t,H6,I6,q6⟩;have q7:=hf _ s2 H2 fp _ s6 t H6 _ I6 q6;rw[I]at q7;refine thn q7 ?_;rintro b s7 ⟨H7,I7,q7⟩;have kept:∀{w:St}{H':Hp}{s':ai},Inv (X.comp N0 scope xs cl G.objs.size s2 H2 fp) ([(s2.heap.objs.size,O)]++zct fp s5.heap) w H' s'->tn (i+1) s'.heap/\∀b∈fp,H' b=none:=fun {w H' s'} Z=>by
    refine⟨T.keep _ _ _ st5 fun b a o e=>(Z.pin (b,o) (yC _ (yC _ (zcn a e)))).1,fun b a=>?_⟩;obtain⟨o,e,d⟩:=T.obj _ _ st5 b a;exact(Z.pin (b,o) (yC _ (yC _ (zcn a e)))).2.1
   cases b with
   |false=>
    rw[if_neg yu];rw[if_neg yu]at q7;obtain⟨m',hm,w7⟩:=hZ _ q7;exact⟨m',hm,i+1,ys,vs,O,H7,zdW K S f2 I7.unpinned,(kept I7).1,(kept I7).2,rv,atD I7 (yC _ (yau _ (yE.mpr rfl))),w7⟩
   |true=>
    rw[if_pos rfl];rw[if_pos rfl]at q7;have q8:=hk _ s2 H2 fp _ s7 t H7 _ I7 q7;rw[I]at q8;refine thn q8 ?_;rintro kv s8 ⟨kvv,H8,I8,r8,q8⟩;have q9:=he _ s2 H2 fp _ s8 t H8 _ I8 q8;rw[I]at q9;refine thn q9 ?_;rintro y s9 ⟨yv,H9,I9,r9,kk,ek,qY⟩;subst ek;obtain⟨hz,m',hm,w8⟩:=hY _ _ _ qY;have mD:(s2.heap.objs.size,O)∈(X.comp N0 scope xs cl G.objs.size s2 H2 fp).pn++([(s2.heap.objs.size,O)]++zct fp s5.heap):=yC _ (yau _ (yE.mpr rfl));obtain⟨eD,nD,neC,nfD,_⟩:=I9.pin (s2.heap.objs.size,O) mD;have hl:=rv.length;refine wpAny_dictSet_pairs (hsz:=by rw[<- hl];exact M) (zj9 r8) (atD I9 mD) fun B j E=> ?_;obtain⟨o',ho',hr'⟩:=ycU.mp j;have hcell:∀v,o'.data ≠ .cell v:=fun v z=>by
     obtain⟨_,es,ep,hg',_,hd',_⟩:=j;rw[ho']at hg';cases hg';rw[hd']at z;cases z
    have drop:Inv (X.comp N0 scope xs cl G.objs.size s2 H2 fp) (zct fp s5.heap) t H9 s9:=I9.pins_of fun p hp=>I9.pin p (yC _ (yC _ hp));have I10:∀t',Inv (X.comp N0 scope xs cl G.objs.size s2 H2 fp) (zct fp s5.heap) t H9 { s9 with heap:=B,toks:=t' }:=fun t'=>by
     refine drop.turned (it:=s2.heap.objs.size) (t':=t') (fun b o a q=>E.extBut b o a q) nD neC (.inr (yc _)) (fun x c e z=>?_) fun p hp z=>?_
     ·obtain⟨v,q⟩:=K.cell x c (S.sub.at e);exact absurd (q.lt) (by rw[z];exact yO _)
     ·have hp':p∈zct fp s5.heap:=hp;exact absurd (F _ (zgX hp').1) (by rw[z];exact yO _)
    have I11:∀t',Inv (X.comp N0 scope xs cl G.objs.size s2 H2 fp) ([(s2.heap.objs.size,o')]++zct fp s5.heap) t H9 { s9 with heap:=B,toks:=t' }:=fun t'=>(I10 t').pins_of fun p hp=>by
     rcases yJ.mp hp with z|z
     ·have e:=yE.mp z;subst e;exact⟨ho',nD,neC,nfD,hcell⟩
     ·exact(I10 t').pin p (yC _ z)
    have kp:tn (i+1) B /\ ∀b∈fp,H9 b=none:=by
     refine⟨T.keep _ _ _ (kept I9).1 fun b a o e=>E.extBut b o (ym (F b a)) e,(kept I9).2⟩
    exact⟨m',hm,i+1,zeI ys kk yv,stored vs kk y,o',H9,zdW K S f2 (I11 _).unpinned,kp.1,kp.2,rv.put kk r9,j,w8⟩
 exact codeAny_compStart_dict (L _) (T.self _ 0 _ _ _ l (L _))
def zr2(n:Nat)(wi:TI)(g:TG)(tf:TT)(tk tv:TE)(f:List (Key×V)->Hp->Prop):St->Hp->Prop:=fun σ H=>wi σ H fun J H1=>∃W:Nat->Nat->List (Key×V)->Hp->Prop,(∃m,W 0 m [] H1)/\∀i m ys H,W i m ys H →
 ys.length<=sizeLine/\((J.stop i H/\f ys H)∨(J.go i H/\∃(Y:Key->V->Hp->Prop)(Z:Hp->Prop),(∀k y c,Y k y c->ys.length<sizeLine/\∃m',m'<m/\W (i+1) m' (zeI ys k y) c)/\(∀h,Z h->∃m',m'<m/\W (i+1) m' ys h) ∧
  ∀x H',J.yld i H x H'->g x (σ ++ yd n none) H' fun a H2=>tf a H2 fun b h=>if b=ac then tk a h (fun kv c=>tv a c fun y d=>∃k,kv=kV k/\Y k y d) else Z h))
theorem zri(m:X.calm=ac)(c:X.xe=fun _ _=>False)(S:CompOk X N0 scope xs cl)(hi:PI X tg iter wi)(e:∀C s H fp,PG (X.comp N0 scope xs cl C s H fp) tg g)(j:∀C s H fp,PIf (X.comp N0 scope xs cl C s H fp) ifs tf)(d:∀C s H fp,PE (X.comp N0 scope xs cl C s H fp) kx tk)(l:∀C s H fp,PE (X.comp N0 scope xs cl C s H fp) vx tv)(hs:autoParam (∀x,bc iter X.env x=pure x) AutoP.a2._auto_1) : PE X (.DictComp kx vx [⟨tg,iter,ifs,0⟩] scope pos) (fun σ H Q=>zr2 xs.length wi g tf tk tv (fun ys H'=>∀p,H' p=none->Q (.ref p) (upd H' p (.dK ys))) σ H):=by
 intro pins s σ H Q I h;rw[arm_eval_DictComp];refine cf (use:=none) rfl hs S.clos S.kind (fun y b hl=>(S.lo b hl).1) ?_;refine thn (hi pins s σ H _ I h) fun t s1 h1=>thn h1 fun i s2 o=>?_;obtain⟨it,fp,tn,J,u,rfl,q,T,a,f2,W,⟨m0,w0⟩,turn⟩:=o;refine zlR (RR:=fun A C=>compPost (am X.prog X.w) X.A X.xe none (EP X pins σ Q) A C) m c S e j d l q T a f2 w0 turn ?_;intro D C s' ys H' m' r n hn F f;exact⟨m',hn,fun h' k=>⟨.ref D,_,ze6 r F k,rfl,f D n⟩⟩
end
end L2
namespace PySem
open Sem (wp)
end PySem
namespace L2
open PySem PySem.Spec PyProof.Rows
section
variable{g:TG}{tf:TT}{tk tv:TE}{fin:List (Key×V)->Hp->Prop}{n:Nat}{σ : St}{H:Hp}
theorem zrV{J:It}{k:Nat}(P:Nat->List (Key×V)->Hp->Prop)(r:k<=1000000)(h0:P 0 [] H)(o:∀i ys H,P i ys H->ys.length<=i)(j:∀i ys H,i<k->P i ys H->J.go i H/\∀x H',J.yld i H x H'->g x (σ ++ yd n none) H' fun a H2=>tf a H2 fun b h=>if b=ac then tk a h (fun kv c=>tv a c fun y l=>∃q,kv=kV q/\P (i+1) (zeI ys q y) l) else P (i+1) ys h)(f:∀ys H,P k ys H->J.stop k H/\fin ys H) : ∃W:Nat->Nat->List (Key×V)->Hp->Prop,(∃m,W 0 m [] H)/\∀i m ys H,W i m ys H->ys.length<=sizeLine/\((J.stop i H/\fin ys H)∨(J.go i H/\∃(Y:Key->V->Hp->Prop)(Z:Hp->Prop),(∀k y c,Y k y c->ys.length<sizeLine/\∃m',m'<m/\W (i+1) m' (zeI ys k y) c)∧(∀h,Z h->∃m',m'<m/\W (i+1) m' ys h)/\∀x H',J.yld i H x H'->g x (σ ++ yd n none) H' fun a H2=>tf a H2 fun b h=>if b=ac then tk a h (fun kv c=>tv a c fun y l=>∃k,kv=kV k/\Y k y l) else Z h)):=by
 have hl:sizeLine=16777216:=bf;refine⟨fun i m ys H=>m=k-i/\i<=k/\P i ys H,⟨k,by simp,yZ _,h0⟩,?_⟩;rintro i m ys H ⟨rfl,hi,p⟩;have z:=o i ys H p;refine⟨by omega,?_⟩;by_cases d:i<k
 ·obtain⟨g1,G⟩:=j i ys H d p;exact .inr ⟨g1,fun q y c=>P (i+1) (zeI ys q y) c,fun h=>P (i+1) ys h,fun q y c w=>⟨by omega,k-(i+1),by omega,rfl,d,w⟩,fun h q=>⟨k-(i+1),by omega,rfl,d,q⟩,G⟩
 ·have e:i=k:=by omega
  subst e;exact .inl (f ys H p)
end
end L2
namespace MD
open PySem PySem.Spec PyProof.Rows L2
variable{K:yb}{cl:ae->ad}{ex:XD}{gt:GV}{ta:TV}{fk fv:EV}{σ : L2.St}{H:Hp}
section
variable{fr:AV}
def zga(g:GV)(c:TV)(f E:EV)(ρ : En):List D->List (L2.Key×D)->Sto->Res (List (L2.Key×D))
 |[],a,m=>.ok a m|d::r,a,m=>(g d ρ m).bind fun e m1=>(c e m1).bind fun b m2=>if b=ac then (f e m2).bind fun k m3=>(E e m3).bind fun x M=>match zhH k with
  |some q=>zga g c f E ρ r (zh0 a q x) M|none=>.bad else zga g c f E ρ r a m2
def zqi(n:Nat)(it:AV)(g:GV)(c:TV)(E e:EV):EV:=fun ρ m=>(it ρ m).bind fun ds m1=>if ds.length<=1000000 then (zga g c E e (ρ ++ yd n none) ds [] m1).bind fun kvs m2=>.ok (.ob m2.length) (m2++[.dct kvs]) else .bad
theorem zmn:∀(kvs:List (L2.Key×D))(k:L2.Key)(d:D),(zh0 kvs k d).length<=kvs.length+1
 |[],k,d=>by simp[zh0]|p::r,k,d=>by
  unfold zh0;split
  ·simp
  ·have:=zmn r k d;simp only[yt];omega
theorem zof{n:Nat}{f:List (L2.Key×V)->Hp->Prop}(h:∃α ρ m,Wd K cl α m H/\RepE K α H ρ σ /\ PQ K cl ex ((fr ρ m).bind fun ds m1=>if ds.length<=1000000 then zga gt ta fk fv (ρ ++ yd n none) ds [] m1 else .bad) α H fun ds α' _ H'=>∀vs,RepKV K α' H' ds vs->f vs H') : zr2 n (tDI K cl ex fr) (tDG K cl ex gt) (tDT K cl ex ta) (tD K cl ex fk) (tD K cl ex fv) f σ H:=by
 obtain⟨α,ρ,m,W,hr,h⟩:=h;refine⟨α,ρ,m,W,hr,PQ.mono (Ext.refl W) h.bind fun ds g m1 H1 E1 C q J F=>?_⟩;obtain⟨hk,q⟩:=PQ.if q;have hr1:=hr.mono W E1;refine zrV (k:=ds.length) (fun i ys c=>∃a m2 done,Ext g H1 a c/\Wd K cl a m2 c/\RepKV K a c done ys/\done.length<=i/\PQ K cl ex (zga gt ta fk fv (ρ ++ yd n none) (ds.drop i) done m2) a c fun ds α' _ H'=>∀vs,RepKV K α' H' ds vs->f vs H') hk ?_ ?_ ?_ ?_
 ·exact⟨g,m1,[],Ext.refl C,C,rfl,yc _,q⟩
 ·rintro i ys c ⟨_,_,done,_,_,r,l,_⟩;rw[<- r.length];exact l
 ·rintro i ys c hi ⟨a,m2,done,p,w,R,l2,Q⟩;have hd:ds[i]?=aa ds[i]:=by simp[hi]
  obtain⟨g1,g2⟩:=(F i a m2 c p w).1 _ hd;refine⟨g1,fun x H3 y=>?_⟩;obtain⟨S,U⟩:=g2 x H3 y;have o:=Ext.of_same w S;have B:=w.same S;rw[ybv hi,zga]at Q;have e:=p.trans o;refine⟨a,ρ ++ yd n none,m2,ds[i],B,(hr1.mono C e).more n,U,PQ.mono o Q.bind fun O T m4 H4 E4 W4 Z N hr4=>?_⟩;refine tDT.use W4 hr4 Z fun t m5 H5 b E5 A hr5 D=>?_;have E:=E4.trans E5;cases b with
  |false=>exact⟨t,m5,done,e.trans E,A,(R.mono w o).mono B E,yb4 l2,D⟩|true=>
   refine tD.use A hr5 D fun P m6 H6 d v M I hr6 X Y=>?_;refine tD.use I hr6 Y fun s m7 H7 G v2 L W7 hr7 u j=>?_;cases z:zhH d with
   |none=>rw[z]at j;exact j.elim|some q=>
    rw[z]at j;refine⟨q,zg8 z X,s,m7,zh0 done q G,e.trans (E.trans (M.trans L)),W7,RepKV.put u (((((R.mono w o).mono B E).mono A M)).mono I L),?_,j⟩;have:=zmn done q G;omega
 ·rintro ys c ⟨a,m2,done,p,w,R,l2,Q⟩;rw[ya9 (yc _),zga]at Q;exact⟨(F ds.length a m2 c p w).2 rfl,PQ.ok w Q ys R⟩
end
variable{X:Cx}
section
variable{N0:List ae}{kx vx tg it:ak}{ifs:List ak}{fr:AV}{pos:aw}{scope:aI}{xs:List ae}{clo:List (ae×ad)}
theorem zq5(l:X.calm=ac)(c:X.xe=fun _ _=>False)(S:CompOk X N0 scope xs clo)(hi:QI X cl ex tg it fr)(i:∀C s H fp,QG (X.comp N0 scope xs clo C s H fp) cl ex tg gt)(j:∀C s H fp,PIf (X.comp N0 scope xs clo C s H fp) ifs (tDT X.K cl ex ta))(e:∀C s H fp,QE (X.comp N0 scope xs clo C s H fp) cl ex kx fk)(k:∀C s H fp,QE (X.comp N0 scope xs clo C s H fp) cl ex vx fv)(hs:autoParam (∀x,bc it X.env x=pure x) AutoP.a2._auto_1):QE X cl ex (.DictComp kx vx [⟨tg,it,ifs,0⟩] scope pos) (zqi xs.length fr gt ta fk fv) :=
 ⟨PE.weak (zri (g:=tDG X.K cl ex gt) (tf:=tDT X.K cl ex ta) (tk:=tD X.K cl ex fk) (tv:=tD X.K cl ex fv) l c S hi.out (fun C s H fp=>(i C s H fp).out) j (fun C s H fp=>(e C s H fp).out) (fun C s H fp=>(k C s H fp).out) hs) fun σ H Q f=>ex3 f fun α ρ m W hr h=>zof ⟨α,ρ,m,W,hr,PQ.mono (Ext.refl W) (show PQ X.K cl ex (((fr ρ m).bind fun ds m1=>if ds.length<=1000000 then zga gt ta fk fv (ρ ++ yd xs.length none) ds [] m1 else .bad).bind fun kvs m2=>.ok (.ob m2.length) (m2++[.dct kvs])) α H fun d α' _ H'=>∀v,Rep X.K α' H' d v->Q v H' from by
   rw[Res.bind_assoc];refine(congrArg (fun z=>PQ X.K cl ex ((fr ρ m).bind z) α H _) ?_).mpr h;funext ds m1;split <;> rfl).bind fun ds a m1 n E w q vs R p hp=>by
  obtain⟨_,_,b,r⟩:=zpq w hp R q;exact b _ r⟩⟩
end
variable{α : List ad}{m:Sto}{v:V}
section
def znF(ns:List Int):List D:=ns.map D.int
theorem zhU{α : List ad}{H:Hp}:∀(ns:List Int),RepL K α H (znF ns) (ns.map V.int)
 |[]=>by rw[znF,yaz,RepL];rfl|n::ns=>by
  rw[znF,yl,RepL];exact⟨.int n,ns.map V.int,rfl,zfJ,zhU ns⟩
def sortF(ds:List D)(m:Sto):Res D:=match ds with
 |[x]=>match (lOf x m).bind zed with
  |some ns=>if ns.length<64 then .ok (.lst (znF (zeh ns))) m else .bad|none=>.bad
 |_=>.bad
def dOf(d:D)(m:Sto):Option (List (L2.Key×D)):=match d with
 |.ob k=>match m[k]? with
  |some (.dct kvs)=>aa kvs|_=>none
 |_=>none
theorem zjf{d:D}{kvs:List (L2.Key×D)}(W:Wd K cl α m H)(e:dOf d m=aa kvs)(r:Rep K α H d v):∃p ys,v = .ref p/\H p=aa (.dK ys)/\RepKV K α H kvs ys:=by
 unfold dOf at e;split at e
 ·rw[Rep]at r;obtain⟨a,ha,rfl⟩:=r;split at e
  ·cases e;obtain⟨ys,h1,R⟩:=W.dct ha ‹_›;exact⟨a,ys,rfl,h1,R⟩
  ·cases e
 ·cases e
def zez:List (L2.Key×D)->Option (List Int)
 |[]=>aa []| (.inl i,_)::r=>(zez r).map (i :: ·)|_=>none
theorem zhb:∀{kvs:List (L2.Key×D)}{ns:List Int},zez kvs=aa ns->kvs.map (·.1)=ns.map yaa
 |[],ns,e=>by cases e;rfl| (.inl i,d)::r,ns,e=>by
  rw[zez]at e;obtain⟨m,e2,rfl⟩:=yak.mp e;rw[yl,yl,zhb e2]
 | (.inr i,d)::r,ns,e=>by simp[zez]at e
def zgq(ds:List D)(m:Sto):Res D:=match ds with
 |[x]=>match (dOf x m).bind zez with
  |some ns=>if ns.length<64 then .ok (.lst (znF (zeh ns))) m else .bad|none=>.bad
 |_=>.bad
theorem zrK:FnD K cl ex zmk zgq:=fun α m H x V Q W r h=>by
 unfold zgq at h;split at h
 ·split at h
  ·rename_i ns e;obtain⟨a,h⟩:=PQ.if h;obtain⟨v,rfl,R⟩:=r.one_of;obtain⟨xs,c,E⟩:=yby.mp e;obtain⟨p,ys,rfl,h1,b⟩:=zjf W c R;exact⟨p,ys,ns,rfl,.inl h1,by rw[<- RepKV.keysEq b];exact zhb E,a,fun l hl=>PQ.okS W (Same.new hl) h _ (zbF W hl (zhU _))⟩
  ·exact h.elim
 ·exact h.elim
def zi7(kvs:List (L2.Key×D)):List D:=kvs.map fun p=>kD p.1
theorem zjE{α : List ad}{H:Hp}:∀{kvs:List (L2.Key×D)}{ys:List (L2.Key×V)},RepKV K α H kvs ys->RepL K α H (zi7 kvs) (ys.map fun p=>kV p.1)
 |[],_,h=>by rw[show _=[] from h,zi7,yaz,yaz,RepL]|p::r,_,⟨v,R,e,h1,h2⟩=>by
  subst e;rw[zi7,yl,yl,RepL];exact⟨kV p.1,_,rfl,rep_k _,zjE h2⟩
def znC(ds:List D)(m:Sto):Res D:=match ds with
 |[x]=>match dOf x m with
  |some kvs=>.ok (.lst (zi7 kvs)) m|none=>.bad
 |_=>.bad
theorem zuq:FnD K cl ex zr8 znC:=fun α m H x V Q W r h=>by
 unfold znC at h;split at h
 ·split at h
  ·rename_i kvs e;obtain⟨v,rfl,R⟩:=r.one_of;obtain⟨p,ys,rfl,h1,a⟩:=zjf W e R;exact⟨p,ys,rfl,.inl h1,fun l hl=>PQ.okS W (Same.new hl) h _ (zbF W hl (zjE a))⟩
  ·exact h.elim
 ·exact h.elim
end
def zfH(a b:List (L2.Key×D)):Bool:=decide (a.length=b.length)&&a.all fun p=>match zd4 b p.1 with
 |some y=>zfa p.2&&zfa y&&PyData.eqv (py p.2) (py y)|none=>ag
section
variable{pins:List (ad×ar)}{s:ai}
theorem KV.at_some{kvs:List (L2.Key×V)}{vs:List (L2.Key×af)}(r:KV kvs vs){k:L2.Key}(e:zjk kvs k=aa v):∃u,bd vs k=aa u/\RelV v u:=by
 have h:=r.val k;rw[e]at h;cases H:bd vs k with
 |none=>rw[H]at h;exact h.elim|some u=>rw[H]at h;exact⟨u,rfl,h⟩
theorem zlM(I:Inv X pins σ H s){A:ax}(t:A.units+64<aC){j:List (L2.Key×D)}{K:List (L2.Key×V)}{l:List (L2.Key×af)}(n:RepKV X.K α H j K)(R:KV K l) :
  ∀{w:List (L2.Key×D)}{o:List (L2.Key×V)}{m:List (L2.Key×af)},RepKV X.K α H w o->KV o m->(w.all fun p=>match zd4 j p.1 with
   |some y=>zfa p.2&&zfa y&&PyData.eqv (py p.2) (py y)|none=>ag)=ac->PySem.W.KeqHits A s l m ac
 |[],_,_,h,f,_=>by
  cases (show _=[] from h);cases f;exact .nil
 |p::r,_,_,⟨v,J,e,h1,h2⟩,f,ha=>by
  subst e;cases f with
  |cons a b=>
   rename_i q us;obtain⟨Q,L⟩:=q;obtain⟨a1,a2⟩:=a;have a1:p.1=Q:=a1;subst a1;rw[ybm,yy]at ha;obtain⟨c,i⟩:=ha;cases g:zd4 j p.1 with
   |none=>rw[g]at c;cases c|some y=>
    rw[g]at c;simp only[yy]at c;obtain⟨⟨d,k⟩,E⟩:=c;obtain⟨F,C,z⟩:=n.val.1 y g;obtain⟨U,B,x⟩:=KV.at_some R C;rw[zfa,yy]at d k;obtain⟨as,g1⟩:=zbR I d.1 h1 a2;obtain⟨bs,G⟩:=zbR I k.1 z x;have u:=SeqAt.eqAt_reads _ _ A s _ _ _ _ g1 G (SeqAt.canLay_of_shaped d.2) (SeqAt.canLay_of_shaped k.2) (SeqAt.room_of_shaped d.2 t);rw[E]at u;exact PySem.W.KeqHits.hit B u (zlM I t n R h2 b i)
def zoG(K:yb)(f:Bool->Bool):R2:=fun vx vy H Q=>∃(a b:ad)(c k:List (L2.Key×V))(e d:List (L2.Key×D))(α : List ad),vx = .ref a/\vy = .ref b/\Rd H a (.dK c)/\Rd H b (.dK k)/\RepKV K α H e c/\RepKV K α H d k/\zfH e d=ac/\Q (.bl (f ac)) H
theorem op_eqK(t:X.A.units+65<aC):OpR X (aB .Eq) (zoG X.K id):=by
 intro pins s σ H o n v u Q I k j h;obtain⟨a,b,p,K,x,w,α,rfl,rfl,h1,m,g,f,S,q⟩:=h;cases k;cases j;obtain⟨Z,ha,i,c,e⟩:=ze5 I.hok h1;obtain⟨z,l,V,R,D⟩:=ze5 I.hok m;rw[zfH,yy,decide_eq_true_eq]at S;have el:i.length=V.length:=by rw[<- c.length,<- R.length,<- g.length,<- f.length];exact S.1
 have d:X.A.in1.units+64<aC:=by have:X.A.in1.units=X.A.units+1:=rfl;omega
 refine ydS (r:=ac) ha l e D (by omega) (fun _=>zlM I d f R g c S.2) ⟨.bl ac,H,I,?_,q⟩;rw[el];simp;rfl
def zgv(x y:D)(m:Sto):Bool:=match dOf x m,dOf y m with
 |some a,aa b=>zfH a b|_,_=>ag
theorem zhT{x y:D}{c v:V}{f:Bool->Bool}{Q:VK}(W:Wd K cl α m H)(R:Rep K α H x c)(r:Rep K α H y v)(e:zgv x y m=ac)(q:Q (.bl (f ac)) H):zoG K f c v H Q:=by
 unfold zgv at e;split at e
 ·rename_i a b j E;obtain⟨p,h,rfl,h1,g⟩:=zjf W j R;obtain⟨P,k,rfl,i,d⟩:=zjf W E r;exact⟨p,P,h,k,a,b,α,rfl,rfl,.inl h1,.inl i,g,d,e,q⟩
 ·cases e
def eqK(x y:D)(m:Sto):Res D:=if zgv x y m=ac then .ok (.bl ac) m else .bad
theorem od_eqK:OpD K cl ex (zoG K id) eqK:=fun α m H x y V v Q W R r h=>by
 obtain⟨e,h⟩:=PQ.if h;exact zhT (f:=id) W R r e (PQ.ok W h _ zkV)
end
def zjc(kvs:List (L2.Key×D))(k:L2.Key):List (L2.Key×D):=kvs.filter fun p=>decide (p.1≠k)
section
variable{o e:ak}{fo fe:EV}{apos cpos:aw}
theorem RepKV.drop{k:L2.Key}:∀{ds:List (L2.Key×D)}{vs:List (L2.Key×V)},RepKV K α H ds vs->RepKV K α H (zjc ds k) (zhK vs k)
 |[],_,h=>by cases (show _=[] from h);rfl|p::r,_,⟨v,R,e,h1,h2⟩=>by
  subst e;have i:=RepKV.drop (k:=k) h2;by_cases a:p.1=k
  ·simp only[zjc,zhK,yaK,a,ne_eq,not_true_eq_false,decide_false,ybA,if_false];exact i
  ·simp only[zjc,zhK,yaK,a,ne_eq,not_false_eq_true,decide_true,if_true];exact⟨v,zhK R k,rfl,h1,i⟩
def zrQ(x y:D)(m:Sto):Res D:=match x with
 |.ob k=>match m[k]? with
  |some (.dct kvs)=>match zhH y with
   |some q=>match zd4 kvs q with
    |some d=>.ok d (m.set k (.dct (zjc kvs q)))|none=>.bad
   |none=>.bad
  |_=>.bad
 |_=>.bad
def zrN(fo f:EV):EV:=fun ρ m=>(fo ρ m).bind fun x m1=>if zul x m1=ac then (f ρ m1).bind fun y m2=>zrQ x y m2 else .bad
theorem ztc(s:QE X cl ex o fo)(x:QE X cl ex e fe)(M:M1 X o "pop" apos e cpos):QE X cl ex (.Call (.Attribute o "pop" apos) [e] [] cpos) (zrN fo fe) :=
 ⟨PE.weak (zrf s.out x.out M) fun σ H Q t=>ex3 t fun α ρ m W hr h=>
  tD.use W hr h fun n m1 D d v L g hr1 r f=>by
   obtain⟨c,f⟩:=PQ.if f;have hd:∃a,v = .ref a/\IsD D a:=by
    unfold zul at c;split at c
    ·have r:=r;rw[Rep]at r;obtain⟨a,ha,rfl⟩:=r;split at c
     ·obtain⟨ys,h1,_⟩:=g.dct ha ‹_›;exact⟨a,rfl,.inl ⟨ys,.inl h1⟩⟩
     ·cases c
    ·cases c
   obtain⟨a,rfl,hd⟩:=hd;refine⟨a,rfl,hd,tD.use g hr1 f fun l m2 K I G F w hr2 R b=>?_⟩;have r:=r.mono g F;unfold zrQ at b;split at b
   ·rw[Rep]at r;obtain⟨J,ha,e⟩:=r;cases e;split at b
    ·rename_i k _ kvs z;split at b
     ·rename_i q y;split at b
      ·rename_i dd A;obtain⟨ys,h1,i⟩:=w.dct ha z;obtain⟨V,B,p⟩:=i.val.1 dd A;obtain⟨C,j⟩:=w.set (u := .dK (zhK ys q)) (o := .dct (zjc kvs q)) ha fun E=>⟨_,zaw,(i.mono w E).drop⟩;exact⟨ys,q,V,h1,zg8 y R,B,b _ _ j C _ (p.mono w j)⟩
      ·exact b.elim
     ·exact b.elim
    ·exact b.elim
   ·exact b.elim⟩
end
def zhe:SV:=by walk_at "#=w.uS6sQs-<)<)sP4{mAt`%{n]t3lwy<1<u6<"
def zbM:List D->Sto->Res D:=za2 3 zhe
def zfT:SV:=by walk_at "#Yt{z/)Yt{w]^t{wWvX"
def zbX:List D->Sto->Res D:=za2 2 zfT
def zeY:SV:=by walk_at "#4sBt|ZZxVuOG"
def zaH:List D->Sto->Res D:=za2 1 zeY
def zeb:SV:=by walk_at "#4y.Ct%)Sx#Cu-t|^Ct%)sYt;w/6!"
def zbi:List D->Sto->Res D:=za2 2 zeb
def zdG:SV:=by walk_at "#4w.uSstsPs-1)v0"
def za6:List D->Sto->Res D:=za2 2 zdG
def zdh:SV:=by walk_at "#vPvQs9vKxvO+xuvY8_uTy/y06rvIs9{ovY+wnwet0z9stJtK1J!"
def zaW:List D->Sto->Res D:=za2 5 zdh
def zfR:SV:=by walk_at "#Yt{w]x!lsIt|^vCy1't|t0t{wW%{p'stt5t;w/68"
def za5:List D->Sto->Res D:=za2 2 zfR
def zeZ:SV:=by walk_at "#uTy/y06Lt34y.CsI<^CwosB)<1"
def zbp:List D->Sto->Res D:=za2 4 zeZ
def zdF:SV:=by walk_at "#2{qwet0uQwZ9s'u>3s3sKuUvPt|^t*x$_uVwqt5t;w/6!vZ5t3DtiuWx%x&uXu~twu}<stv[O_uLuUuWx'x(6vZS!v]uXv!_uTx)x*6v^tO*uJ%x+vYuYUv_tdstv`v]w`vauY"
def zda:List D->Sto->Res D:=za2 7 zdF
def zhg:SV:=by walk_at "#4t|"
def za9:List D->Sto->Res D:=za2 1 zhg
def zfS:SV:=by walk_at "#s9{r'st!"
def zaP:List D->Sto->Res D:=za2 1 zfS
end MD
namespace L2
open PySem PySem.Spec PyProof.Rows
section
variable{X:Cx}{N0:List ae}{tg elt iter:ak}{ifs:List ak}{scope:aI}{xs:List ae}{cl:List (ae×ad)}{pos:aw}{tl:TE}{g:TG}{tf:TT}{te:TE}
theorem zq8{i:Nat}{y:ae}{py b:aw}(R:X.calm=ac)(F:X.xe=fun _ _=>False)(U:X.N.Nodup)(m:X.N[i]?=aa y)(hl:X.env.scope.names.lookup y=aa .local)(S:CompOk X N0 scope xs cl)(hl2:PE X iter tl)(K:∀C s H fp,PG (X.comp N0 scope xs cl C s H fp) tg g)(L:∀C s H fp,PIf (X.comp N0 scope xs cl C s H fp) ifs tf)(M:∀C s H fp,PE (X.comp N0 scope xs cl C s H fp) elt te)(n:autoParam (aU (.ListComp elt [⟨tg,iter,ifs,0⟩] scope pos) (aa (.Name y py)) b.line X.env=pure ac) AutoP.a5._auto_1)(hs:autoParam (∀x,bc iter X.env x=pure x) AutoP.a2._auto_1) : PS X (.Assign [.Name y py] (.ListComp elt [⟨tg,iter,ifs,0⟩] scope pos) b) (fun D σ H=>zoe X xs.length tl g tf te σ H fun v H'=>D.nx (σ.set i (aa v)) H'):=by
 intro pins s σ H D I h;rw[exec_Assign_Name_used _ _ _ _ n];refine aj (bp (aj ?_));show wpAny _ X.A (comprehension (.ListComp elt [⟨tg,iter,ifs,0⟩] scope pos) scope X.env _ (newList []) ag (eval iter X.env) (aa (aN (.Name y py) X.env)) >>= fun _=>_) _ _ s;refine aj (aA (cf (use:=aa (aN (.Name y py) X.env)) (Q:=fun _ s'=>SP X pins D .next s') rfl hs S.clos S.kind (fun y m hl=>(S.lo m hl).1) ?_) (fun _ s' hq=>av (av hq)) fun _ _ e=>e);refine thn (zoR (tg:=tg) hl2 pins s σ H _ I h) fun xv s1 h1=>thn h1 fun E s2 V=>?_;obtain⟨it,fp,tn,J,u,rfl,I2,T,l,f2,a,o,kvs,rfl,w,W,⟨m0,w0⟩,turn⟩:=V;refine zfA (RR:=fun A C=>compPost (am X.prog X.w) X.A X.xe (aa (aN (.Name y py) X.env)) (fun _ s'=>SP X pins D .next s') A C) R F S K L M I2 T l f2 w0 turn ?_;intro d C s' ys H' m' t N hn f ⟨e,fin⟩;have ne:a≠d:=fun z=>by rw[z,N]at e;cases e
 obtain⟨O,es,ep,G,hd,hr⟩:=hn;have IC:Inv X (pins++[(C,O)]) σ (upd H' d (.lst ys)) s':=t.pins_of fun p hp=>by
  rcases yJ.mp hp with z|z
  ·exact t.pin p (yC _ z)
  ·have e:=yE.mp z;subst e;exact⟨G,f.1,f.2.1,f.2.2.1,fun v z=>by rw[hd]at z;cases z⟩
 show wpAny (am X.prog X.w) X.A (aN (.Name y py) X.env (.ref d)) _ _ s';refine thn (zoU (pos:=py) U m (.inl hl) (.inr hl) _ s' σ _ (.ref d) (.ref d) (fun j u=>j=σ.set i (aa (.ref d))/\u=upd H' d (.lst ys)) IC rfl ⟨rfl,rfl⟩) ?_;rintro _ B ⟨r,H'',c,Z,Y⟩;subst Z Y;have P:=c.pin (C,O) (yC _ (yC _ (yE.mpr rfl)));have q:=fin d N;refine⟨_,⟨O,es,ep,P.1,hd,hr⟩,fun h' k=>⟨_,_,(ze6 c.unpinned ⟨P.2.1,f.2⟩ k).thaw (by rw[zao ne];exact e) w,q⟩⟩
end
end L2
namespace MD
open PySem PySem.Spec PyProof.Rows L2
section
variable{X:Cx}{N0:List ae}{cl:ae->ad}{ex:XD}{e tg it:ak}{ifs:List ak}{fa fi:EV}{ta:TV}{fr:OI}{pos:aw}{gt:GV}{scope:aI}{xs:List ae}{clo:List (ae×ad)}
theorem zod{σ : L2.St}{H:Hp}{α : List ad}{ρ : En}{m:Sto}{Q:VK}(W:Wd X.K cl α m H)(hr:RepE X.K α H ρ σ)(h:PQ X.K cl ex (zcF xs.length fi gt ta fa ρ m) α H fun d α' _ H'=>∀v,RepE X.K α' H' ρ σ -> Rep X.K α' H' d v->Q v H') : zoe X xs.length (tD X.K cl ex fi) (tDG X.K cl ex gt) (tDT X.K cl ex ta) (tD X.K cl ex fa) σ H Q :=
  tD.use W hr h fun c m1 T d v U s hr1 B e=>by
   unfold zrC at e;split at e
   ·rename_i k;split at e
    ·rename_i kvs M;obtain⟨j,e⟩:=PQ.if e;rw[Rep]at B;obtain⟨a,ha,rfl⟩:=B;obtain⟨ys,h1,C⟩:=s.dct ha M;have N:=RepKV.keysEq C;split at e
     ·rename_i Z m2 f;refine⟨a,ys,rfl,h1,fun o I=>⟨a,o,ys,rfl,I,?_⟩⟩;obtain⟨D,E⟩:=s.set (u := .frz o (.dK ys)) (o := .hid) ha fun _=>⟨o,ys,zaw⟩;refine zjo (R:=fun ds α' m' _=>ds=Z/\m'=m2) (k:=k) (o := .hid) (ds:=kvs.map fun p=>kD p.1) D (hr1.mono s E) (ito_k zaw N) (by rw[yg];exact j) (by rw[f];exact fun _ _ _ _=>⟨rfl,rfl⟩) ?_;rintro ds α' m' H' vs A y L ⟨rfl,rfl⟩ t;have l:=A.frzs a o _ zaw;refine⟨l,fun p hp=>?_⟩;obtain⟨β,rfl,K⟩:=A.pre;have r:(c ++ β)[k]?=aa a:=by rw[yI (ye.mp ha).1];exact ha
      have S:=Same.new (o := .lst vs) hp;have P:=y.same S;have i:upd H' p (.lst vs) a=aa (.frz o (.dK ys)):=S a _ l;have G:=A.trans (Ext.of_same y S);have J:RepKV X.K (c ++ β) (upd H' p (.lst vs)) kvs ys:=(C.mono s E).mono D G;have O:=P.thaw r i J;have F:Ext c T (c ++ β) (upd (upd H' p (.lst vs)) a (.dK ys)):=by
       have E0:=E.trans G;have x:a∈c:=yM ha;refine⟨E0.pre,fun b u g n=>?_,fun b g=>?_,fun b u w g=>?_⟩
       ·rw[zao fun z=>n (by rw[z];exact x)];exact E0.keep b u g n
       ·by_cases z:b=a
        ·rw[z,zaw];exact fun q=>nomatch q
        ·rw[zao z];exact E0.there b g
       ·rw[zao fun z=>by rw[z,h1]at g;cases g];exact E0.frzs b u w g
      exact e _ _ F O _ (hr1.mono s F) ((zbF y hp t).kp (Kp.thaw (yM r) i))
     ·exact e.elim
    ·exact e.elim
   ·exact e.elim
theorem zq4{i:Nat}{y:ae}{py a:aw}(t:X.calm=ac)(k:X.xe=fun _ _=>False)(u:X.N.Nodup)(j:X.N[i]?=aa y)(hl:X.env.scope.names.lookup y=aa .local)(S:CompOk X N0 scope xs clo)(hi:QE X cl ex it fi)(n:∀C s H fp,QG (X.comp N0 scope xs clo C s H fp) cl ex tg gt)(o:∀C s H fp,PIf (X.comp N0 scope xs clo C s H fp) ifs (tDT X.K cl ex ta))(p:∀C s H fp,QE (X.comp N0 scope xs clo C s H fp) cl ex e fa)(f:autoParam (aU (.ListComp e [⟨tg,it,ifs,0⟩] scope pos) (aa (.Name y py)) a.line X.env=pure ac) AutoP.a5._auto_1)(hs:autoParam (∀x,bc it X.env x=pure x) AutoP.a2._auto_1):QS X cl ex (.Assign [.Name y py] (.ListComp e [⟨tg,it,ifs,0⟩] scope pos) a) (zaA (zcF xs.length fi gt ta fa) (gN i)) :=
 ⟨PS.weak (zq8 (g:=tDG X.K cl ex gt) (tf:=tDT X.K cl ex ta) (te:=tD X.K cl ex fa) t k u j hl S hi.out (fun C s H fp=>(n C s H fp).out) o (fun C s H fp=>(p C s H fp).out) f hs) fun D σ H l=>ex3 l fun α ρ m W hr h=>zod W hr (by
  have w:PQ X.K cl ex ((zcF xs.length fi gt ta fa ρ m).bind fun d m1=>(gN i d ρ m1).bind fun b m2=>.ok (.nx b) m2) α H fun F α' _ H'=>zdi X.K D F α' H':=h;refine PQ.mono (Ext.refl W) w.bind fun d c m1 A E z q v hr1 r=>?_;have Q:PQ X.K cl ex (.ok (.nx (ρ.set i (aa d))) m1) c A fun F α' _ H'=>zdi X.K D F α' H':=q;exact PQ.ok z Q _ (hr1.set r))⟩
end
def zec:SV:=by walk_at "#Yt{w]^t{wWvX"
def zbt:List D->Sto->Res D:=za2 1 zec
def zkj:SV:=by walk_at "#vblsIuZ^s-uZ1td6s+u+1DuCuZ)sQ=w.uSs:M*s-Wv`^t-u*t`%y2's:uEtyt%U<lt:UJury3s:UD"
def zcD:List D->Sto->Res D:=za2 6 zkj
end MD
namespace MD
open PySem PySem.Spec PyProof.Rows L2
open PySem.SeqAt
variable{A:ax}{b:ad}
section
variable{prog:aq}{w:al}{E:af->ai->Prop}{s:ai}{Q:af->ai->Prop}
open AutoSeq1 (wpAny_loadPart')
theorem zuu{l:ad}{U u V v:af}(hl:s.heap.IsTuple l #[U,u])(j:s.heap.IsTuple b #[V,v])(i:A.units<aC)(h1:∀(E:af->ai->Prop)(Q:Bool->ai->Prop),Q ac s->wpAny (am prog w) A.in1 (eqBool U V) Q E s)(k:∀(E:af->ai->Prop)(Q:Bool->ai->Prop),Q ac s->wpAny (am prog w) A.in1 (eqBool u v) Q E s)(h:Q (.bool ac) s) : wpAny (am prog w) A (aB .Eq (.ref l) (.ref b)) Q E s:=by
 obtain⟨⟨cls,dd,data,sl⟩,e,f,n,hd⟩:=id hl;obtain⟨⟨C,D,data2,S⟩,H,c,N,a⟩:=id j;simp only at f hd c a;subst f hd c a;refine wpAny_richCompare_same_room (op := .Eq) ⟨_,e,rfl⟩ ⟨_,H,rfl⟩ F.slot_tuple_eq (bw F.slot_tuple_eq ⟨_,e,rfl⟩ F.entry_tuple_eq ?_ (F.args_tuple_eq_2 _ _)) i;obtain⟨hp,g,d,tk,os⟩:=s;have f2:=AutoSeq1.sub_tuple_tuple;show wpAny _ _ (aO.«tuple.__eq__» _) _ _ _
 wp_walk using wpAny_loadPart' e,wpAny_loadPart' H,h1 _ _,k _ _
 exact⟨_,rfl,(fun x=>nomatch x),h⟩
theorem zrM{a:ad}{Q:Bool->ai->Prop}(h:∀(c:af->ai->Prop),c (.bool ac) s->wpAny (am prog w) A (richCompare .Eq (.ref a) (.ref b)) c E s)(q:Q ac s):wpAny (am prog w) A (eqBool (.ref a) (.ref b)) Q E s:=by
 unfold eqBool;refine aY ?_;refine wpAny_ite_split (fun _=>?_) (fun _=>?_)
 ·exact aj (bq (av q))
 ·exact aj (h _ (bo q))
end
variable{X:Cx}{K:yb}{cl:ae->ad}{ex:XD}
section
def plV:V->Bool
 |.non=>ac|.int _=>ac|_=>ag
def zr6(K:yb):R2:=fun vx vy H Q=>∃(p q:ad)(x:V)(a b:ad)(c k:List (L2.Key×V))(e d:List (L2.Key×D))(α : List ad),vx = .ref p/\vy = .ref q/\SqT K H p [x,.ref a]/\SqT K H q [x,.ref b]/\plV x=ac/\Rd H a (.dK c)/\Rd H b (.dK k)/\RepKV K α H e c/\RepKV K α H d k/\zfH e d=ac/\Q (.bl ac) H
theorem zjm{x y:V}{its:List af}(r:Vals [x,y] its):∃u v,its=[u,v]/\RelV x u/\RelV y v:=by
 cases r with
 |cons h r=>cases r with
  |cons h' r=>cases r;exact⟨_,_,rfl,h,h'⟩
theorem op_eqT(hu:X.A.units+66<aC):OpR X (aB .Eq) (zr6 X.K):=by
 intro pins s σ H L K v u Q I A z h;obtain⟨p,q,x,a,b,O,N,da,db,α,rfl,rfl,y,T,P,h1,C,k,j,S,hq⟩:=h;cases A;cases z;obtain⟨i1,o,w1,_⟩:=I.tuple y;obtain⟨W,n,w,_⟩:=I.tuple T;obtain⟨M,U,rfl,l,F⟩:=zjm o;obtain⟨J,Y,rfl,f1,f2⟩:=zjm n;cases F;cases f2;obtain⟨G,ha,m,c,g⟩:=ze5 I.hok h1;obtain⟨Z,B,V,R,D⟩:=ze5 I.hok C;rw[zfH,yy,decide_eq_true_eq]at S;have el:m.length=V.length:=by rw[<- c.length,<- R.length,<- k.length,<- j.length];exact S.1
 have e:X.A.in1.in1.units+64<aC:=by have:X.A.in1.in1.units=X.A.units+2:=rfl;omega
 have d:X.A.in1.units<aC:=by have:X.A.in1.units=X.A.units+1:=rfl;omega
 refine zuu w1 w (by omega) (fun E Q hq=>?_) (fun E Q hq=>zrM (fun Q' f=>?_) hq) ⟨.bl ac,H,I,rfl,hq⟩
 ·cases x with
  |non=>cases l;cases f1;exact EqAt.same _ _ _ _ _ hq|int i=>
   obtain⟨t,rfl⟩:=l;obtain⟨t',rfl⟩:=f1;exact EqAt.int_int i t i t' _ _ _ _ (by simpa using hq)
  |_=>cases P
 ·refine ydS (r:=ac) ha B g D d (fun _=>zlM I e j R k c S.2) ?_;rw[el];simpa using f
theorem hu66{k:Nat}(hr:Room k A):A.units+66<aC:=by have:=hr.un;omega
def plD(a b:D):Bool:=match a,b with
 |.non,.non=>ac|.int i,.int j=>decide (i=j)|_,_=>ag
theorem ztr{α : List ad}{H:Hp}{a b:D}{v u:V}(h:plD a b=ac)(R:Rep K α H a v)(r:Rep K α H b u):v=u/\plV v=ac:=by
 unfold plD at h;split at h
 ·rw[Rep]at R r;subst R r;exact⟨rfl,rfl⟩
 ·rw[Rep]at R r;subst R r;exact⟨by rw[of_decide_eq_true h],rfl⟩
 ·cases h
def zou(x y:D)(m:Sto):Bool:=match x,y with
 |.tup [a,c],.tup [b,d]=>plD a b&&zgv c d m|_,_=>ag
def eqT(x y:D)(m:Sto):Res D:=if zou x y m=ac then .ok (.bl ac) m else .bad
theorem od_eqT:OpD K cl ex (zr6 K) eqT:=fun α m H x y u V Q W R r h=>by
 obtain⟨e,hq⟩:=PQ.if h;clear h;unfold zou at e;split at e
 ·rename_i a c b d;rw[yy]at e;obtain⟨s,E⟩:=e;rw[Rep]at R r;obtain⟨p,xs,rfl,h1,i⟩:=R;obtain⟨q,ys,rfl,l,g⟩:=r;rw[RepL]at i g;obtain⟨v,z,rfl,a1,a2⟩:=i;obtain⟨B,w1,rfl,b1,b2⟩:=g;rw[RepL]at a2 b2;obtain⟨A,z2,rfl,a3,a4⟩:=a2;obtain⟨U,w,rfl,b3,b4⟩:=b2;rw[RepL]at a4 b4;subst a4 b4;obtain⟨rfl,P⟩:=ztr s a1 b1;obtain⟨a,b,j,k,t,D,α',rfl,rfl,g1,o,g3,n,G,_⟩:=zhT (f:=id) (Q:=fun _ _=>True) W a3 b3 E trivial;exact⟨p,q,v,a,b,j,k,t,D,α',rfl,rfl,h1.sq,l.sq,P,g1,o,g3,n,G,PQ.ok W hq _ zkV⟩
 ·cases e
end
theorem hu66H{k:Nat}(hr:ze8 k A):A.units+66<aC:=hu66 (A:={ A with handled:=none }) hr
def gPu(g:GV):GV:=fun d ρ m=>(g d ρ m).pu
variable{pos:aw}
section
variable{es rs:List ae}{h:ae}{e tg:ak}{a b bst b0:ao}{bs suite:List ao}{f:EV}{gt:GV}{fb fs gs:SV}{np hp:aw}
theorem yb_asg(o:X.xe=fun _ _=>False)(w:YE X cl e f)(u:QG X cl X0 tg gt)(hs:autoParam (bD [tg] e pos.line X.env=pure ag) AutoP.a3._auto_1)(p:autoParam (bE [tg] e X.env=pure none) AutoP.a3._auto_1)
  (h1:autoParam ((aV [tg] X.env).map (·.2)=[aN tg X.env]) AutoP.a3._auto_1):YB X cl (.Assign [tg] e pos) (zaA f (gPu gt)):=⟨fun pins s σ H D W I t=>by
 refine wpAny_Assign_stores (aA (w.out pins s σ H (fun v k=>tDG X.K cl X0 gt v σ k fun a H'=>D.nx a H') W I (ex3 t fun α ρ m B hr h=>tD.use B hr h fun j m1 k d v J A hr1 r h1=>?_)) (fun v s1 ⟨x,k,C,R,Q⟩=>?_) fun _ _ z=>z) hs p
 ·refine⟨j,ρ,m1,d,A,hr1,r,?_⟩;have g:PQ X.K cl W ((gPu gt d ρ m1).bind fun i m2=>.ok (.nx i) m2) j k fun F α' _ H'=>zdi X.K D F α' H':=h1;unfold gPu at g;cases b:gt d ρ m1 with
  |bad=>rw[b]at g;exact g.elim|exc c m2=>rw[b]at g;exact g.elim|ok i m2=>
   rw[b]at g;exact fun l E G y a n=>g l E G y a n
 ·rw[h1];exact aA (u.out pins s1 σ k x v _ C R Q) (fun _ s2 q=>q) fun _ _ z=>by rw[o]at z;exact z.elim⟩
structure YBs(X:Cx)(cl:ae->ad)(sts:List ao)(f:SV):Prop where
 out:∀(pins:List (ad×ar))(s:ai)(σ : L2.St)(H:Hp)(D:Ends)(W:XD),Inv X pins σ H s->tDS X.K cl W f D σ H->wpAny (am X.prog X.w) X.A (execs sts X.env) (SP X pins D) (XP X cl pins σ W) s
theorem zsC(l:X.xe=fun _ _=>False)(ha:YB X cl a fs)(o:QS X cl X0 b gs):YBs X cl [a,b] (zan fs (sPu gs)):=⟨fun pins s σ H D W I n=>by
 refine bY (thn (ha.out pins s σ H { D with nx:=fun e k=>tDS X.K cl W (sPu gs) D e k } W I ?_) fun f s1 q=>?_)
 ·exact ex3 n fun α ρ m j hr h=>⟨α,ρ,m,j,hr,PQ.mono (Ext.refl j) h.bind fun F i m1 k E w q=>by
   cases F with
   |nx c=>exact fun e hr1=>⟨i,c,m1,w,hr1,q⟩|rt d=>exact PQ.ok w q|bk c=>exact PQ.ok w q|ct c=>exact PQ.ok w q⟩
 ·cases f with
  |next=>
   obtain⟨g,H',p,q⟩:=q;refine aA (zoK o.out pins s1 g H' D p q.pu) (fun _ _ z=>z) fun _ _ z=>by rw[l]at z;exact z.elim
  |ret v=>exact q|brk=>exact q|cont=>exact q⟩
theorem zs7(O:X.xe=fun _ _=>False)(hk:X.stack=X.env::X.outer)(T:TxE X.K cl es rs)(C:h∈es)(hg:Gl X h)(hb:YBs X cl (B::bs) fb)(hs:∀e,QSs (X.marked e) cl X0 (b0::suite) fs)(G:autoParam ((h==("__debug__" : ae))=ag) AutoP.a1._auto_1) :
  QS X cl X0 (.Try (B::bs) [.ExceptHandler (aa (.Name h np)) none (b0::suite) hp] [] [] pos) (zna es h fb fs):=⟨fun pins s σ H D I A=>by
 rw[O];obtain⟨α,ρ,m,L,hr,hq⟩:=A;refine wpAny_Try_except ?_;unfold zna at hq;have o:∀W:XD,tDS X.K cl W fb D σ H->(∀v s',XP X cl pins σ W v s'->wpAny (am X.prog X.w) X.A (bK v X.env) (fun _ d=>wpAny (am X.prog X.w) X.A (bA v none) (fun _ b=>wpAny (am X.prog X.w) X.A (handleBy v X.env [.ExceptHandler (aa (.Name h np)) none (b0::suite) hp]) (SP X pins D) (fun _ _=>False) b) (fun _ _=>False) d) (fun _ _=>False) s') →
   wpAny (am X.prog X.w) X.A (execs (B::bs) X.env) (fun f S=>match f with
    |.next=>wpAny (am X.prog X.w) X.A (execs [] X.env) (SP X pins D) (fun _ _=>False) S|f=>SP X pins D f S) (fun e S=>wpAny (am X.prog X.w) X.A (bK e X.env) (fun _ d=>wpAny (am X.prog X.w) X.A (bA e none) (fun _ b=>wpAny (am X.prog X.w) X.A (handleBy e X.env [.ExceptHandler (aa (.Name h np)) none (b0::suite) hp]) (SP X pins D) (fun _ _=>False) b) (fun _ _=>False) d) (fun _ _=>False) S) s:=fun W hW r=>by
  refine aA (hb.out pins s σ H D W I hW) (fun f s1 q=>?_) r;cases f with
  |next=>exact bC q|ret v=>exact q|brk=>exact q|cont=>exact q
 cases n:fb ρ m with
 |bad=>rw[n]at hq;exact hq.elim|ok K m1=>
  rw[n]at hq;refine o (fun _ _ _ _=>False) ⟨α,ρ,m,L,hr,by rw[n];exact hq⟩ fun v s' ⟨e,H',c,α',m',_,_,_,w,z⟩=>(z α' H' (Ext.refl w) w).elim
 |exc c m1=>
  rw[n]at hq;have x:PQ X.K cl X0 (if (es.contains c.cls&&isX c.cls h)=ac then fs ρ m1 else .bad) α H fun K α' _ H'=>zdi X.K D K α' H':=hq;obtain⟨g,t⟩:=PQ.if x;rw[yy,List.contains_iff_mem]at g;have hX:=g.2;refine o (fun c' k m2 p=>c'=c/\m2=m1/\Ext α H k p) ⟨α,ρ,m,L,hr,by rw[n];exact fun k p E2 _=>⟨rfl,rfl,E2⟩⟩ fun v s' ⟨e,H',c',α',m',hv,I1,⟨dd,xs,hns,F,hxd,hrl⟩,w,z⟩=>?_;obtain⟨rfl,rfl,E1⟩:=z α' H' (Ext.refl w) w;subst hv;refine zj4 I1 hk rfl F fun s2 p hos N M P=>?_;have Es:=Ext.of_same w N;have U:=w.same N;have J:c'.cls∈es:=g.1;obtain⟨oe,vs,ho,y,_⟩:=P.lies;have Tr:=T.row C;have ask:=Tr.1;unfold askB at ask;simp only[yy,beq_iff_eq]at ask;refine wpAny_handleBy_cons ?_ (fun z=>nomatch z);refine codeAny_handlers_test ?_;have hm:X.mg h=aa (.ref (cl h)):=yb8 I.mod.kin I.mod.glob (T.ns h C);refine zg5 (X:=X.marked e) (M.mark e) hg hm ?_ G;refine zlC M.kIn ho y ask.1.1.1.1.1.1.2 ask.2 ask.1.1.1.1.2 ((T.row J).2.2.2 h C).2 ?_;rw[hX];refine codeAny_handlers_suite ?_;refine znO (M.mark e) P fun Y _ I3=>?_;have E:Ext α H α' p:=E1.trans Es;have l:=(hs e).out pins Y σ p D I3 ⟨α',_,_,U,hr.mono L E,PQ.mono E t fun K R m3 H3 E3 W3 q=>q⟩;refine aA l (fun f s5 q=>?_) fun _ _ z=>by rw[show (X.marked e).xe=X.xe from rfl,O]at z;exact z.elim
  cases f with
  |next=>obtain⟨a,j,i,Q⟩:=q;exact⟨a,j,i.unmark I.ok.hd,Q⟩
  |brk=>obtain⟨a,j,i,Q⟩:=q;exact⟨a,j,i.unmark I.ok.hd,Q⟩
  |cont=>obtain⟨a,j,i,Q⟩:=q;exact⟨a,j,i.unmark I.ok.hd,Q⟩
  |ret u=>obtain⟨V,a,j,i,Z,Q⟩:=q;exact⟨V,a,j,i.unmark I.ok.hd,Z,Q⟩⟩
end
def zck:SV:=by walk_at "#2{s{twet0{uuQwZ9s'u>3s3YsUsfluUvPt|^t*x$_uVwqt5t;w/6!vZ5t3DYsUsfuWx%x&uXu~wfsUsflu}<stv[OwfsUtyuUuWx'x(6vZS!v]uXv!wfsUs1sYx)x*6v^tO*YsUsflt:%x+vYuYUv_sUtdstv`YsUursYz:w`sUvauY"
def zaI:List D->Sto->Res D:=za2 7 zck
def zhi:SV:=by walk_at "#tutJuAs[sQtP1sl+y-t.)uHv/5vHs1w$v<v/5uwsCv6"
def zbO:List D->Sto->Res D:=za2 4 zhi
def ze2:SV:=by walk_at "#vPv04<DuCuZv2uOGt-4mJsnsB<Js7Zvc5"
def zbh:List D->Sto->Res D:=za2 5 ze2
def zkm:SV:=by walk_at "#uM*:s5souOG'uZ!uLuUlsIvdt*x$_2{vuFv^[Evbs-cStFu-vds-csBtqWt*u~twu}cs:v[t)twsIv0uVy4u[tOF=uSs:Ms*s-js*cjs*MKvbtQuRvEvLsBc%w0t4!ZvcStG%w1uGu]t*v!_2w0t4vT=Zs:tTMfuVy5u[s5vcGsZgftKctTvVuJU%w-u[u^!v_tds:cvWtG%w1uGu]vau^!"
def zdU:List D->Sto->Res D:=za2 13 zkm
def zh7:SV:=by walk_at "#uM/3'^'tt!sKu-vQxq/3s5ZuD)Gs5ZuDtR_2y,'s[sZOvStDLvB1s7UsL+w-'s[v^8"
def zcW:List D->Sto->Res D:=za2 7 zh7
def zhk:SV:=by walk_at "#tut5ve)!t5vf)s]92tmsR1s+y$t.1uHvMwTwu'^0:u:tosR1s+wws]/y6sVy7w2w2tGy8u)uyw3)trsUx^4Cy9slt5ve)!t5vf)8<"
def zcp:List D->Sto->Res D:=za2 5 zhk
def zfX:SV:=by walk_at "#2tmdddwdssuK+uvsZ8s]32y1dtKsBt1tr5UvS2xTsRz7'^!C{w%{x+uv'soG8I/[:uLsIu_vgvLsStIu`s1^v>D2y:uasLvUW[EuLsIvdtFt$sSssu`xdy;]ru]tSuTuyy<w31t)vV2y=uasLvUW!uQKs's)s'fs's*s3vRy>w_+y?OLt4gs)gfgs*8tS4x#Ct$sYvevJu_u+CyAsYvfvJu_t^"
def zbZ:List D->Sto->Res D:=za2 14 zfX
def zp5:SV:=by walk_at "#2{y][At+t2tItJ2{zL+usLu:ssss0fuPuQ9s'u>v=s3tuOsZsR{{UuHI/sl+y!LO8sL[:uMEF+{|u){}tn!'uxsVt&vgt&t^vX!2w&+{~LOs]Ku*t2+usLu:tv0x~vO8vTsq%wjL0yBu`xeyCyDc!s1uxsVt&vgt&t^vXMFDvRyEuau^t4!tSu*t2+usLu:s6s6s6dx]tI0F8[fuIuzuR+yFLOsrKvMtv8xYy%"
def zmG:List D->Sto->Res D:=za2 13 zp5
variable{N:List ae}
theorem sco{P:List ae}{sc:aI}(a:autoParam (sc.kind = .function) AutoP.a3._auto_1)(b:autoParam (sc.isCoroutine=ag) AutoP.a3._auto_1)(c:autoParam (sc.isGenerator=ag) AutoP.a3._auto_1)(d:autoParam (N.Nodup) AutoP.a6._auto_1)(e:autoParam (N.take P.length=P) AutoP.a3._auto_1)
  (f:autoParam (∀x∈P,sc.names.lookup x=aa .local∨sc.names.lookup x=aa .cell) AutoP.a6._auto_1) (g:autoParam (∀y∈sc.names,y.2 ≠ .free) AutoP.a6._auto_1):FnScope N P sc:=⟨a,b,c,d,e,f,g⟩
theorem qxi{a b:ak}{F f:EV}{k:Nat}(hr:Room k X.A)(ha:QE X cl ex a F)(h:QE X cl ex b f)(hs:autoParam (zl1 b) AutoP.a7._auto_1):QE X cl ex (.Subscript a b pos) (eOp ixD F f) :=
 qe_ix (ix_A (zlL hr)) od_ix ha h hs
variable{x:ae}
theorem qfn{e:ak}{es:List ak}{fr:AV}{p:aw}{k n j:Nat}{g:List D->Sto->Res D}(h:FnX X.prog X.w X.K X.mg X.base cl x k n g)(hr:Room j X.A)
  (ha:QA X cl X0 (e::es) fr) (hn:autoParam (n=(e::es).length) AutoP.a3._auto_1) (c:autoParam (k<=j) AutoP.a1._auto_1) (d:autoParam (Gl X x) AutoP.a3._auto_1) (H:autoParam (∀ρ m ds m1,fr ρ m = .ok ds m1->ds.length=(e::es).length) AutoP.a8._auto_1) (b:autoParam ((x==("__debug__" : ae))=ag) AutoP.a1._auto_1) (f:autoParam (ap (e::es) X.env=(ag,eval e X.env)::ap es X.env) AutoP.a3._auto_1) (a:autoParam ((az pos (ap es X.env)).any (·.1)=ag) AutoP.a3._auto_1) :
  QE X cl X0 (.Call (.Name x p) (e::es) [] pos) (eFn g fr):=qe_fn h hn (hr.mono c) d ha H b f a
variable{mg:ae->Option af}{qual:ae}{st:ao}{f:ad}{fd:aF}{ps:List ae}{body:SV}
theorem mkx(P:aq)(w:al)(base:au)(cl:ae->ad)(k:Nat)(F:Fun K x qual st f fd)(b:Binds K fd ps [])(m:mg x=aa (.ref f))(S:FnScope N ps (zah st))
  (h:∀(cdv:af)(A:ax)(outer:List yP)(s:ai)(H:Hp)(E:XK),Room k (A.deeper (aH qual (zah st) s.heap.objs.size f cdv))->QSs (zkW CX0 P w K mg base N qual (zah st) f cdv A outer s H E).nox cl X0 (zbj st) body):FnX P w K mg base cl x (k+1) ps.length (za2 N.length body):=FnX.mk' F b m S rfl h
theorem mkm(P:aq)(w:al)(base:au)(cl:ae->ad)(k:Nat){c:ae}(F:Fun K x qual st f fd)(b:Binds K fd ps [])(m:Meth K (cl c) x f)(S:FnScope N ps (zah st))
  (h:∀(cdv:af)(A:ax)(outer:List yP)(s:ai)(H:Hp)(E:XK),Room k (A.deeper (aH qual (zah st) s.heap.objs.size f cdv))->QSs (zkW CX0 P w K mg base N qual (zah st) f cdv A outer s H E).nox cl X0 (zbj st) body):FnM P w K mg base cl c x (k+1) ps.length (za2 N.length body):=FnM.mk' F b m S rfl h
theorem _root_.L2.Fun.bindA(F:Fun K x qual st f fd)
  (h:∀(kV doc pm:af)(an:Option ad)(cdv ct:af)(us:List af),us.length=ps.length->bindArgs (ya3 x qual (zfz st) (zbj st) (zah st) .none kV doc pm an cdv ct) ⟨us,[]⟩=pure (ps.zip us):=by intro _ _ _ _ _ _ us hl;first | (obtain rfl:=us0 hl;rfl) | (obtain⟨_,rfl⟩:=us1 hl;rfl) | (obtain⟨_,_,rfl⟩:=us2 hl;rfl) | (obtain⟨_,_,_,rfl⟩:=us3 hl;rfl) | (obtain⟨_,_,_,_,rfl⟩:=us4 hl;rfl) | (obtain⟨_,_,_,_,_,rfl⟩:=us5 hl;rfl) | (obtain⟨_,_,_,_,_,_,rfl⟩:=us6 hl;rfl)):Binds K fd ps []:=F.binds h
end MD
namespace Mth
end Mth
namespace MD
open PySem PySem.Spec PyProof.Rows L2
variable{K:yb}
section
variable{X:Cx}{cl:ae->ad}{ex:XD}
end
theorem zmw{a:ad}{o:ar}:∀{K:yb},K.lookup a=aa o->(a,o)∈K
 |[],h=>nomatch h| (b,u)::K,h=>by
  rw[yaJ]at h;cases H:a==b with
  |true=>
   rw[H]at h;cases h;rw[eq_of_beq H];exact yan
  |false=>
   rw[H]at h;exact yK _ (zmw h)
theorem Kof_in(n:Nat)(h:au):(Kof n h).In h:=fun a o e=>by
 obtain⟨b,_,c⟩:=ycj.mp (zmw e);obtain⟨u,H,E⟩:=yak.mp c;cases E;exact H
theorem fun_of{f:ad}{x q:ae}{st:ao}(h:fnV K f=(aa (x,q,zfz st,zbj st,zah st),ac)):∃fd,Fun K x q st f fd:=by
 unfold fnV at h;split at h
 ·rename_i oc od X Q ps b sc g D kV doc pm an C ct bl sl hl;simp only[ycV,yaq,yy]at h;obtain⟨⟨rfl,rfl,rfl,rfl,rfl⟩,⟨⟨h1,c⟩,H⟩,a⟩:=h;have d:=ydT h1;have E:=ydT c;subst d E;have e:D = .none:=by
   unfold zn5 at H;split at H
   ·rfl
   ·cases H
  subst e;refine⟨_,⟨⟨oc,od,kV,doc,pm,an,C,ct,sl,rfl,hl,a⟩,?_⟩⟩;unfold yaw;dsimp only;rw[hl]
 ·cases h
variable{τ υ : Type}
theorem zrb{f : τ -> υ}{l:List τ}{e:List υ}(h:l.map f=e)(i:Nat){x : τ}{v : υ}(a:l[i]?=aa x)(H:e[i]?=aa v):f x=v:=by
 rw[<- h,yz,a]at H;exact yG H
variable{α β γ : Type}
theorem both{r:Option α}{f:α -> β}{g:α -> γ}{a : β}{b : γ}(h1:r.map f=aa a)(h:r.map g=aa b):r.map (fun s=>(f s,g s))=aa (a,b):=by
 cases r with
 |none=>cases h1|some s=>
  simp only[yaC,yaq]at h1 h ⊢;rw[h1,h]
theorem zpR{r:Option α}{g:α -> τ -> υ}{l1 l2:List τ}{E e:List υ}(h1:r.map (fun s=>l1.map (g s))=aa E)(h:r.map (fun s=>l2.map (g s))=aa e):r.map (fun s=>(l1++l2).map (g s))=aa (E++e):=by
 cases r with
 |none=>cases h1|some s=>
  simp only[yaC,yaq]at h1 h ⊢;rw[yN,h1,h]
variable{C:Type}{d:D}
theorem both4{A B D:Type}{r:Option α}{f1:α -> A}{f2:α -> B}{f3:α -> C}{f4:α -> D}{a:A}{b:B}{c:C}{d:D}(h1:r.map f1=aa a)(h:r.map (fun s=>(f2 s,f4 s))=aa (b,d))(H:r.map f3=aa c):r.map (fun s=>(f1 s,f2 s,f3 s,f4 s))=aa (a,b,c,d):=by
 cases r with
 |none=>cases h1|some s=>
  simp only[yaC,yaq,ycV]at h1 h H ⊢;exact⟨h1,h.1,H,h.2⟩
theorem parts4{B D:Type}{r:Option α}{f:α -> Seen×B×C×D}{g:Seen×B×C×D}(k:Nat)(ha:r.map (fun s=>(f s).1.defs.take k)=aa (g.1.defs.take k))(i:r.map (fun s=>(f s).1.defs.drop k)=aa (g.1.defs.drop k))(H:r.map (fun s=>(f s).1.ownsOk)=aa g.1.ownsOk)(hn:r.map (fun s=>(f s).1.names)=aa g.1.names)(h1:r.map (fun s=>((f s).1.globalsOk,(f s).1.builtinsOk,(f s).1.noLimit,(f s).1.gens))=aa (g.1.globalsOk,g.1.builtinsOk,g.1.noLimit,g.1.gens))(h:r.map (fun s=>(f s).2.1)=aa g.2.1)(e:r.map (fun s=>(f s).2.2.1)=aa g.2.2.1)(a:r.map (fun s=>(f s).2.2.2)=aa g.2.2.2):r.map f=aa g:=by
 cases r with
 |none=>cases h1|some s=>
  simp only[yaC,yaq,ycV]at ha i H hn h1 h e a ⊢;have E:(f s).1.defs=g.1.defs:=by rw[<- yb9 k (f s).1.defs,ha,i,yb9]
  generalize f s=x at *;obtain⟨⟨a1,a2,a3,a4,a5,a6,a7⟩,b,c,d⟩:=x;obtain⟨⟨b1,b2,b3,b4,m,l,j⟩,n,c',d'⟩:=g;simp only at E H hn h1 h e a;obtain⟨rfl,rfl,rfl,rfl⟩:=h1;subst E H hn h e a;rfl
theorem walk_ofY{l:ycE}{n k N:Nat}{q:aq}{loose:List ae}{XP:(ae->Option af)->au->Prop}{d:DefRec}{CX:CXT}{sp:yb->Sp}{x:ae}{Yf:yb->α}{E:α}(hn:l.most=aa n)(p:n<=sizeLine)(z:d.params.defaults=[])(hr:Room k bj)(F:∀(K:yb),Yf K=E->∀(w:al)(mg:ae->Option af)(D:ad)(h:au),K.In h->h.Ns aE mg->mg d.name=aa (.ref D)->∃fd:aF,(∀(s:ai)(u:af),bu s fd ⟨[u],[]⟩ [(x,u)])/\∀base:au,K.In base->base.Ns aE mg->FnOk l.prog w K mg base CX k D fd [x] (sp K))(j:∀(K:yb)(H:Hp)(a:ad)(ns:List Int),ns.length<=n->Only H->SqL K H a (ns.map V.int)->sp K [.ref a] H (fun v _=>v = .bl ac) fun _ _ _=>False)(B:∀(H:Hp)(s:ai)(e:af)(s':ai),CX [] H s (fun _ _ _=>False) e s'->False) : PySem.W.WalkX q loose XP (fun s=>Yf (Kof N s.heap)) (fun _=>E) l.row.toRowW d [] (fun f vs=>ybT f vs):=by
 intro w s₀ S mg mb G y a o pm P doc O kV I hd A M r J args b C L c g m i t;have Q:(Kof N s₀.heap).In S.heap:=(Kof_in N s₀.heap).keeps L.keeps;exact L2.walk_ofK (YP:=fun w h=>(Kof N s₀.heap).In h) (K:=fun _=>Kof N s₀.heap) hn p z hr (fun w h Y=>Y) (F (Kof N s₀.heap) y) j B w s₀ S mg mb G Q a o pm P doc O kV I hd A M r J args b C c g m i t
section
def kThen(f:α -> Sto->Res β)(g : β -> Sto->Res γ):α -> Sto->Res γ := fun a m=>(f a m).bind g
theorem then_at(f:α -> Sto->Res β)(g : β -> Sto->Res γ)(a:α)(m:Sto):kThen f g a m=(f a m).bind g:=rfl
theorem bind_then(r:Res α)(f:α -> Sto->Res β)(g : β -> Sto->Res γ):(r.bind f).bind g=r.bind (kThen f g):=Res.bind_assoc r f g
end
section
variable(m:Sto)(ρ : En)(d:D)(f g:SV)(fa fb fc:EV)(fr:AV)(c t:TV)(h:GV)
def kSeq(g:SV):Fl->Sto->Res Fl:=fun fl m1=>match fl with
 |.nx a=>g a m1|fl=>.ok fl m1
theorem seq_at:zan f g ρ m=(f ρ m).bind (kSeq g):=rfl
theorem seq_nx:kSeq g (.nx ρ) m=g ρ m:=rfl
theorem seq_rt:kSeq g (.rt d) m = .ok (.rt d) m:=rfl
theorem nil_at:za0 ρ m = .ok (.nx ρ) m:=rfl
def kRt:D->Sto->Res Fl:=fun d m=>.ok (.rt d) m
theorem ret_at:zaE fa ρ m=(fa ρ m).bind kRt:=rfl
theorem rt_at:kRt d m = .ok (.rt d) m:=rfl
theorem retN_at:sRetN ρ m = .ok (.rt .non) m:=rfl
def kDrop(ρ : En):D->Sto->Res Fl:=fun _ m=>.ok (.nx ρ) m
theorem drop_at:zbU fa ρ m=(fa ρ m).bind (kDrop ρ):=rfl
theorem kdrop_at:kDrop ρ d m = .ok (.nx ρ) m:=rfl
def kIf(f g:SV)(ρ : En):Bool->Sto->Res Fl:=fun b m=>if b=ac then f ρ m else g ρ m
theorem if_at:sIf c f g ρ m=(c ρ m).bind (kIf f g ρ):=rfl
theorem kif_at(b:Bool):kIf f g ρ b m=if b=ac then f ρ m else g ρ m:=rfl
def kAsg(h:GV)(ρ : En):D->Sto->Res Fl:=fun d m1=>(h d ρ m1).bind fun a m2=>.ok (.nx a) m2
def kNx:En->Sto->Res Fl:=fun ρ m=>.ok (.nx ρ) m
theorem asg_at:zaA fa h ρ m=(fa ρ m).bind (kAsg h ρ):=rfl
theorem kasg_at:kAsg h ρ d m=(h d ρ m).bind kNx:=rfl
theorem nx_at:kNx ρ m = .ok (.nx ρ) m:=rfl
theorem gN_at(i:Nat):gN i d ρ m = .ok (ρ.set i (aa d)) m:=rfl
theorem gs_nil:zc6 [] ρ m = .ok ρ m:=rfl
theorem gs_cons(g:List D->En->Sto->Res En)(r:List D):zaC h g (d::r) ρ m=(h d ρ m).bind (g r):=rfl
theorem gT_at(n:Nat)(g:List D->En->Sto->Res En)(ds:List D):gT n g (.tup ds) ρ m=if ds.length=n then g ds ρ m else .bad:=rfl
def kPar(i j:Nat)(ρ : En):List D->Sto->Res Fl:=fun ds m1=>match ds with
 |[x,y]=>.ok (.nx ((ρ.set i (aa x)).set j (aa y))) m1|_=>.bad
theorem par_at(i j:Nat):zov i j fr ρ m=(fr ρ m).bind (kPar i j ρ):=rfl
theorem kpar_at(i j:Nat)(x y:D):kPar i j ρ [x,y] m = .ok (.nx ((ρ.set i (aa x)).set j (aa y))) m:=rfl
def kFor(h:GV)(f:SV)(ρ : En):List D->Sto->Res Fl:=fun ds m1=>zeP h f ds ρ m1
theorem for_at:zgI fr h f ρ m=(fr ρ m).bind (kFor h f ρ):=rfl
theorem kfor_at(ds:List D):kFor h f ρ ds m=zeP h f ds ρ m:=rfl
theorem eC_at:eC d ρ m = .ok d m:=rfl
def kOp(g:D->D->Sto->Res D)(f:EV)(ρ : En):D->Sto->Res D:=fun x m1=>(f ρ m1).bind (g x)
theorem op_at(g:D->D->Sto->Res D):eOp g fa fb ρ m=(fa ρ m).bind (kOp g fb ρ):=rfl
theorem kop_at(g:D->D->Sto->Res D):kOp g fb ρ d m=(fb ρ m).bind (g d):=rfl
theorem un_at(g:D->Sto->Res D):eUn g fa ρ m=(fa ρ m).bind g:=rfl
theorem fn_at(g:List D->Sto->Res D):eFn g fr ρ m=(fr ρ m).bind g:=rfl
def kIfE(f g:EV)(ρ : En):Bool->Sto->Res D:=fun b m=>if b=ac then f ρ m else g ρ m
theorem ife_at:eIf c fa fb ρ m=(c ρ m).bind (kIfE fa fb ρ):=rfl
theorem kife_at(b:Bool):kIfE fa fb ρ b m=if b=ac then fa ρ m else fb ρ m:=rfl
theorem aNil_at:zaj ρ m = .ok [] m:=rfl
def kCons(fr:AV)(ρ : En):D->Sto->Res (List D):=fun x m1=>(fr ρ m1).bind fun xs m2=>.ok (x::xs) m2
def zsg(x:D):List D->Sto->Res (List D):=fun xs m2=>.ok (x::xs) m2
theorem aCons_at:zac fa fr ρ m=(fa ρ m).bind (kCons fr ρ):=rfl
theorem kcons_at:kCons fr ρ d m=(fr ρ m).bind (zsg d):=rfl
theorem kcons2_at(xs:List D):zsg d xs m = .ok (d::xs) m:=rfl
theorem asB_at(b:Bool):asB (.bl b) m = .ok b m:=rfl
theorem tV_at:tV fa ρ m=(fa ρ m).bind asB:=rfl
def kAndT(t:TV)(ρ : En):Bool->Sto->Res Bool:=fun b m=>if b=ac then t ρ m else .ok ag m
theorem andT_at:zci c t ρ m=(c ρ m).bind (kAndT t ρ):=rfl
theorem kandT_at(b:Bool):kAndT t ρ b m=if b=ac then t ρ m else .ok ag m:=rfl
def kOrT(t:TV)(ρ : En):Bool->Sto->Res Bool:=fun b m=>if b=ac then .ok ac m else t ρ m
theorem orT_at:zoc c t ρ m=(c ρ m).bind (kOrT t ρ):=rfl
theorem korT_at(b:Bool):kOrT t ρ b m=if b=ac then .ok ac m else t ρ m:=rfl
def kNotT:Bool->Sto->Res Bool:=fun c m1=>.ok (!c) m1
theorem notT_at:zf2 c ρ m=(c ρ m).bind kNotT:=rfl
theorem knotT_at(b:Bool):kNotT b m = .ok (!b) m:=rfl
def kAnd(f:EV)(ρ : En):D->Sto->Res D:=fun c m1=>(asB c m1).bind fun c m1=>if c=ac then f ρ m1 else .ok (.bl ag) m1
theorem and_at:zst fa fb ρ m=(fa ρ m).bind (kAnd fb ρ):=rfl
theorem kand_at(b:Bool):kAnd fb ρ (.bl b) m=if b=ac then fb ρ m else .ok (.bl ag) m:=rfl
def kOr(f:EV)(ρ : En):D->Sto->Res D:=fun c m1=>(asB c m1).bind fun c m1=>if c=ac then .ok (.bl ac) m1 else f ρ m1
theorem or_at:eOr fa fb ρ m=(fa ρ m).bind (kOr fb ρ):=rfl
theorem kor_at(b:Bool):kOr fb ρ (.bl b) m=if b=ac then .ok (.bl ac) m else fb ρ m:=rfl
def kNot:D->Sto->Res D:=fun c m1=>(asB c m1).bind fun c m1=>.ok (.bl (!c)) m1
theorem not_at:eNot fa ρ m=(fa ρ m).bind kNot:=rfl
theorem knot_at(b:Bool):kNot (.bl b) m = .ok (.bl (!b)) m:=rfl
theorem aIt_at:aIt fa ρ m=(fa ρ m).bind zlY:=rfl
theorem sq_t(ds:List D):zlY (.tup ds) m = .ok ds m:=rfl
theorem sq_l(ds:List D):zlY (.lst ds) m = .ok ds m:=rfl
theorem sq_s(z:ae):zlY (.str z) m = .ok (zdZ z) m:=rfl
theorem sq_c(ds:List D):zlY (.scr ds) m = .ok ds m:=rfl
theorem rngA_at(g:List D->Sto->Res (List D)):zmX g fr ρ m=(fr ρ m).bind g:=rfl
def zui:D->Sto->Res (List D):=fun d m1=>(asSq2 d m1).bind fun ds m2=>.ok (zcd 0 ds) m2
theorem enumA_at:zkS fa ρ m=(fa ρ m).bind zui:=rfl
theorem kenum_t(ds:List D):zui (.tup ds) m = .ok (zcd 0 ds) m:=rfl
theorem kenum_l(ds:List D):zui (.lst ds) m = .ok (zcd 0 ds) m:=rfl
def kZip(f:EV)(ρ : En):D->Sto->Res (List D):=fun x m1=>(f ρ m1).bind (zqC x)
theorem zipA_at:aZip fa fb ρ m=(fa ρ m).bind (kZip fb ρ):=rfl
theorem kzip_at:kZip fb ρ d m=(fb ρ m).bind (zqC d):=rfl
def kZip3(F f:EV)(ρ : En):D->Sto->Res (List D):=fun x m1=>(F ρ m1).bind fun y m2=>(f ρ m2).bind (zip3 x y)
def kZip4(x:D)(f:EV)(ρ : En):D->Sto->Res (List D):=fun y m1=>(f ρ m1).bind (zip3 x y)
theorem zip3A_at:aZip3 fa fb fc ρ m=(fa ρ m).bind (kZip3 fb fc ρ):=rfl
theorem kzip3_at:kZip3 fb fc ρ d m=(fb ρ m).bind (kZip4 d fc ρ):=rfl
theorem kzip4_at(x:D):kZip4 x fc ρ d m=(fc ρ m).bind (zip3 x d):=rfl
theorem oNone_at:zd1 ρ m = .ok none m:=rfl
def kSome:D->Sto->Res (Option Int):=fun d m1=>match d with
 |.int i=>.ok (aa i) m1|_=>.bad
theorem oSome_at:zb9 fa ρ m=(fa ρ m).bind kSome:=rfl
theorem ksome_at(i:Int):kSome (.int i) m = .ok (aa i) m:=rfl
def kSl1(lo hi:OV)(ρ : En):D->Sto->Res D:=fun x m1=>(lo ρ m1).bind fun l m2=>(hi ρ m2).bind (slD x l)
def kSl2(hi:OV)(ρ : En)(x:D):Option Int->Sto->Res D:=fun l m2=>(hi ρ m2).bind (slD x l)
theorem slD_at(lo hi:OV):eSl fa lo hi ρ m=(fa ρ m).bind (kSl1 lo hi ρ):=rfl
theorem ksl1_at(lo hi:OV):kSl1 lo hi ρ d m=(lo ρ m).bind (kSl2 hi ρ d):=rfl
theorem ksl2_at(hi:OV)(l:Option Int):kSl2 hi ρ d l m=(hi ρ m).bind (slD d l):=rfl
def kSlA1(lo hi:OV)(ρ : En):D->Sto->Res D:=fun x m1=>(lo ρ m1).bind fun l m2=>(hi ρ m2).bind (slA x l)
def kSlA2(hi:OV)(ρ : En)(x:D):Option Int->Sto->Res D:=fun l m2=>(hi ρ m2).bind (slA x l)
theorem slA_at(lo hi:OV):eSlA fa lo hi ρ m=(fa ρ m).bind (kSlA1 lo hi ρ):=rfl
theorem kslA1_at(lo hi:OV):kSlA1 lo hi ρ d m=(lo ρ m).bind (kSlA2 hi ρ d):=rfl
theorem kslA2_at(hi:OV)(l:Option Int):kSlA2 hi ρ d l m=(hi ρ m).bind (slA d l):=rfl
def kMeth(ty:D->Sto->Bool)(g:D->List D->Sto->Res D)(fr:AV)(ρ : En):D->Sto->Res D:=fun o m1=>if ty o m1=ac then (fr ρ m1).bind (g o) else .bad
theorem meth_at(ty:D->Sto->Bool)(g:D->List D->Sto->Res D):zfy ty g fa fr ρ m=(fa ρ m).bind (kMeth ty g fr ρ):=rfl
theorem kmeth_at(ty:D->Sto->Bool)(g:D->List D->Sto->Res D):kMeth ty g fr ρ d m=if ty d m=ac then (fr ρ m).bind (g d) else .bad:=rfl
theorem isStr_at(z:ae):isStr (.str z) m=ac:=rfl
theorem isTup_at(ds:List D):zrD (.tup ds) m=ac:=rfl
theorem fin_nx:zeG (.nx ρ) m = .ok .non m:=rfl
theorem fin_rt:zeG (.rt d) m = .ok d m:=rfl
theorem run_at(n:Nat)(ds:List D):za2 n f ds m=(f (ds.map aa++yd (n-ds.length) none) m).bind zeG:=rfl
def kCh3(g':D->D->Sto->Res D)(f:EV)(ρ : En)(y:D):D->Sto->Res D:=fun z m3=>(asB z m3).bind fun k m3=>if k=ac then (f ρ m3).bind (g' y) else .ok (.bl ag) m3
def kCh2(g g':D->D->Sto->Res D)(f:EV)(ρ : En)(x:D):D->Sto->Res D:=fun y m2=>(g x y m2).bind (kCh3 g' f ρ y)
def kCh1(g g':D->D->Sto->Res D)(F f:EV)(ρ : En):D->Sto->Res D:=fun x m1=>(F ρ m1).bind (kCh2 g g' f ρ x)
theorem chain_at(g g':D->D->Sto->Res D):eChain g g' fa fb fc ρ m=(fa ρ m).bind (kCh1 g g' fb fc ρ):=rfl
theorem kch1_at(g g':D->D->Sto->Res D):kCh1 g g' fb fc ρ d m=(fb ρ m).bind (kCh2 g g' fc ρ d):=rfl
theorem kch2_at(g g':D->D->Sto->Res D)(x:D):kCh2 g g' fc ρ x d m=(g x d m).bind (kCh3 g' fc ρ d):=rfl
theorem kch3_at(g':D->D->Sto->Res D)(y:D)(b:Bool):kCh3 g' fc ρ y (.bl b) m=if b=ac then (fc ρ m).bind (g' y) else .ok (.bl ag) m:=rfl
def kPutA(fo fi:EV)(ρ : En):D->Sto->Res Fl:=fun v m1=>(fo ρ m1).bind fun x m2=>(fi ρ m2).bind fun y m3=>(zhz x y v m3).bind fun _ m=>.ok (.nx ρ) m
def kPutB(fi:EV)(ρ : En)(v:D):D->Sto->Res Fl:=fun x m2=>(fi ρ m2).bind fun y m3=>(zhz x y v m3).bind fun _ m=>.ok (.nx ρ) m
def kPutC(ρ : En)(v x:D):D->Sto->Res Fl:=fun y m3=>(zhz x y v m3).bind fun _ m=>.ok (.nx ρ) m
def kPutE(ρ : En):Unit->Sto->Res Fl:=fun _ m=>.ok (.nx ρ) m
theorem put_at:zgz fa fb fc ρ m=(fc ρ m).bind (kPutA fa fb ρ):=rfl
theorem kputA_at:kPutA fa fb ρ d m=(fa ρ m).bind (kPutB fb ρ d):=rfl
theorem kputB_at(x:D):kPutB fb ρ d x m=(fb ρ m).bind (kPutC ρ d x):=rfl
theorem kputC_at(x y:D):kPutC ρ d x y m=(zhz x y d m).bind (kPutE ρ):=rfl
theorem kputE_at:kPutE ρ () m = .ok (.nx ρ) m:=rfl
theorem var_0:zad 0 (aa d::ρ) m = .ok d m:=rfl
theorem var_S(i:Nat)(x:Option D):zad (i+1) (x::ρ) m=zad i ρ m:=rfl
end
theorem bind_ok(a:α)(m:Sto)(k:α -> Sto->Res β):(Res.ok a m).bind k=k a m:=rfl
def Run(r:Res α)(P:α -> Sto->Prop):Prop:=∃a m,r = .ok a m/\P a m
variable{Q:α -> Sto->Prop}
theorem Run.bind{r:Res α}{k:α -> Sto->Res β}{P : β -> Sto->Prop}(h:Run r Q)(H:∀a m,Q a m->Run (k a m) P):Run (r.bind k) P:=by
 obtain⟨a,m,rfl,q⟩:=h;exact H a m q
variable{m:Sto}{P:α -> Sto->Prop}
theorem Run.ok{a:α}(h:P a m):Run (.ok a m) P:=⟨a,m,rfl,h⟩
theorem Run.mono{r:Res α}(h:Run r P)(k:∀a m,P a m->Q a m):Run r Q:=by
 obtain⟨a,m,e,p⟩:=h;exact⟨a,m,e,k a m p⟩
theorem zaT{g:GV}{b:SV}(I:Nat->En->Sto->Prop):∀(ds:List D)(k:Nat){ρ : En}{m:Sto},I k ρ m->(∀i d ρ m,ds[i]?=aa d->I (k+i) ρ m->Run ((g d ρ m).bind b) fun f m2=>∃a,f = .nx a/\I (k+i+1) a m2) →
  Run (zeP g b ds ρ m) fun f m'=>∃ρ',f = .nx ρ'/\I (k+ds.length) ρ' m'
 |[],k,ρ,m,h,_=>⟨_,m,rfl,ρ,rfl,h⟩|d::r,k,ρ,m,h,st=>by
  obtain⟨_,m2,e2,a,rfl,h2⟩:=st 0 d ρ m rfl h;obtain⟨_,m',e,ρ',rfl,H⟩:=zaT I r (k+1) h2 fun i d ρ m hd hi=>by
   have:=st (i+1) d ρ m (by simpa using hd) (by rw[show k+(i+1)=k+1+i by omega];exact hi);rw[show k+(i+1)+1=k+1+i+1 by omega]at this;exact this
  refine⟨_,m',?_,ρ',rfl,by rw[yt,show k+(r.length+1)=k+1+r.length by omega];exact H⟩;rw[zeP,<- Res.bind_assoc,e2,bind_ok];exact e
theorem zjg{g:GV}{el:EV}{ρ : En}(I:Nat->Sto->Prop)(P:Nat->D->D->Prop):∀(ds:List D)(k:Nat){m:Sto},I k m->(∀i d m,ds[i]?=aa d->I (k+i) m->Run ((g d ρ m).bind el) fun x m3=>P (k+i) d x/\I (k+i+1) m3) →
  Run (zfC g zdY el ρ ds m) fun xs m'=>xs.length=ds.length/\(∀i d x,ds[i]?=aa d->xs[i]?=aa x->P (k+i) d x)/\I (k+ds.length) m'
 |[],k,m,h,_=>⟨[],m,rfl,rfl,fun i d x e=>by simp at e,h⟩|d::r,k,m,h,st=>by
  obtain⟨x,m3,j,b,f⟩:=st 0 d m rfl h;obtain⟨xs,m',E,hl,a,c⟩:=zjg I P r (k+1) f fun i d m hd hi=>by
   have:=st (i+1) d m (by simpa using hd) (by rw[show k+(i+1)=k+1+i by omega];exact hi);rw[show k+(i+1)+1=k+1+i+1 by omega,show k+(i+1)=k+1+i by omega]at this;exact this
  refine⟨x::xs,m',?_,by rw[yt,yt,hl],fun i d' X hd H=>?_,by rw[yt,show k+(r.length+1)=k+1+r.length by(clear hl;omega)];exact c⟩
  ·have e:zfC g zdY el ρ (d::r) m=((g d ρ m).bind el).bind fun x m3=>(zfC g zdY el ρ r m3).bind fun xs M=>.ok (x::xs) M:=by
    rw[zfC,Res.bind_assoc];rfl
   rw[e,j,bind_ok,E,bind_ok]
  ·cases i with
   |zero=>simp at hd H;subst hd H;exact b|succ i=>
    have:=a i d' X (by simpa using hd) (by simpa using H);rw[show k+(i+1)=k+1+i by(clear hl;omega)];exact this
theorem zmR{g:GV}{el:EV}{ρ : En}{m:Sto}(f:D->D):∀(ds:List D),(∀d∈ds,∃a,g d ρ m = .ok a m/\el a m = .ok (f d) m)->zfC g zdY el ρ ds m = .ok (ds.map f) m
 |[],_=>rfl|d::r,h=>by
  obtain⟨a,e1,e2⟩:=h d (by simp);rw[zfC,e1,bind_ok];show (Res.ok ac m).bind _=_;rw[bind_ok,if_pos rfl,e2,bind_ok,zmR f r fun d hd=>h d (yK _ hd),bind_ok];rfl
theorem zdQ:∀ns:List Int,pyL (ns.map D.int)=ns.map PyData.int
 |[]=>by simp[pyL]|a::r=>by simp[pyL,py,zdQ r]
theorem zdP:∀ns:List Int,pyOkL (ns.map D.int)=ac
 |[]=>by simp[pyOkL]|a::r=>by simp[pyOkL,zgQ,zdP r]
theorem zgj:∀ns:List Int,PyData.canLayAll0 (ns.map PyData.int)=ac
 |[]=>by simp[PyData.canLayAll0]|a::r=>by simp[PyData.canLayAll0,PyData.canLay0,zgj r]
theorem zjd:∀ns:List Int,PyData.depthAll (ns.map PyData.int)=0
 |[]=>by simp[PyData.depthAll]|a::r=>by simp[PyData.depthAll,PyData.depth,zjd r]
theorem zjb:∀ns ms:List Int,PyData.eqvAll (ns.map PyData.int) (ms.map PyData.int)=decide (ns=ms)
 |[],[]=>by simp[PyData.eqvAll]|[],_::_=>by simp[PyData.eqvAll]|_::_,[]=>by simp[PyData.eqvAll]|a::r,b::t=>by
  simp only[yl,PyData.eqvAll,PyData.eqv,zjb r t];by_cases h:a=b <;> by_cases h':r=t <;> simp[h,h']
theorem zmQ(ns:List Int):zfa (.lst (ns.map D.int))=ac:=by
 simp[zfa,zgQ,py,zdP,zdQ,SeqAt.shaped,PyData.canLay0,zgj,PyData.depth,zjd]
theorem zrR(ns:List Int):zfa (.tup (ns.map D.int))=ac:=by
 simp[zfa,zgQ,py,zdP,zdQ,SeqAt.shaped,PyData.canLay0,zgj,PyData.depth,zjd]
theorem zqg(ns m:List Int):eqB (.lst (ns.map D.int)) (.lst (m.map D.int))=aa (decide (ns=m)):=by
 show (if zfa (.lst (ns.map D.int))&&zfa (.lst (m.map D.int)) then aa (PyData.eqv (py (.lst (ns.map D.int))) (py (.lst (m.map D.int)))) else none)=_;rw[zmQ,zmQ];simp[py,PyData.eqv,zdQ,zjb]
structure Fr(p q:Nat)(m m':Sto):Prop where
 len:m.length<=m'.length
 at':∀j,j<m.length->j≠p->j≠q->m'[j]?=m[j]?
variable{p q:Nat}
theorem Fr.refl:Fr p q m m:=⟨yc _,fun _ _ _ _=>rfl⟩
theorem Fr.trans{a b c:Sto}(h:Fr p q a b)(k:Fr p q b c):Fr p q a c:=⟨yx h.len k.len,fun j h1 d H=>(k.at' j (yB h1 h.len) d H).trans (h.at' j h1 d H)⟩
variable{xs:List D}
section
theorem add_i(a b:Int):zbb (.int a) (.int b) m = .ok (.int (a+b)) m:=rfl
theorem sub_i(a b:Int):zdO (.int a) (.int b) m = .ok (.int (a-b)) m:=rfl
theorem eq_i(a b:Int):eqD (.int a) (.int b) m = .ok (.bl (decide (a=b))) m:=rfl
theorem ne_i(a b:Int):neD (.int a) (.int b) m = .ok (.bl (!decide (a=b))) m:=rfl
theorem eq_s(a b:ae):eqD (.str a) (.str b) m = .ok (.bl (decide (a=b))) m:=rfl
theorem ne_s(a b:ae):neD (.str a) (.str b) m = .ok (.bl (!decide (a=b))) m:=rfl
theorem lt_i(a b:Int):ltD (.int a) (.int b) m = .ok (.bl (decide (a<b))) m:=rfl
theorem gt_i(a b:Int):gtD (.int a) (.int b) m = .ok (.bl (decide (b<a))) m:=rfl
theorem ge_i(a b:Int):geD (.int a) (.int b) m = .ok (.bl (decide (b<=a))) m:=rfl
theorem le_i(a b:Int):leD (.int a) (.int b) m = .ok (.bl (decide (a<=b))) m:=rfl
theorem zhG{a b:Int}(h : -(2^64)<b/\b<2^64):zdC (.int a) (.int b) m = .ok (.int (a*b)) m:=by rw[zg1];exact if_pos (.inr h)
theorem zf7{a b:Int}(h : -(2^64)<a/\a<2^64):zdC (.int a) (.int b) m = .ok (.int (a*b)) m:=by rw[zg1];exact if_pos (.inl h)
theorem zbm{a b:Int}(h:0<b):zdk (.int a) (.int b) m = .ok (.int (a%b)) m:=if_pos h
theorem zux{a b:Int}(h:0<b/\b<2^64):zja (.int a) (.int b) m = .ok (.int (a/b)) m:=by rw[zmL];exact if_pos h
theorem zcz{n:Nat}(h:n<=1000000):zgf (.int 1) (.int n) m = .ok (.int (2^n)) m:=by
 rw[zoo];show (if _ then _ else _)=_;rw[if_pos ⟨by(clear h;omega),by omega,by decide⟩,yax,Int.one_mul]
theorem lst_0:zcA [] m = .ok (.lst []) m:=if_pos (yZ _)
theorem zbs{n:Nat}(h:n<=8):n<=sizeLine:=yx h (by decide)
theorem lst_2(a b:D):zcA [a,b] m = .ok (.lst [a,b]) m:=if_pos (zbs (by simp))
theorem lst_3(a b c:D):zcA [a,b,c] m = .ok (.lst [a,b,c]) m:=if_pos (zbs (by simp))
theorem lst_4(a b c d:D):zcA [a,b,c,d] m = .ok (.lst [a,b,c,d]) m:=if_pos (zbs (by simp))
theorem lst_5(a b c d e:D):zcA [a,b,c,d,e] m = .ok (.lst [a,b,c,d,e]) m:=if_pos (zbs (by simp))
theorem tup_0:zbg [] m = .ok (.tup []) m:=if_pos (yZ _)
theorem tup_1(a:D):zbg [a] m = .ok (.tup [a]) m:=if_pos (zbs (by simp))
theorem tup_2(a b:D):zbg [a,b] m = .ok (.tup [a,b]) m:=if_pos (zbs (by simp))
theorem tup_3(a b c:D):zbg [a,b,c] m = .ok (.tup [a,b,c]) m:=if_pos (zbs (by simp))
theorem ztZ:zkg [] m = .ok (.ob m.length) (m++[.lst []]):=if_pos (yZ _)
theorem min_i(a b:Int):zrv [.int a,.int b] m = .ok (.int (if b<a then b else a)) m:=rfl
theorem len_t(xs:List D):zew [.tup xs] m = .ok (.int xs.length) m:=rfl
theorem len_l(xs:List D):zew [.lst xs] m = .ok (.int xs.length) m:=rfl
theorem tup_l(xs:List D):zqB [.lst xs] m = .ok (.tup xs) m:=rfl
theorem l1(xs:List D):gL1 xs m = .ok (.lst xs) m:=rfl
theorem zhs{xs:List τ}{n:Nat}:L2.atI xs (n:Int)=xs[n]?:=by
 unfold L2.atI L2.ixN;by_cases h:n<xs.length
 ·rw[if_pos (by(clear h;omega)),if_pos (by omega)];simp
 ·rw[if_pos (by(clear h;omega)),if_neg (by omega)];simp;omega
theorem zka{n:Nat}(h:xs[n]?=aa d):ixD (.tup xs) (.int n) m = .ok d m:=by
 show opt (L2.atI xs n) m=_;rw[zhs,h];rfl
theorem ix_l{n:Nat}(h:xs[n]?=aa d):ixD (.lst xs) (.int n) m = .ok d m:=by
 show opt (L2.atI xs n) m=_;rw[zhs,h];rfl
theorem ix_t0(a:D)(xs:List D):ixD (.tup (a::xs)) (.int 0) m = .ok a m:=zka (n:=0) rfl
theorem ix_t1(a b:D)(xs:List D):ixD (.tup (a::b::xs)) (.int 1) m = .ok b m:=zka (n:=1) rfl
theorem ix_t2(a b c:D)(xs:List D):ixD (.tup (a::b::c::xs)) (.int 2) m = .ok c m:=zka (n:=2) rfl
theorem zsh{d:Int}(h0:0<=d)(h1:d<xs.length):∃x∈xs,ixD (.lst xs) (.int d) m = .ok x m:=by
 obtain⟨n,rfl⟩:∃n:Nat,d=n:=⟨d.toNat,by(clear h1;omega)⟩;have hn:n<xs.length:=by(clear h0;omega)
 exact⟨xs[n],yaB hn,ix_l (by simp[hn])⟩
end
variable{it:AV}{el:EV}{ρ : En}{ds:List D}
theorem zdN{n:Nat}{g:GV}(f:D->D)(h:it ρ m = .ok ds m)(hl:ds.length<=1000000)(H:∀d∈ds,∃ρ1,g d (ρ ++ yd n none) m = .ok ρ1 m/\el ρ1 m = .ok (f d) m):zd3 n it g zdY el ρ m = .ok (ds.map f) m:=by
 unfold zd3;rw[h,bind_ok,if_pos hl];exact zmR f ds H
theorem zkT{n:Nat}{g:GV}(I:Nat->Sto->Prop)(P:Nat->D->D->Prop)(h:it ρ m = .ok ds m)(hl:ds.length<=1000000)(h0:I 0 m)(H:∀i d m,ds[i]?=aa d->I i m->Run ((g d (ρ ++ yd n none) m).bind el) fun x m3=>P i d x/\I (i+1) m3) : Run (zd3 n it g zdY el ρ m) fun xs m'=>xs.length=ds.length/\(∀i d x,ds[i]?=aa d->xs[i]?=aa x->P i d x)/\I ds.length m':=by
 unfold zd3;rw[h,bind_ok,if_pos hl];have:=zjg (g:=g) (el:=el) (ρ := ρ ++ yd n none) I P ds 0 h0 (fun i d m hd hi=>by
  have:=H i d m hd (by rw[yq]at hi;exact hi);rw[yq];exact this)
 simpa only[yq] using this
theorem zaU(lo:Int)(n:Nat):(zcc lo n).length=n:=by simp[zcc]
theorem zfI{j:Int}(h:0<=j)(h':j<=1000000):zle [.int j] m = .ok (zcc 0 j.toNat) m:=by rw[zoB];exact if_pos ⟨by(clear h';omega),by(clear h;omega)⟩
theorem ztR{a b:String}(h:yH a=yH b):a=b:=by
 rw[ydU,ydU]at h;have H:=congrArg (fun s:ae=>s.cps.toList) h;exact String.toList_inj.mp ((List.map_inj_right fun x y e=>Char.toNat_inj.mp e).mp H)
theorem ofs_eq(a b:String):(yH a=yH b)=(a=b):=propext ⟨ztR,fun h=>by rw[h]⟩
local macro_rules | `(tactic| walk_at "w") => do
  let ids := ("run_at fin_nx fin_rt seq_at seq_nx seq_rt nil_at ret_at rt_at retN_at drop_at kdrop_at if_at kif_at asg_at kasg_at nx_at gs_nil gs_cons gT_at par_at kpar_at List.set_cons_zero List.set_cons_succ for_at kfor_at eC_at op_at kop_at un_at fn_at ife_at kife_at aNil_at aCons_at kcons_at kcons2_at asB_at tV_at andT_at kandT_at orT_at korT_at notT_at knotT_at and_at kand_at or_at kor_at not_at knot_at aIt_at sq_t sq_l sq_s sq_c rngA_at enumA_at kenum_t kenum_l zipA_at kzip_at zip3A_at kzip3_at kzip4_at oNone_at oSome_at ksome_at slD_at ksl1_at ksl2_at slA_at kslA1_at kslA2_at meth_at kmeth_at isStr_at isTup_at chain_at kch1_at kch2_at kch3_at put_at kputA_at kputB_at kputC_at kputE_at bind_ok bind_then then_at var_0 var_S gN_at Bool.false_eq_true reduceIte List.map_cons List.map_nil List.length_cons List.length_nil Nat.reduceAdd Nat.reduceSub List.cons_append List.nil_append add_i sub_i eq_i ne_i eq_s ne_s lt_i le_i gt_i ge_i lst_0 lst_2 lst_3 lst_4 lst_5 tup_0 tup_1 tup_2 tup_3 min_i len_t len_l tup_l l1 ix_t0 ix_t1 ix_t2 List.replicate List.append_nil decide_eq_true_eq Bool.not_true Bool.not_false eq_self not_true_eq_false not_false_eq_true decide_true decide_false ofs_eq String.reduceEq".splitOn " ").toArray.map fun s => Lean.mkIdent s.toName
  `(tactic| try simp only [$[$ids:ident],*])
variable{kvs:List (L2.Key×D)}
theorem zbf{k:ae}(h:m[p]?=aa (.dct kvs))(e:zd4 kvs (.inr k)=aa d):ixD (.ob p) (.str k) m = .ok d m:=by
 simp only[ixD,h,e,opt]
theorem zli{k:ae}(h:m[p]?=aa (.dct kvs))(hl:kvs.length<sizeLine):zhz (.ob p) (.str k) d m = .ok () (m.set p (.dct (zh0 kvs (.inr k) d))):=by
 simp only[zhz,h,zhH,if_pos hl]
variable{o:MO}
theorem zbw{o':MO}(h:m[p]?=aa o):(m.set p o')[p]?=aa o':=yaQ (ye.mp h).1
variable{j:Nat}
theorem zaM(h:p≠j):(m.set p o)[j]?=m[j]?:=yaZ h
theorem Fr.set:Fr p q m (m.set p o):=⟨by rw[yad];exact yc _,fun j _ h _=>zaM (Ne.symm h)⟩
theorem Fr.set':Fr p q m (m.set q o):=⟨by rw[yad];exact yc _,fun j _ _ h=>zaM (Ne.symm h)⟩
theorem zpv(x:Int) : -(2^64)<x%1000003+69621/\x%1000003+69621<2^64:=by
 have h0:=yQ x (b:=1000003) (by decide);have h1:=yV x (b:=1000003) (by decide)
 (clear h1 h0;omega)
variable{own:List Int}
theorem zoN{a:Int}(h:m[q]?=aa (.lst ((a::own).map D.int))):popM (.ob q) [.int 0] m = .ok (.int a) (m.set q (.lst (own.map D.int))):=by
 simp only[popM,h];rw[if_pos (by decide)];have e:bS 0 ((a::own).map D.int).length=aa 0:=by
  simp[bS]
 rw[e];simp
inductive Kd where
 |step (n:Int) | turn (row:List Int) | wth (i:Nat) (f:Int) | still | drawn
def Kd.e:Kd->D
 |.step n=>.tup [.str "step", .int n]|.turn row=>.tup [.str "turn", .tup (row.map D.int)]|.wth i f=>.tup [.str "with", .int i,.int f]
 |.still=>.tup [.str "still"]|.drawn=>.tup [.str "drawn"]
def Kd.Ok(pl b:Nat):Kd->Prop
 |.step n=>0<=n/\n<2^b|.turn row=>row≠[]/\row.length<=12/\∀v∈row,0<=v/\v<2^b|.wth i f=>i<pl /\ -99<=f/\f<=99|_=>True
theorem p2(b:Nat):(0:Int)<2^b:=Int.pow_pos (by decide)
variable{b:Nat}
theorem p2le(h:b<=40):(2:Int)^b<=2^40:=by
 have:=ydV (n:=2) (by decide) h
 exact_mod_cast this
theorem p2lt(h:b<=40):(2:Int)^b<2^64:=Int.lt_of_le_of_lt (p2le h) (by decide)
structure Fd where
 nm:ae
 b:Nat
 kd:Kd
def Fd.e(f:Fd):D := .tup [.str f.nm,.int f.b,f.kd.e]
def zkX(fs:List Fd):Prop:=∀(i:Nat)(f:Fd),fs[i]?=aa f->0<f.b/\f.b<=40/\f.kd.Ok i f.b
variable{r:Nat}
theorem zmV(h:m[r]?=aa (.lst xs))(hl:xs.length<sizeLine):zdf (.ob r) [d] m = .ok .non (m.set r (.lst (xs++[d]))):=by
 simp only[zdf,h,if_pos hl]
theorem zmz(h:m[r]?=aa (.lst xs)):zfp (.ob r) m=ac:=by simp only[zfp,h]
variable{n:Int}{z:ae}
theorem mul_s(h:z.length=1)(h0:0<=n)(h1:n<=1000):zdC (.str z) (.int n) m = .ok (.str (Txt.mul z n)) m:=by rw[zg1];exact if_pos ⟨h0,h1,by(clear h1 h0;omega)⟩
theorem zbr{n:Nat}(h:n<1000):n<sizeLine:=Nat.lt_trans h (by decide)
theorem pow106:zmo (.int 10) (.int 6) m = .ok (.int 1000000) m:=by
 rw[zgR];have e:ztm (.int 10) (.int 6) m=if (0:Int)<=6/\(6:Int)<=1000000/\(10:Int).natAbs<2^64 then .ok (.int ((10:Int)^(6:Int).toNat)) m else .bad:=rfl
 rw[e,if_pos (by decide)];rfl
theorem zav{r:Res τ}{x : τ}(h:Run r fun a m'=>a=x/\m'=m):r = .ok x m:=by
 obtain⟨a,m',e,rfl,rfl⟩:=h;exact e
variable{v:Int}
theorem zlI{row:List Int}:inD (.int v) (.tup (row.map D.int)) m = .ok (.bl (decide (v∈row))) m:=by
 have h:inO (.int v) (.tup (row.map D.int)) m=aa (decide (v∈row)):=by
  show inB (.int v) (row.map D.int)=_;unfold inB;rw[zdP,zdQ,zgj];have hd:zfa (.int v)=ac:=by simp[zfa,zgQ,py,SeqAt.shaped,PyData.canLay0,PyData.depth]
  rw[hd];simp only[Bool.and_self,if_true,py];congr 1;rw[List.any_map];induction row with
  |nil=>simp|cons a r i=>
   rw[ya8,i];simp only[Function.comp,PyData.eqv,yn,Bool.decide_or];by_cases e:a=v
   ·simp[e]
   ·have E : ¬ v=a:=fun h=>e h.symm;simp[e,E]
 simp only[inD,h]
theorem znv{row:List Int}:zjW (.int v) (.tup (row.map D.int)) m = .ok (.bl (!decide (v∈row))) m:=by
 have h:=zlI (v:=v) (row:=row) (m:=m);unfold inD at h;unfold zjW;split at h
 ·rename_i b e;simp only[Res.ok.injEq,D.bl.injEq,and_true]at h;rw[h]
 ·cases h
theorem zcq:∀row:List Int,zed (row.map D.int)=aa row
 |[]=>rfl|a::r=>by simp only[yl,zed,zcq r];rfl
theorem zio{row:List Int}(h:v∈row):zeg (.tup (row.map D.int)) [.int v] m = .ok (.int (row.idxOf v)) m:=by
 simp only[zeg,zcq,if_pos h]
theorem zbG{row:List Int}{n:Nat}(h:row[n]?=aa v):ixD (.tup (row.map D.int)) (.int n) m = .ok (.int v) m:=zka (by simp[h])
def exV(b:Nat)(kd:Kd)(v more:Int)(fo ah:List Int):Int:=match kd with
 |.step n=>(v+more*n)%2^b|.turn row=>if v∈row then row.getD ((row.idxOf v+more)%row.length).toNat 0 else v|.wth i f=>(v+f*(ah.getD i 0-fo.getD i 0))%2^b|.still=>v|.drawn=>v
theorem md2(x:Int)(b:Nat):0<=x%2^b/\x%2^b<2^b:=⟨yQ _ (Int.ne_of_gt (p2 b)),yV _ (p2 b)⟩
variable{pl:Nat}{fo ah:List Int}
theorem exV_in{kd:Kd}{more:Int}(a:kd.Ok pl b)(h0:0<=v)(h1:v<2^b):0<=exV b kd v more fo ah/\exV b kd v more fo ah<2^b:=by
 cases kd with
 |step n=>exact md2 _ _|turn row=>
  simp only[exV];split
  ·rename_i H;have hl:0<row.length:=yca H;have a0:=yQ (row.idxOf v+more) (b:=row.length) (by(clear h1 h0;omega));have a1:=yV (row.idxOf v+more) (b:=row.length) (by(clear a0 h1 h0;omega));have h:(((row.idxOf v:Int)+more)%row.length).toNat<row.length:=by(clear hl h1 h0;omega)
   rw[yaf,yh h];exact a.2.2 _ (yaB h)
  ·exact⟨h0,h1⟩
 |wth i f=>exact md2 _ _|still=>exact⟨h0,h1⟩|drawn=>exact⟨h0,h1⟩
def shD(fs:List Fd)(n:Int):D := .tup [.tup (fs.map Fd.e),.int n]
def zco(l:List Int):D := .tup (l.map D.int)
variable{i:Nat}{f:Fd}
theorem zf8{fs:List Fd}(h:fs[i]?=aa f):ixD (.tup (fs.map Fd.e)) (.int i) m = .ok (.tup [.str f.nm,.int f.b,f.kd.e]) m:=zka (by simp[h,Fd.e])
def Bin(l:List Nat):Prop:=∀c∈l,c=48∨c=49
def zc0(l:List Nat):Int:=l.foldl (fun a c=>a*2+if c=49 then 1 else 0) 0
theorem zjU(l:List Nat)(c:Nat):zc0 (l++[c])=zc0 l*2+if c=49 then 1 else 0:=by simp only[zc0,List.foldl_append,yaT,List.foldl_nil]
theorem zge(h:(zdZ z)[i]?=aa d):∃c,z.cps.toList[i]?=aa c/\d = .str ⟨#[c]⟩:=by
 have hi:i<z.cps.size:=by have:=(ye.mp h).1;simpa [zdZ] using this
 have hd:d = .str ⟨#[z.cps.getD i 0]⟩:=by
  simp only[zdZ,yz,ycb hi,yaC,yaq]at h;exact h.symm
 refine⟨z.cps[i],by simp[hi],?_⟩;rw[hd];simp[Array.getD,hi]
theorem zjt(z:ae):(zdZ z).length=z.cps.toList.length:=by simp[zdZ]
variable{l:List Nat}{c:Nat}
theorem zgn(h:l[i]?=aa c):l.take (i+1)=l.take i++[c]:=by
 rw[ycH,h];rfl
theorem int_0:znG [.str ⟨#[48]⟩] m = .ok (.int 0) m:=by
 have e:ybp ⟨#[48]⟩=aa 0:=by decide +kernel
 simp only[znG,e];rfl
theorem int_1:znG [.str ⟨#[49]⟩] m = .ok (.int 1) m:=by
 have e:ybp ⟨#[49]⟩=aa 1:=by decide +kernel
 simp only[znG,e];rfl
theorem zh2(H:Bin z.cps.toList):Run (za1 [.str z] m) fun a m'=>a = .int (zc0 z.cps.toList)/\m'=m:=by
 unfold za1 zh6;ac_nf;refine Run.bind (zaT (fun k ρ m'=>∃x,ρ = [aa (.str z),aa (.int (zc0 (z.cps.toList.take k))),x]/\m'=m) (zdZ z) 0 ⟨_,rfl,rfl⟩ ?_) ?_
 ·rintro i d ρ m' hd ⟨x,rfl,rfl⟩;obtain⟨c,h,rfl⟩:=zge hd;rw[yq,zgn h,zjU];erw [zhG (by decide)];ac_nf;rcases H c (yM h) with rfl|rfl
  ·rw[int_0];ac_nf;exact Run.ok ⟨_,rfl,_,rfl,rfl⟩
  ·rw[int_1];ac_nf;exact Run.ok ⟨_,rfl,_,rfl,rfl⟩
 ·rintro _ m' ⟨ρ,rfl,x,rfl,rfl⟩;rw[yq,zjt,ybs];ac_nf;exact Run.ok ⟨rfl,rfl⟩
theorem zeS(H:Bin z.cps.toList):Run (zb0 [.str z] m) fun a m'=>a = .int (zc0 z.cps.toList)/\m'=m:=by
 unfold zb0 zhn;ac_nf;refine Run.bind (zaT (fun k ρ m'=>∃x,ρ = [aa (.str z),aa (.int (zc0 (z.cps.toList.take k))),x]/\m'=m) (zdZ z) 0 ⟨_,rfl,rfl⟩ ?_) ?_
 ·rintro i d ρ m' hd ⟨x,rfl,rfl⟩;obtain⟨c,h,rfl⟩:=zge hd;rw[yq,zgn h,zjU];erw [zf7 (by decide)];ac_nf;rcases H c (yM h) with rfl|rfl
  ·rw[show decide ((⟨#[48]⟩:ae)=yH "1")=ag by decide,show ∀m,znG [.bl ag] m = .ok (.int 0) m from fun _=>rfl];erw [yas];exact Run.ok ⟨_,rfl,_,rfl,rfl⟩
  ·rw[show decide ((⟨#[49]⟩:ae)=yH "1")=ac by decide,show ∀m,znG [.bl ac] m = .ok (.int 1) m from fun _=>rfl];erw [yas];exact Run.ok ⟨_,rfl,_,rfl,rfl⟩
 ·rintro _ m' ⟨ρ,rfl,x,rfl,rfl⟩;rw[yq,zjt,ybs];ac_nf;exact Run.ok ⟨rfl,rfl⟩
inductive Wy where
 |keep | whole | low (w:Nat) (bl:Int)
def Wy.e:Wy->D
 |.keep=>.tup [.str "keep"]|.whole=>.tup [.str "whole"]|.low w bl=>.tup [.str "low", .int w,.int bl]
def Wy.w(b:Nat):Wy->Nat
 |.keep=>0|.whole=>b|.low w _=>w
def Wy.Ok(b:Nat):Wy->Prop
 |.low w bl=>0<w/\w<=b/\0<=bl/\bl<2^w|_=>True
theorem Wy.w_le{w:Wy}(h:w.Ok b):w.w b<=b:=by
 cases w with
 |keep=>exact yZ _|whole=>exact yc _|low w bl=>exact h.2.1
def zkY(wy:Wy)(b:Nat)(base r:Int):Int:=match wy with
 |.keep=>base|.whole=>r|.low w bl=>((base-bl)+(r-(base-bl))%2^w)%2^b
theorem zcN{w:Nat}(h:w<=1000000):Run (zcL [.int n,.int w] m) fun a m'=>a = .int (n%2^w)/\m'=m:=by
 unfold zcL zmD;erw [zcz h];erw [zbm (p2 _)];ac_nf;exact Run.ok ⟨rfl,rfl⟩
variable{rest:Int}
theorem znU{w:Nat}{base bl:Int}(H:b<=1000000)(h:w<=1000000):Run (zho [.int b,.int base,.int bl,.int rest,.int w] m) fun a m'=>a = .int (((base-bl)+(rest-(base-bl))%2^w)%2^b)/\m'=m:=by
 have h1:Run (zbo [.int (base-bl),.int rest,.int w] m) fun a m'=>a = .int ((base-bl)+(rest-(base-bl))%2^w)/\m'=m:=by
  unfold zbo zfs;erw [zav (zcN h)];ac_nf;exact Run.ok ⟨rfl,rfl⟩
 unfold zho zmI;erw [zav h1];erw [zav (zcN H)];ac_nf;exact Run.ok ⟨rfl,rfl⟩
variable{wy:Wy}
theorem zim{base:Int}(H:b<=1000000)(h:wy.Ok b):Run (zcS [wy.e,.int b,.int base,.int rest] m) fun a m'=>a = .int (zkY wy b base rest)/\m'=m:=by
 unfold zcS zhc;cases wy with
 |keep=>simp only[Wy.e];ac_nf;exact Run.ok ⟨rfl,rfl⟩|whole=>simp only[Wy.e];ac_nf;exact Run.ok ⟨rfl,rfl⟩|low w bl=>
  simp only[Wy.e];ac_nf;have c:=h.2.1;rw[zav (znU H (by omega))];ac_nf;exact Run.ok ⟨rfl,rfl⟩
theorem zef:Run (zcj [wy.e,.int b] m) fun a m'=>a = .int (wy.w b:Nat)/\m'=m:=by
 unfold zcj zkf;cases wy with
 |keep=>simp only[Wy.e];ac_nf;exact Run.ok ⟨rfl,rfl⟩|whole=>simp only[Wy.e];ac_nf;exact Run.ok ⟨rfl,rfl⟩|low w bl=>simp only[Wy.e];ac_nf;exact Run.ok ⟨rfl,rfl⟩
theorem int_bf:znG [.bl ag] m = .ok (.int 0) m:=rfl
theorem zmZ{row:List Int}{more:Int}:Run (zhd [.tup (row.map D.int),.int v,.int more] m) fun a m'=>a = .int (if v∈row then row.getD ((row.idxOf v+more)%row.length).toNat 0 else v)/\m'=m:=by
 unfold zhd zmB;erw [znv];ac_nf;by_cases hr:v∈row
 ·rw[decide_eq_true hr];erw [zio hr];ac_nf;simp only[yg];have hl:0<row.length:=yca hr;rw[zbm (by omega)];ac_nf;have a0:=yQ (row.idxOf v+more) (b:=row.length) (by omega);have a1:=yV (row.idxOf v+more) (b:=row.length) (by(clear a0;omega));rw[if_pos hr];generalize h:((row.idxOf v:Int)+more)%row.length=x at a0 a1;obtain⟨j,rfl⟩:∃j:Nat,x=j:=⟨x.toNat,by(clear a1 h hl;omega)⟩;have H:j<row.length:=by(clear a0 h hl;omega)
  rw[zbG (yh H)];ac_nf;refine Run.ok ⟨?_,rfl⟩;simp only[yax,yaf,yh H,yag]
 ·rw[decide_eq_false hr];erw [if_neg hr];exact Run.ok ⟨rfl,rfl⟩
theorem sl_fd{a b c:D}:slD (.tup [a,b,c]) (aa 1) none m = .ok (.tup [b,c]) m:=by
 have e:slD (.tup [a,b,c]) (aa 1) none m=if HT.sIx 3 0 (aa 1)=0/\HT.sIx 3 3 none=3 then .bad else .ok (.tup (zlP [a,b,c] (aa 1) none)) m:=rfl
 rw[e,if_neg (by decide)];rfl
theorem zkw{fs:List Fd}{more:Int}(hs:zkX fs)(l:fs[i]?=aa f)(k:fo[i]?=aa v)(v0:0<=v)(V:v<2^f.b)(ha:ah.length=i) : Run (zdK [shD fs n,.int i,.tup (fo.map D.int),.tup (ah.map D.int),.int more] m) fun a m'=>a = .int (exV f.b f.kd v more fo ah)/\m'=m:=by
 obtain⟨h,c,e⟩:=hs i f l;unfold zdK zib shD;erw [zf8 l];erw [sl_fd];erw [zbG k];ac_nf;have H:=p2lt c;cases g:f.kd with
 |step w=>
  rw[g]at e;simp only[Kd.Ok]at e;simp only[Kd.e];erw [zf7 (by(clear c h ha V v0;omega))];erw [zav (zcN (by(clear e H h ha V v0;omega)))];ac_nf;exact Run.ok ⟨by simp only[exV,yas],rfl⟩
 |turn row=>
  simp only[Kd.e];erw [zav zmZ];ac_nf;exact Run.ok ⟨by simp only[exV],rfl⟩
 |wth j w=>
  rw[g]at e;simp only[Kd.Ok]at e;simp only[Kd.e];ac_nf;have b:j<ah.length:=by(clear H c h V v0;omega)
  have d:j<fo.length:=by have:=(ye.mp k).1;(clear b H c h ha V v0;omega)
  rw[zbG (yh b)];erw [zbG (yh d)];erw [zf7 (by(clear d b H c h ha V v0;omega))];erw [zav (zcN (by(clear d b e H h ha V v0;omega)))];ac_nf;refine Run.ok ⟨?_,rfl⟩;simp only[exV,yaf,yh b,yh d,yag]
 |still=>
  simp only[Kd.e];ac_nf;exact Run.ok ⟨by simp only[exV],rfl⟩
 |drawn=>
  simp only[Kd.e];ac_nf;exact Run.ok ⟨by simp only[exV],rfl⟩
def fmD(a b:Int)(wys:List Wy):D := .tup [.int a,.int b,.tup (wys.map Wy.e)]
def zcG(fs:List Fd)(wys:List Wy):List Nat:=yaW (fun f w=>Wy.w f.b w) fs wys
theorem zf1{fs:List Fd}(h:fs.length<=1000):Run (zcw [shD fs n] m) fun a m'=>a = .lst (fs.map fun f=>.int f.b)/\m'=m:=by
 unfold zcw zic shD;ac_nf;rw[zdN (ds:=fs.map Fd.e) (fun d=>match d with | .tup [_,b,_]=>b | d=>d)]
 ·ac_nf;refine Run.ok ⟨?_,rfl⟩;rw[yY];rfl
 ·ac_nf
 ·rw[yg];omega
 ·intro d hd;simp only[yR]at hd;obtain⟨f,_,rfl⟩:=hd;exact⟨_,rfl,(ix_t1 (.str f.nm) (.int f.b) [f.kd.e]:ixD (.tup _) (.int 1) m=_)⟩
theorem zr1:∀(fs:List Fd)(wys:List Wy),zkU (wys.map Wy.e) (fs.map fun f=>D.int f.b)=yaW (fun(f:Fd)(w:Wy)=>D.tup [w.e,.int f.b]) fs wys
 |[],[]=>rfl|[],_::_=>rfl|_::_,[]=>rfl|f::fs,w::ws=>by simp only[yl,zkU,ydW,zr1 fs ws]
theorem zpz{α β c d : Type}(g : c -> d)(f:α -> β -> c):∀(a:List α)(b:List β),(yaW f a b).map g=yaW (fun x y=>g (f x y)) a b
 |[],_=>by simp|_::_,[]=>by simp|x::a,y::b=>by simp[zpz g f a b]
theorem zse{α β d : Type}(f:α -> β -> d):∀(a:List α)(b:List β){c : d},c∈yaW f a b->∃x y,c=f x y
 |[],_,c,h=>by simp at h|_::_,[],c,h=>by simp at h|x::a,y::b,c,h=>by
  simp only[ydW,yn]at h;rcases h with h|h
  ·exact⟨x,y,h⟩
  ·exact zse f a b h
def wdF(d:D):D:=match d with
 |.tup [a,b]=>match zcj [a,b] [] with
  |.ok x _=>x|_=>.non
 |d=>d
variable{wys:List Wy}
theorem zhM{fs:List Fd}{a b:Int}(h:fs.length<=1000)(hl:wys.length=fs.length):Run (zeA [shD fs n,fmD a b wys] m) fun x m'=>x = .lst ((zcG fs wys).map fun k:Nat=>.int k)/\m'=m:=by
 unfold zeA zmA fmD;erw [zdN (ds:=yaW (fun(f:Fd)(w:Wy)=>D.tup [w.e,.int f.b]) fs wys) wdF]
 ·ac_nf;refine Run.ok ⟨?_,rfl⟩;rw[zpz,zcG,zpz];congr 2;funext f w;show (match zcj [w.e,.int f.b] [] with | .ok x _=>x | _=>.non)=_;rw[zav zef]
 ·erw [zav (zf1 h)];ac_nf;simp only[zqC];rw[if_pos (by simp[hl]),zr1]
 ·simp;(clear hl;omega)
 ·intro d hd;obtain⟨f,w,rfl⟩:=zse _ _ _ hd;refine⟨_,rfl,?_⟩;show zcj [w.e,.int f.b] m = .ok (match zcj [w.e,.int f.b] [] with | .ok x _=>x | _=>.non) m;rw[zav zef,zav zef]
def zeF(ws:List Nat)(k:Nat):Nat:=(ws.take k).sum
theorem zdm{ws:List Nat}{k w:Nat}(h:ws[k]?=aa w):zeF ws (k+1)=zeF ws k+w:=by
 unfold zeF;rw[zgn h,ybY];simp
theorem zkZ(ws:List Nat)(k:Nat):zeF ws k<=ws.sum:=by
 unfold zeF
 conv=>rhs;rw[<- yb9 k ws,ybY]
 omega
def zgZ(l:List Nat)(ws:List Nat)(k:Nat):Int:=zc0 ((l.drop (zeF ws k)).take (ws.getD k 0))
theorem Bin.drop(h:Bin l)(k:Nat):Bin (l.drop k):=fun c H=>h c (ydX H)
theorem Bin.take(h:Bin l)(k:Nat):Bin (l.take k):=fun c H=>h c (ybZ H)
theorem zdp{lo hi:Option Int}(h:z.length<=sizeLine):slD (.str z) lo hi m = .ok (.str (Txt.slice z lo hi)) m:=if_pos h
theorem zd7(f:Nat -> τ)(k:Nat):(yw (k+1)).map f=(yw k).map f++[f k]:=by rw[ycO,yN];rfl
theorem zgY{ws:List Nat}(o:Bin z.cps.toList)(hl:z.length<=sizeLine)(hs:ws.sum<=z.cps.size)(g:ws.length<1000) : Run (zbY [.str z,.lst (ws.map fun k:Nat=>.int k)] m) fun a m'=>a = .lst (((yw ws.length).map (zgZ z.cps.toList ws)).map D.int)/\m'=m:=by
 have h:Run (za2 5 zeB [.str z,.lst (ws.map fun k:Nat=>.int k)] m) fun a m'=>a = .ob m.length/\m'=m++[.lst (((yw ws.length).map (zgZ z.cps.toList ws)).map D.int)]:=by
  unfold zeB;erw [ztZ];ac_nf;refine Run.bind (zaT (fun k ρ m'=>∃x,ρ = [aa (.str z),aa (.lst (ws.map fun k:Nat=>.int k)),aa (.ob m.length),aa (.int (zeF ws k:Nat)),x]/\m'=m++[.lst (((yw k).map (zgZ z.cps.toList ws)).map D.int)]) (ws.map fun k:Nat=>.int k) 0 ⟨_,rfl,rfl⟩ ?_) ?_
  ·rintro i d ρ m' hd ⟨x,rfl,rfl⟩;rw[yq];have hi:i<ws.length:=by have:=(ye.mp hd).1;simpa using this
   have c:ws[i]?=aa ws[i]:=yh hi;have j:d = .int (ws[i]:Nat):=by
    rw[yz,c]at hd;simpa using hd.symm
   subst j;have hm:(m++[MO.lst (((yw i).map (zgZ z.cps.toList ws)).map D.int)])[m.length]?=aa (.lst (((yw i).map (zgZ z.cps.toList ws)).map D.int)):=by simp
   have H:=zdm c;have f:=zkZ ws (i+1);erw [if_pos (zmz hm)];erw [zdp hl];ac_nf;have b:=Mth.slice_mid z (zeF ws i) (zeF ws (i+1)) (by(clear f g hs hl;omega)) (by(clear H g hl;omega));rw[H]at b;rw[ycW]at b;rw[show ((zeF ws i:Nat):Int)+(ws[i]:Nat)=((zeF ws i+ws[i]:Nat):Int) by(clear f H g hs hl;omega)];rw[zav (zh2 (by rw[b];exact(o.drop _).take _)),b];erw [zmV hm (by simp;exact zbr (by(clear f H hs hl;omega)))];ac_nf;refine Run.ok ⟨_,rfl,_,by rw[H,Int.natCast_add],?_⟩;rw[zd7,yN];have:zgZ z.cps.toList ws i=zc0 ((z.cps.toList.drop (zeF ws i)).take ws[i]):=by rw[zgZ,yaf,c];rfl
   rw[this];simp
  ·rintro _ m' ⟨ρ,rfl,x,rfl,rfl⟩;ac_nf;refine Run.ok ⟨rfl,?_⟩;simp
 unfold zbY;unfold locF;have h':=zav h;rw[h',bind_ok];generalize ((yw ws.length).map (zgZ z.cps.toList ws))=l;have e:frz (m++[.lst (l.map D.int)]) m.length (.ob m.length) = .lst (l.map D.int):=by simp[frz]
 rw[e];have n:clsd m.length (.lst (l.map D.int))=ac:=by
  have:∀l:List Int,clsdL m.length (l.map D.int)=ac:=by
   intro l;induction l with
   |nil=>simp[clsdL]|cons a r I=>simp[clsdL,clsd,I]
  simp[clsd,this]
 rw[if_pos ⟨by simp,n⟩];exact Run.ok ⟨rfl,by simp⟩
theorem zeD{a : Type}{f : a -> D}:∀{xs:List a}{k i:Nat}{d:D},(zcd k (xs.map f))[i]?=aa d->∃x,xs[i]?=aa x/\d = .tup [.int ((k+i:Nat):Int),f x]
 |[],k,i,d,h=>by simp[zcd]at h|x::xs,k,0,d,h=>by
  simp only[yl,zcd,ydY,yaq]at h;exact⟨x,rfl,h.symm⟩
 |x::xs,k,i+1,d,h=>by
  simp only[yl,zcd,List.getElem?_cons_succ]at h;obtain⟨y,h1,h2⟩:=zeD h;exact⟨y,by simpa using h1,by rw[h2,show k+1+i=k+(i+1) by omega]⟩
theorem zdd{a : Type}{f : a -> D}:∀{xs:List a}{k:Nat},(zcd k (xs.map f)).length=xs.length
 |[],k=>rfl|x::xs,k=>by simp[zcd,zdd]
def hdV(fs:List Fd)(wys:List Wy)(fo:List Int)(more:Int)(l:List Nat):Nat->List Int
 |0=>[]|k+1=>hdV fs wys fo more l k++[match fs[k]?,wys[k]?,fo[k]? with
  |some f,aa w,aa v=>zkY w f.b (exV f.b f.kd v more fo (hdV fs wys fo more l k)) (zgZ l (zcG fs wys) k)|_,_,_=>0]
theorem zfr(fs:List Fd)(wys:List Wy)(fo:List Int)(more:Int)(l:List Nat):∀k,(hdV fs wys fo more l k).length=k
 |0=>rfl|k+1=>by rw[hdV,yj,zfr fs wys fo more l k];rfl
structure HdOk(fs:List Fd)(fo:List Int):Prop where
 len:fo.length=fs.length
 at':∀(i:Nat)(f:Fd)(v:Int),fs[i]?=aa f->fo[i]?=aa v->0<=v/\v<2^f.b
structure WyOk(fs:List Fd)(wys:List Wy):Prop where
 len:wys.length=fs.length
 at':∀(i:Nat)(f:Fd)(w:Wy),fs[i]?=aa f->wys[i]?=aa w->w.Ok f.b
theorem zb2{fs:List Fd}(h:WyOk fs wys):(zcG fs wys).length=fs.length:=by simp[zcG,h.len]
theorem zgk{fs:List Fd}{w:Wy}(H:fs[i]?=aa f)(h:wys[i]?=aa w):(zcG fs wys)[i]?=aa (w.w f.b):=by
 rw[zcG,List.getElem?_zipWith,H,h]
theorem zng{fs:List Fd}{a b:Int}{more:Int}(hs:zkX fs)(hn:fs.length<=12)(h:WyOk fs wys)(f:HdOk fs fo)(j:Bin z.cps.toList)(hl:z.length<=sizeLine)(hsz:z.cps.size=(zcG fs wys).sum) : Run (zhh [shD fs n,fmD a b wys,.str z,.tup (fo.map D.int),.int more] m) fun x m'=>x = .tup ((hdV fs wys fo more z.cps.toList fs.length).map D.int)/\m'=m:=by
 unfold zhh zmE;erw [zav (zhM (by(clear hsz hl;omega)) h.len)];erw [zav (zgY j hl (by(clear hl hn;omega)) (by rw[zb2 h];(clear hsz hl;omega)))];ac_nf;refine Run.bind (zaT (fun k ρ m'=>∃x y w,ρ = [aa (shD fs n),aa (fmD a b wys),aa (.str z),aa (.tup (fo.map D.int)),aa (.int more),aa (.tup ((hdV fs wys fo more z.cps.toList k).map D.int)),x,y,w]/\m'=m) _ 0 ⟨_,_,_,rfl,rfl⟩ ?_) ?_
 ·rintro i d ρ m' hd ⟨x,y,w,rfl,rfl⟩;obtain⟨v,c,rfl⟩:=zeD hd;have hi:i<fs.length:=by
   have:=(ye.mp c).1;rw[yg,yaL,zb2 h]at this;exact this
  have H:v=zgZ z.cps.toList (zcG fs wys) i:=by
   rw[yz,ycb (by rw[zb2 h];exact hi)]at c;simpa using c.symm
  subst H;rw[yq];have e:=yh hi;have g:=yh (show i<wys.length by rw[h.len];exact hi);have E:=yh (show i<fo.length by rw[f.len];exact hi);obtain⟨v0,V⟩:=f.at' i _ _ e E;erw [zav (zkw hs e E v0 V (zfr _ _ _ _ _ i))];ac_nf;simp only[shD,fmD];erw [zka (d:=(wys[i]'(by rw[h.len];exact hi)).e) (by rw[yz,g];rfl)];erw [zf8 e];erw [zav (zim (by have:=(hs i _ e).2.1;(clear V v0 hsz hl hn;omega)) (h.at' i _ _ e g))];ac_nf;simp only[zbb];rw[if_pos (by rw[yg,zfr];exact yah (zbr (by simp;(clear v0 hsz hl;omega))))];ac_nf;have l:(hdV fs wys fo more z.cps.toList (i+1)).map D.int=(hdV fs wys fo more z.cps.toList i).map D.int++[.int (zkY (wys[i]'(by rw[h.len];exact hi)) fs[i].b (exV fs[i].b fs[i].kd (fo[i]'(by rw[f.len];exact hi)) more fo (hdV fs wys fo more z.cps.toList i)) (zgZ z.cps.toList (zcG fs wys) i))]:=by
   rw[hdV,e,g,E];simp
  rw[l];exact Run.ok ⟨_,rfl,_,_,_,rfl,rfl⟩
 ·rintro _ m' ⟨ρ,rfl,x,y,w,rfl,rfl⟩;rw[yq,zdd,yg,yaL,zb2 h];ac_nf;exact Run.ok ⟨rfl,rfl⟩
open PySem PyProof.Rows L2 Mth
section
theorem zsi(xs:List D):zhI "tuple" (.tup xs) m = .ok (.bl ac) m:=rfl
theorem isi_ti(a:Int):zhI "tuple" (.int a) m = .ok (.bl ag) m:=rfl
theorem isi_ii(a:Int):zhI "int" (.int a) m = .ok (.bl ac) m:=rfl
theorem isi_bi(a:Int):zhI "bool" (.int a) m = .ok (.bl ag) m:=rfl
theorem isi_si(a:Int):zhI "str" (.int a) m = .ok (.bl ag) m:=rfl
theorem is_ni(a:Int):isD (.int a) .non m = .ok (.bl ag) m:=rfl
end
theorem zqV{n:Nat}{a:Int}:Run (zbl (n+1) [.int a,.int a] m) fun x m'=>x = .bl ac/\m'=m:=by
 rw[zbl];unfold zdH;erw [isi_ti];erw [is_ni];erw [isi_si];erw [isi_ii];erw [isi_bi];ac_nf;exact Run.ok ⟨by simp,rfl⟩
theorem lift{a : Type}(e : a -> D)(P:Nat -> a -> Prop):∀(xs:List D)(k:Nat),(∀i x,xs[i]?=aa x->∃t,x=e t/\P (k+i) t)->∃l:List a,xs=l.map e/\∀i t,l[i]?=aa t->P (k+i) t
 |[],k,_=>⟨[],rfl,fun i t h=>by simp at h⟩|x::xs,k,h=>by
  obtain⟨t,rfl,c⟩:=h 0 x rfl;obtain⟨l,rfl,hl⟩:=lift e P xs (k+1) fun i x b=>by
   rw[show k+1+i=k+(i+1) by omega];exact h (i+1) x (by simpa using b)
  refine⟨t::l,rfl,fun i u H=>?_⟩;cases i with
  |zero=>simp at H;subst H;exact c|succ i=>
   rw[show k+(i+1)=k+1+i by omega];exact hl i u (by simpa using H)
open PySem L2
theorem str_0:strF [.int 0] m = .ok (.str ⟨#[48]⟩) m:=rfl
theorem str_1:strF [.int 1] m = .ok (.str ⟨#[49]⟩) m:=rfl
theorem zdn{fs:List Fd}{wys:List Wy}(hs:zkX fs)(H:WyOk fs wys):∀k,k<=fs.length->zeF (zcG fs wys) k<=40*k
 |0,_=>by simp[zeF]|k+1,h=>by
  have e1:=yh (show k<fs.length by omega);have e:=yh (show k<wys.length by rw[H.len];omega);rw[zdm (zgk e1 e)];have:=zdn hs H k (by omega);have b:=Wy.w_le (H.at' k _ _ e1 e);have a:=(hs k _ e1).2.1;omega
theorem zto:zmo (.int 10) (.int 18) m = .ok (.int 1000000000000000000) m:=by
 rw[zgR];have e:ztm (.int 10) (.int 18) m=if (0:Int)<=18/\(18:Int)<=1000000/\(10:Int).natAbs<2^64 then .ok (.int ((10:Int)^(18:Int).toNat)) m else .bad:=rfl
 rw[e,if_pos (by decide)];rfl
theorem add_s{a b:ae}(h:a.length+b.length<=sizeLine):zbb (.str a) (.str b) m = .ok (.str (a++b)) m:=if_pos h
open PySem L2
def dig(n:Int)(k:Nat):Nat:=if n/2^k%2=1 then 49 else 48
def dgs(n:Int):Nat->List Nat
 |0=>[]|k+1=>dig n k::dgs n k
theorem zaD(n:Int):∀k,(dgs n k).length=k
 |0=>rfl|k+1=>by rw[dgs,yt,zaD n k]
theorem zeE(n:Int):∀k,Bin (dgs n k)
 |0=>fun c h=>by simp[dgs]at h|k+1=>fun c h=>by
  rw[dgs,yn]at h;rcases h with rfl|h
  ·unfold dig;split <;> simp
  ·exact zeE n k c h
theorem zgo{a b:ae}(h:a.cps.toList=b.cps.toList):a=b:=by
 cases a;cases b;congr 1;exact ycM h
theorem zca{x:Int}{w:Nat}(g:w<=40):Run (zcm [.int x,.int w] m) fun a m'=>a = .str ⟨(dgs x w).toArray⟩/\m'=m:=by
 unfold zcm zkq;erw [zfI (by(clear g;omega)) (by omega),yax];ac_nf;refine Run.bind (zaT (fun k ρ m'=>∃(x3:Option D),ρ = [aa (.int (x/2^k)),aa (.int w),aa (.str ⟨(dgs x k).toArray⟩),x3]/\m'=m) (zcc 0 w) 0 ⟨none,by rw[Int.pow_zero,Int.ediv_one];rfl,rfl⟩ ?_) ?_
 ·rintro i d ρ m' hd ⟨x3,rfl,rfl⟩;have hi:i<w:=by
   have:=(ye.mp hd).1;rw[zaU]at this;exact this
  rw[yq];have H:x/2^i/2=x/2^(i+1):=by rw[Int.ediv_ediv_of_nonneg (Int.le_of_lt (p2 i)),ybd]
  have F:∀(c:Nat),c=dig x i->Run ((zbb (.str ⟨#[c]⟩) (.str ⟨(dgs x i).toArray⟩) m').bind fun a m=>(zja (.int (x/2^i)) (.int 2) m).bind fun b m=>Res.ok (Fl.nx [aa b,aa (.int w),aa a,aa d]) m) fun l m2=>∃ρ2,l=Fl.nx ρ2/\∃(x3:Option D),ρ2=[aa (.int (x/2^(i+1))),aa (.int w),aa (.str ⟨(dgs x (i+1)).toArray⟩),x3]/\m2=m':=by
   intro c f;have h1:(⟨(dgs x i).toArray⟩:ae).length=i:=by show (dgs x i).toArray.size=i;rw[yp,zaD]
   have j:(⟨#[c]⟩:ae).length=1:=rfl;rw[add_s (by rw[h1,j];exact yah (zbr (by(clear j h1 f H;omega))))];erw [zux (by decide)];erw [H];have e:(⟨#[c]⟩:ae)++⟨(dgs x i).toArray⟩=⟨(dgs x (i+1)).toArray⟩:=by
    refine zgo ?_;rw[PySem.W.KT.app_list,dgs,f];simp
   rw[e];exact Run.ok ⟨_,rfl,_,rfl,rfl⟩
  erw [zbm (by decide)];ac_nf;rcases (show x/2^i%2=0∨x/2^i%2=1 by(clear H hi g;omega)) with h | h
  ·rw[h,str_0];ac_nf;exact F 48 (by unfold dig;rw[h];rfl)
  ·rw[h,str_1];ac_nf;exact F 49 (by unfold dig;rw[h];rfl)
 ·rintro _ m' ⟨ρ,rfl,x3,rfl,rfl⟩;erw [yq,zaU];ac_nf;exact Run.ok ⟨rfl,rfl⟩
def pcK(fs:List Fd)(wys:List Wy)(hd:List Int):Nat->List Nat
 |0=>[]|k+1=>pcK fs wys hd k++match fs[k]?,wys[k]?,hd[k]? with
  |some f,aa w,aa v=>dgs (v%2^w.w f.b) (w.w f.b)|_,_,_=>[]
theorem zcK{fs:List Fd}{wys:List Wy}{hd:List Int}(H:WyOk fs wys)(a:HdOk fs hd):∀k,k<=fs.length->(pcK fs wys hd k).length=zeF (zcG fs wys) k
 |0,_=>by simp[pcK,zeF]|k+1,h=>by
  have e1:=yh (show k<fs.length by omega);have e:=yh (show k<wys.length by rw[H.len];omega);have E:=yh (show k<hd.length by rw[a.len];omega);rw[pcK,e1,e,E,yj,zcK H a k (by omega),zdm (zgk e1 e)];simp only[zaD]
theorem ziN{fs:List Fd}{wys:List Wy}{hd:List Int}:∀k,Bin (pcK fs wys hd k)
 |0=>fun c h=>by simp[pcK]at h|k+1=>fun c h=>by
  rw[pcK]at h;rcases yJ.mp h with h|h
  ·exact ziN k c h
  ·split at h
   ·exact zeE _ _ c h
   ·simp at h
open PySem PyProof.Rows L2 Mth
def pc1(fs:List Fd)(wys:List Wy)(hd:List Int)(k:Nat):List Nat:=match fs[k]?,wys[k]?,hd[k]? with
 |some f,aa w,aa v=>dgs (v%2^w.w f.b) (w.w f.b)|_,_,_=>[]
theorem zkQ{b : Type}(f : b -> Bool):∀l:List b,znT (l.map fun t=>D.bl (f t))=aa (l.map f)
 |[]=>rfl|a::r=>by simp only[yl,znT,zkQ f r];rfl
open PySem L2
theorem neg_1:zn0 (.int 1) m = .ok (.int (-1)) m:=rfl
theorem new_1(a:D):zkg [a] m = .ok (.ob m.length) (m++[.lst [a]]):=if_pos (zbs (by simp))
theorem zuj(h:m[r]?=aa (.lst (xs++[d]))):ixD (.ob r) (.int (-1)) m = .ok d m:=by
 simp only[ixD,h];have:L2.atI (xs++[d]) (-1)=aa d:=by
  unfold L2.atI L2.ixN;rw[if_neg (by decide),if_pos (by simp;omega)];have e:((-1:Int)+((xs.length:Int)+1)).toNat=xs.length:=by omega
  simp[e]
 rw[this];rfl
theorem ix_ob{n:Nat}(h:m[r]?=aa (.lst xs))(hd:xs[n]?=aa d):ixD (.ob r) (.int n) m = .ok d m:=by
 simp only[ixD,h];rw[zhs,hd];rfl
theorem zsf(h:m[r]?=aa (.lst xs)):zew [.ob r] m = .ok (.int xs.length) m:=by simp only[zew,h]
theorem max_i(a b:Int):zi4 [.int a,.int b] m = .ok (.int (if b>a then b else a)) m:=rfl
variable{ns:List Int}
theorem max_l(h:ns≠[]):zj1 [.lst (ns.map D.int)] m = .ok (.int (zn1 ns)) m:=by
 simp only[zj1,lOf,yar,zcq,if_pos h]
theorem slA_t(ds:List D)(lo hi:Option Int):slA (.tup ds) lo hi m = .ok (.tup (zlP ds lo hi)) m:=rfl
theorem zuE{a b:List D}(h:a.length+b.length<=sizeLine):zbb (.tup a) (.tup b) m = .ok (.tup (a++b)) m:=if_pos h
theorem zjV(l:List Nat):∀a:Int,l.foldl (fun a c=>a*2+if c=49 then 1 else 0) a=a*2^l.length+zc0 l:=by
 induction l with
 |nil=>intro a;simp[zc0]|cons c l i=>
  intro a;rw[yaT,i];have e:zc0 (c::l)=(if c=49 then 1 else 0)*2^l.length+zc0 l:=by
   unfold zc0;rw[yaT,i];simp only[ycX,ybc];rfl
  rw[e,yt,ybd];generalize (2:Int)^l.length=B;generalize zc0 l=C;split
  ·rw[ycI,yaX,yas 2 B,Int.add_assoc]
  ·rw[Int.add_zero,yaX,yas 2 B,ycX,ybc]
theorem zpo(c:Nat)(l:List Nat):zc0 (c::l)=(if c=49 then 1 else 0)*2^l.length+zc0 l:=by
 have:=zjV (c::l) 0;unfold zc0;rw[yaT,zjV];simp only[ycX,ybc];rfl
theorem zt6(n:Int)(k:Nat):n%2^(k+1)=(n/2^k%2)*2^k+n%2^k:=by
 have h:=p2 k;rw[ybd];generalize (2:Int)^k=B at h;have h1:=ydZ n B;have H:=ydZ (n/B) 2;have d:=yQ n (b:=B) (by(clear H h1;omega));have c:=yV n h;have a:=yQ (n/B) (b:=2) (by(clear c d H h1 h;omega));have f:=yV (n/B) (b:=2) (by(clear a c d H h1 h;omega));generalize hs:n/B%2=s at *;generalize hr:n%B=r at *;generalize n/B/2=q at *;have e:n=s*B+r+B*2*q:=by
  rw[<- H]at h1;rw[<- h1,Int.mul_add,yas B s,<- yaX]
  (clear H h1 c d hr f a hs h;omega)
 rw[e,Int.add_mul_emod_self_left];apply yaN
 ·have:=Int.mul_nonneg a (Int.le_of_lt h);(clear e H c h1 hr f a hs h;omega)
 ·rcases (show s=0∨s=1 by(clear e H c d h1 hr hs h;omega)) with rfl | rfl
  ·(clear e H f a hs h1 hr h;omega)
  ·(clear e H f a hs d h1 hr h;omega)
theorem zeL(n:Int):∀w,zc0 (dgs n w)=n%2^w
 |0=>by simp[dgs,zc0,Int.emod_one]|k+1=>by
  rw[dgs,zpo,zaD,zeL n k,zt6];congr 2;have H:=yQ (n/2^k) (b:=2) (by omega);have a:=yV (n/2^k) (b:=2) (by(clear H;omega));unfold dig;by_cases h:n/2^k%2=1
  ·rw[if_pos h,if_pos rfl,h]
  ·rw[if_neg h,if_neg (by decide)]
   (clear a H;omega)
theorem zoX(fs:List Fd)(wys:List Wy)(hd:List Int){k:Nat}:∀N,k<N->∃t,pcK fs wys hd N=pcK fs wys hd k++(pc1 fs wys hd k++t)
 |0,h=>by omega|N+1,h=>by
  have e:∀j,pcK fs wys hd (j+1)=pcK fs wys hd j++pc1 fs wys hd j:=fun j=>by
   rw[pcK];congr 1
  rcases ybz k N with H|H
  ·obtain⟨t,a⟩:=zoX fs wys hd N H;exact⟨t++pc1 fs wys hd N,by rw[e,a];simp only[yX]⟩
  ·have:k=N:=by omega
   subst this;exact⟨[],by rw[e,y6]⟩
variable{hd:List Int}
theorem zpn{fs:List Fd}(h:WyOk fs wys)(c:HdOk fs hd){k:Nat}{w:Wy}(e:fs[k]?=aa f)(a:wys[k]?=aa w)(g:hd[k]?=aa v) : zgZ (pcK fs wys hd fs.length) (zcG fs wys) k=v%2^w.w f.b:=by
 have b:k<fs.length:=(ye.mp e).1;obtain⟨t,H⟩:=zoX fs wys hd fs.length b;unfold zgZ;have E:(zcG fs wys).getD k 0=w.w f.b:=by rw[yaf,zgk e a];rfl
 have e5:pc1 fs wys hd k=dgs (v%2^w.w f.b) (w.w f.b):=by simp only[pc1,e,a,g]
 rw[H,E,e5,<- zcK h c k (by(clear E;omega)),List.drop_append_of_le_length (yc _),yd0,ybx];have d:List.take (w.w f.b) (dgs (v%2^w.w f.b) (w.w f.b)++t)=dgs (v%2^w.w f.b) (w.w f.b):=by
  rw[ycY (by rw[zaD];exact yc _),yae (by rw[zaD];exact yc _)]
 rw[d,zeL,Int.emod_emod]
theorem zmv{g:GV}{b:SV}(I:Nat->En->Sto->Prop)(R:D->Sto->Prop):∀(ds:List D)(k:Nat){ρ : En}{m:Sto},I k ρ m->(∀i d ρ m,ds[i]?=aa d->I (k+i) ρ m->Run ((g d ρ m).bind b) fun f m2=>(∃a,f = .nx a/\I (k+i+1) a m2)∨∃v,f = .rt v/\R v m2) →
  Run (zeP g b ds ρ m) fun f m'=>(∃ρ',f = .nx ρ'/\I (k+ds.length) ρ' m')∨∃v,f = .rt v/\R v m'
 |[],k,ρ,m,h,_=>⟨_,m,rfl,.inl ⟨ρ,rfl,h⟩⟩|d::r,k,ρ,m,h,st=>by
  obtain⟨f,m2,e2,h2⟩:=st 0 d ρ m rfl h;rcases h2 with⟨a,rfl,h2⟩|⟨v,rfl,h2⟩
  ·obtain⟨F,m',e,H⟩:=zmv I R r (k+1) h2 fun i d ρ m hd hi=>by
    have:=st (i+1) d ρ m (by simpa using hd) (by rw[show k+(i+1)=k+1+i by omega];exact hi);rw[show k+(i+1)+1=k+1+i+1 by omega]at this;exact this
   refine⟨F,m',?_,by rw[yt,show k+(r.length+1)=k+1+r.length by(clear H;omega)];exact H⟩;rw[zeP,<- Res.bind_assoc,e2,bind_ok];exact e
  ·exact⟨.rt v,m2,by rw[zeP,<- Res.bind_assoc,e2,bind_ok],.inr ⟨v,rfl,h2⟩⟩
section
theorem is_nn:isD .non .non m = .ok (.bl ac) m:=rfl
theorem isnt_nn:zc5 .non .non m = .ok (.bl ag) m:=rfl
end
theorem zqM{fs:List Fd}{a b:Int}(hs:zkX fs)(hn:fs.length<=12)(h:WyOk fs wys):zfu [shD fs n,fmD a b wys] m = .ok (.int ((zcG fs wys).sum:Nat)) m:=by
 apply zav;unfold zfu zmC;erw [zav (zhM (by omega) h.len)];ac_nf;have e:((zcG fs wys).map fun k:Nat=>D.int k)=((zcG fs wys).map fun k:Nat=>(k:Int)).map D.int:=by rw[yY];rfl
 rw[e];simp only[zsJ,lOf,yar,zcq];have hok:∀x,x∈((zcG fs wys).map fun k:Nat=>(k:Int))->0<=x/\x<=2^50:=by
  intro x c;simp only[yR]at c;obtain⟨k,f,rfl⟩:=c;obtain⟨i,hi⟩:=ybB.mp f;have H:i<fs.length:=by have:=(ye.mp hi).1;rw[zb2 h]at this;exact this
  have E:=yh H;have d:=yh (show i<wys.length by rw[h.len];exact H);rw[zgk E d]at hi;cases hi;have:=Wy.w_le (h.at' i _ _ E d);have:=(hs i _ E).2.1
  (clear hn;omega)
 rw[if_pos ⟨hok,by rw[yg,zb2 h];omega⟩];ac_nf;refine Run.ok ⟨?_,rfl⟩;congr 1;generalize zcG fs wys=l;induction l with
 |nil=>rfl|cons x l I=>simp only[yl,List.sum_cons,I];(clear I hn;omega)
theorem ix_sh{fs:List Fd}:ixD (shD fs n) (.int 0) m = .ok (.tup (fs.map Fd.e)) m:=ix_t0 _ _
open PySem L2
theorem isi_tn:zhI "tuple" .non m = .ok (.bl ag) m:=rfl
theorem zc8{l:Sto}(h:m[r]?=aa o):(m++l)[r]?=aa o:=by
 rw[yI (ye.mp h).1];exact h
theorem zn9(h:xs.length<=1000):zbg xs m = .ok (.tup xs) m:=if_pos (yx h (by decide))
theorem zsv(xs:List τ)(k:Nat):zlP xs none (aa (k:Int))=xs.take k:=by
 unfold zlP;rw[HT.sIx_nat,HT.sIx_none,yb3,Nat.sub_zero];rcases Nat.le_total k xs.length with h|h
 ·rw[Nat.min_eq_left h]
 ·rw[Nat.min_eq_right h,ybs,yae h]
theorem mul_t(h:1<=n/\n<=1000):zdC (.tup [d]) (.int n) m = .ok (.tup (yd n.toNat d)) m:=by rw[zg1];exact if_pos h
open PySem L2
def kGI3(ρ : En):Unit->Sto->Res En:=fun _ m=>.ok ρ m
def kGI2(ρ : En)(d x:D):D->Sto->Res En:=fun y m=>(putL x y d m).bind (kGI3 ρ)
def kGI1(fi:EV)(ρ : En)(d:D):D->Sto->Res En:=fun x m=>(fi ρ m).bind (kGI2 ρ d x)
variable{fi:EV}
section
variable{x y:D}{fo:EV}
theorem gI_at:gI fo fi d ρ m=(fo ρ m).bind (kGI1 fi ρ d):=rfl
theorem zpN:kGI1 fi ρ d x m=(fi ρ m).bind (kGI2 ρ d x):=rfl
theorem zpM:kGI2 ρ d x y m=(putL x y d m).bind (kGI3 ρ):=rfl
theorem zuh:kGI3 ρ () m = .ok ρ m:=rfl
theorem lst_6(a b c e f g:D):zcA [a,b,c,e,f,g] m = .ok (.lst [a,b,c,e,f,g]) m:=if_pos (zbs (by simp))
theorem zrz(a b c e f g i:D):zcA [a,b,c,e,f,g,i] m = .ok (.lst [a,b,c,e,f,g,i]) m:=if_pos (zbs (by simp))
end
theorem alpha(h:j<26):ixD (.str "abcdefghijklmnopqrstuvwxyz") (.int j) m = .ok (.str ⟨#[97+j]⟩) m:=by
 have H:∀j,j<26->(yH "abcdefghijklmnopqrstuvwxyz").cps.toList[j]?=aa (97+j):=by decide
 have e:ixD (.str "abcdefghijklmnopqrstuvwxyz") (.int j) m=if (yH "abcdefghijklmnopqrstuvwxyz").length<=sizeLine then opt ((L2.atI (yH "abcdefghijklmnopqrstuvwxyz").cps.toList j).map fun c=>D.str ⟨#[c]⟩) m else .bad:=rfl
 rw[e,if_pos (by decide),zhs,H j h];rfl
theorem add_ss{a b:ae}(h:a.length+b.length<=sizeLine):zbb (.str a) (.str b) m = .ok (.str (a++b)) m:=if_pos h
theorem zlW{n:Nat}(h:(zcc 0 n)[i]?=aa d):d = .int (i:Nat):=by
 have hi:=(ye.mp h).1;rw[zaU]at hi;simp only[zcc,yz,ycb hi,yaC,yaq,ybc]at h;exact h.symm
variable{y:Int}
theorem ztT{d:Int}(h:(2:Int)^b∣(2*y+1)*d):(2:Int)^b∣d:=by
 induction b generalizing d with
 |zero=>simp|succ b i=>
  obtain⟨c,H⟩:=h;rw[ybd]at H;have j:d%2=0:=by
   have a:(2*y+1)*d=2*(y*d)+d:=by rw[ycI,yaX,Int.one_mul]
   have E:2^b*2*c=2*(2^b*c):=by rw[yas (2^b) 2,yaX]
   rw[a,E]at H;generalize y*d=u at H;generalize (2:Int)^b*c=w at H;omega
  obtain⟨d',rfl⟩:∃d',d=2*d':=⟨d/2,by omega⟩;have g:(2:Int)^b∣(2*y+1)*d':=by
   refine⟨c,?_⟩;have a:(2*y+1)*(2*d')=2*((2*y+1)*d'):=by rw[Int.mul_left_comm]
   have E:2^b*2*c=2*(2^b*c):=by rw[yas (2^b) 2,yaX]
   rw[a,E]at H;omega
  obtain⟨e,f⟩:=i g;exact⟨e,by rw[f,ybd,yas (2^b) 2,yaX]⟩
theorem zs1{f:Int}(hi:(i:Int)<2^b)(H:(j:Int)<2^b)(h:(f+(2*y+1)*i)%2^b=(f+(2*y+1)*j)%2^b):i=j:=by
 have h1:(2:Int)^b∣(2*y+1)*((i:Int)-j):=by
  have:=Int.dvd_of_emod_eq_zero (Int.emod_eq_emod_iff_emod_sub_eq_zero.mp h);rw[show f+(2*y+1)*i-(f+(2*y+1)*j)=(2*y+1)*((i:Int)-j) by rw[Int.mul_sub];omega]at this;exact this
 obtain⟨c,a⟩:=ztT h1;have d:=p2 b;generalize (2:Int)^b=B at *;rcases Int.lt_trichotomy c 0 with h0|h0|h0
 ·have:B*c<=B*(-1):=yd1 (by omega) (by omega);omega
 ·subst h0;omega
 ·have:B*1<=B*c:=yd1 (by omega) (by omega);omega
theorem zpp{c : Type}[DecidableEq c](g:Nat -> c):∀n,(∀i j,i<n->j<n->g i=g j->i=j)->((yw n).map g).Nodup:=fun n h=>by
 rw[List.Nodup,yd2];have:=List.nodup_range (n:=n);refine List.Pairwise.imp_of_mem ?_ this;intro a b ha d H e;exact H (h a b (ybI.mp ha) (ybI.mp d) e)
def Kd.Ok2(pl b:Nat)(k:Kd):Prop:=k.Ok pl b/\∀row,k = .turn row->2<=row.length/\row.Nodup
theorem zuD(bs:List Bool):allF [.lst (bs.map D.bl)] m = .ok (.bl (bs.all id)) m:=by
 simp only[allF,lOf,yar];rw[zkQ (fun b=>b)];simp
theorem add_tt{a b:List D}(h:a.length+b.length<=sizeLine):zbb (.tup a) (.tup b) m = .ok (.tup (a++b)) m:=if_pos h
theorem slen{n:Nat}(h:n<=100):n<=sizeLine:=yx h (by decide)
open PySem L2
def chB(c:Nat):Bool:=decide (97<=c/\c<=122)
def nmB(x:ae):Bool:=decide (1<=x.length/\x.length<=8)&&x.cps.toList.all chB
structure ShG(fs:List Fd):Prop where
 at':∀(i:Nat)(f:Fd),fs[i]?=aa f->0<f.b/\f.b<=40/\f.kd.Ok2 i f.b
 nm:∀x∈fs.map Fd.nm,nmB x=ac/\x.length<=8
 nd:(fs.map Fd.nm).Nodup
theorem ShG.ok{fs:List Fd}(h:ShG fs):zkX fs:=fun i f H=>let ⟨a,b,c⟩:=h.at' i f H;⟨a,b,c.1⟩
open PySem L2
def zlU(q:Nat)(seed turn:Int):List (L2.Key×D):=[(yam "own", .ob q),(yam "seed", .int seed),(yam "turn", .int turn)]
structure P3(m0:Sto)(p q:Nat)(c:Nat)(m:Sto):Prop where
 ex:∃(own:List Int)(seed turn:Int),m[p]?=aa (.dct (zlU q seed turn))/\m[q]?=aa (.lst (own.map D.int))/\p≠q/\own.length<=63/\(∀a∈own,0<=a)/\0<=seed/\seed<2^62/\0<=turn/\turn<=c
 fr:Fr p q m0 m
variable{m0:Sto}{c':Nat}
theorem P3.more(h:P3 m0 p q c m)(k:c<=c'):P3 m0 p q c' m:=by
 obtain⟨own,s,t,h1,g,e,d,f,b,a,H,i⟩:=h.ex;exact⟨⟨own,s,t,h1,g,e,d,f,b,a,H,by(clear H a b d e;omega)⟩,h.fr⟩
theorem P3.re(h:P3 m0 p q c m):P3 m p q c m:=⟨h.ex,Fr.refl⟩
variable{m':Sto}
theorem P3.via(h:P3 m0 p q c m)(h':P3 m p q c' m'):P3 m0 p q c' m':=⟨h'.ex,h.fr.trans h'.fr⟩
theorem P3.lt(h:P3 m0 p q c m):p<m.length/\q<m.length:=by
 obtain⟨own,s,t,h1,H,_⟩:=h.ex;exact⟨(ye.mp h1).1,(ye.mp H).1⟩
theorem P3.app{r:Sto}(h:P3 m0 p q c m):P3 m0 p q c (m++r):=by
 obtain⟨own,s,t,h1,H,e⟩:=h.ex;exact⟨⟨own,s,t,by rw[yI (ye.mp h1).1];exact h1,by rw[yI (ye.mp H).1];exact H,e⟩,by rw[yj];exact yx h.fr.len (ybw _ _),fun j a b d=>by rw[yI (yB a h.fr.len)];exact h.fr.at' j a b d⟩
theorem P3.set(h:P3 m0 p q c m)(h0:m0.length<=r)(h1:r≠p)(e:r≠q):P3 m0 p q c (m.set r o):=by
 obtain⟨own,s,t,g1,g,H⟩:=h.ex;exact⟨⟨own,s,t,by rw[zaM h1];exact g1,by rw[zaM e];exact g,H⟩,by rw[yad];exact h.fr.len,fun j a b d=>by rw[zaM (by omega)];exact h.fr.at' j a b d⟩
theorem P3.kept(h:P3 m p q c m')(hr:m[r]?=aa o)(h1:r≠p)(H:r≠q):m'[r]?=aa o:=by
 rw[h.fr.at' r (ye.mp hr).1 h1 H];exact hr
theorem zfF(q:Nat)(s t:Int):zd4 (zlU q s t) (.inr "own")=aa (.ob q):=rfl
theorem zsF(q:Nat)(s t:Int):zd4 (zlU q s t) (.inr "seed")=aa (.int s):=rfl
theorem zn3(q:Nat)(s t:Int):zd4 (zlU q s t) (.inr "turn")=aa (.int t):=rfl
theorem ztF(q:Nat)(s t v:Int):zh0 (zlU q s t) (.inr "turn") (.int v)=zlU q s v:=rfl
theorem zrX(q:Nat)(s t:Int):(zlU q s t).length<sizeLine:=by show 3<sizeLine;decide
def ztI:TV:=by walk_at "#tFt:u?vEtQZvFS"
def ownB:SV:=by walk_at "#uIx|u?d!"
theorem zpr(h:m[q]?=aa (.lst (own.map D.int))):neD (.ob q) (.lst []) m = .ok (.bl (!decide (own=[]))) m:=by
 have e:=zqg own [];rw[yaz]at e;simp only[neD,rs,h,e]
theorem zpU{a:Int}(h:m[q]?=aa (.lst ((a::own).map D.int))):ixD (.ob q) (.int 0) m = .ok (.int a) m:=by
 simp only[ixD,h];show opt (atI _ ((0:Nat):Int)) m=_;rw[zhs];rfl
theorem zmr{p q:Nat}{seed turn:Int}{ρ : En}:∀(own:List Int)(n:Nat)(m:Sto),own.length<n->m[p]?=aa (.dct (zlU q seed turn))->m[q]?=aa (.lst (own.map D.int))->p≠q →
  Run (zd2 ztI ownB n (aa (.ob p)::ρ) m) fun f m'=>f = .nx (aa (.ob p)::ρ)/\∃o:List Int,(o=[]∨∃a r,o=a::r/\a≠0)/\(∀a∈o,a∈own)/\o.length<=own.length/\m'[p]?=aa (.dct (zlU q seed turn))/\m'[q]?=aa (.lst (o.map D.int))/\Fr p q m m'
 |own,0,m,h,_,_,_=>absurd h (ybC _)|[],n+1,m,h,h1,h2,H=>by
  rw[zd2];have e:ztI (aa (.ob p)::ρ) m = .ok ag m:=by
   unfold ztI;erw [zbf h1 (zfF _ _ _)];erw [zpr (own:=[]) h2];rfl
  rw[e,bind_ok,if_neg (by decide)];exact Run.ok ⟨rfl,[],.inl rfl,fun _ h=>h,yc _,h1,h2,Fr.refl⟩
 |a::own,n+1,m,h,h1,h2,H=>by
  rw[zd2];have e:ztI (aa (.ob p)::ρ) m = .ok (decide (a=0)) m:=by
   unfold ztI;erw [zbf h1 (zfF _ _ _)];erw [zpr h2];rw[decide_eq_false (by simp)];erw [zbf h1 (zfF _ _ _)];erw [zpU h2];ac_nf
  rw[e,bind_ok];by_cases h0:a=0
  ·rw[if_pos (decide_eq_true h0)];have E:ownB (aa (.ob p)::ρ) m = .ok (.nx (aa (.ob p)::ρ)) (m.set q (.lst (own.map D.int))):=by
    unfold ownB;erw [zbf h1 (zfF _ _ _)];erw [if_pos (show zfp (.ob q) m=ac by simp only[zfp,h2])];erw [zoN h2];ac_nf
   rw[E,bind_ok];refine Run.mono (zmr own n (m.set q (.lst (own.map D.int))) (by simp at h;omega) (by rw[zaM (Ne.symm H)];exact h1) (zbw h2) H) ?_;rintro f m' ⟨rfl,o,g1,d,g3,c,G,g⟩;exact⟨rfl,o,g1,fun x b=>yK _ (d x b),by simp;omega,c,G,Fr.set'.trans g⟩
  ·rw[if_neg (by simp[h0])];exact Run.ok ⟨rfl,a::own,.inr ⟨a,own,rfl,h0⟩,fun _ h=>h,yc _,h1,h2,Fr.refl⟩
theorem zko:zkp=(zan (zeH zfx ztI ownB)
 (zan (sIf (tV (eOp neD (eOp ixD (zad 0) (eC (.str "own"))) (eFn zcA zaj)))
 (zan (zaA (eOp zdk (eOp ixD (eOp ixD (zad 0) (eC (.str "own"))) (eC (.int 0))) (zad 1)) (gN 2))
 (zan (zaA (eOp zja (eOp ixD (eOp ixD (zad 0) (eC (.str "own"))) (eC (.int 0))) (zad 1)) (gI (eOp ixD (zad 0) (eC (.str "own"))) (eC (.int 0))))
 (zaE (zad 2))))
 za0)
 (zan (zgz (zad 0) (eC (.str "turn")) (eOp zbb (eOp ixD (zad 0) (eC (.str "turn"))) (eC (.int 1))))
 (zan (zaA (eOp ixD (zad 0) (eC (.str "turn"))) (gN 3))
 (zan (zaA (eOp zbb (eOp zbb (eOp ixD (zad 0) (eC (.str "seed"))) (eOp zdC (eOp zdC (zad 3) (zad 3)) (eC (.int 7919)))) (eOp zdC (zad 3) (eC (.int 104729)))) (gN 4))
 (zan (zaA (eOp zdk (eOp zdC (zad 4) (eC (.int 48271))) (eC (.int 2305843009213693921))) (gN 4))
 (zan (zaA (eOp zdk (eOp zdC (zad 4) (eOp zbb (eOp zdk (zad 4) (eC (.int 1000003))) (eC (.int 69621)))) (eC (.int 2305843009213693907))) (gN 4))
 (zaE (eOp zdk (eOp zja (zad 4) (eC (.int 65537))) (zad 1)))))))))):=rfl
theorem ztf{a b:Int}(h:m[q]?=aa (.lst ((a::own).map D.int))):putL (.ob q) (.int 0) (.int b) m = .ok () (m.set q (.lst ((b::own).map D.int))):=by
 have e:ixN ((a::own).map D.int).length 0=aa 0:=by
  unfold ixN;rw[if_pos (by decide),if_pos (by simp)];rfl
 simp only[putL,h,e];rfl
theorem zil{n:Nat}{t:TV}{b:SV}:zeH n t b ρ m=zd2 t b n ρ m:=rfl
theorem zaS{k:Int}(hp:P3 m0 p q c m)(A:c<2^40)(k0:0<k)(k1:k<2^64) : Run (zaz [.ob p,.int k] m) fun a m'=>∃d:Int,a = .int d/\0<=d/\d<k/\P3 m p q (c+1) m':=by
 obtain⟨own,s,t,h1,z,e,n,l,j,i,y,B⟩:=hp.ex;unfold zaz;rw[zko,run_at];show Run (Res.bind (zan (zeH zfx ztI ownB) _ (aa (.ob p)::[aa (.int k),none,none,none]) m) zeG) _;rw[seq_at,zil,bind_then];refine Run.bind (zmr (ρ := [aa (.int k),none,none,none]) own zfx m (ybU n (by decide)) h1 z e) ?_;rintro _ m1 ⟨rfl,o,g1,v,g3,g,G,u⟩;erw [zbf g (zfF _ _ _)];erw [zpr G];rcases g1 with rfl|⟨a,r,rfl,a0⟩
 ·rw[decide_eq_true rfl];erw [zbf g (zn3 _ _ _)];erw [zli g (zrX _ _ _),ztF];have H:(m1.set p (.dct (zlU q s (t+1))))[p]?=aa (.dct (zlU q s (t+1))):=zbw g;have b:(m1.set p (.dct (zlU q s (t+1))))[q]?=aa (.lst (([]:List Int).map D.int)):=by rw[zaM e];exact G
  have f2:Fr p q m (m1.set p (.dct (zlU q s (t+1)))):=u.trans Fr.set;generalize w:m1.set p (.dct (zlU q s (t+1)))=m2 at H b f2;erw [zbf H (zn3 _ _ _)];erw [zbf H (zsF _ _ _)];erw [zf7 ⟨by omega,by omega⟩];erw [zhG ⟨by decide,by decide⟩];erw [zf7 ⟨by omega,by omega⟩];erw [zhG ⟨by decide,by decide⟩];erw [zbm (by decide)];ac_nf;rw[zbm (by decide)];erw [zhG (zpv _)];erw [zbm (by decide)];erw [zux ⟨by decide,by decide⟩];erw [zbm k0];ac_nf;exact Run.ok ⟨_,rfl,yQ _ (by omega),yV _ k0,⟨⟨[],s,t+1,H,b,e,by decide,fun _ h=>(nomatch h),j,i,by omega,by omega⟩,f2⟩⟩
 ·rw[decide_eq_false (by simp)];erw [zbf g (zfF _ _ _)];erw [zpU G];erw [zbm k0];erw [zbf g (zfF _ _ _)];erw [zpU G];erw [zux ⟨k0,k1⟩];ac_nf;simp only[gI_at,zpN,zpM,bind_ok,bind_then,eC_at,op_at,kop_at,var_0];rw[zbf g (zfF _ _ _)];simp only[bind_ok,then_at,zpN,zpM,eC_at,bind_then];rw[ztf G];simp only[bind_ok,then_at,zuh];ac_nf;have ha:0<=a:=l a (v a (by simp));exact Run.ok ⟨_,rfl,yQ _ (by omega),yV _ k0,⟨⟨a/k::r,s,t,by rw[zaM (Ne.symm e)];exact g,zbw G,e,yx g3 n,fun x f=>by
   rcases yn.mp f with rfl|f
   ·exact Int.ediv_nonneg ha (by omega)
   ·exact l x (v x (yK _ f)),j,i,y,by omega⟩,u.trans Fr.set'⟩⟩
theorem zcf(hp:P3 m0 p q c m)(b:c<2^40)(h0:0<xs.length)(h1:xs.length<1000) : Run (zaJ [.ob p,.lst xs] m) fun a m'=>a∈xs/\P3 m p q (c+1) m':=by
 unfold zaJ zp4;ac_nf;refine Run.bind (zaS hp b (by omega) (by omega)) ?_;rintro _ m1 ⟨d,rfl,f,D,h⟩;ac_nf;obtain⟨x,H,e⟩:=zsh (m:=m1) (xs:=xs) f D;rw[e];exact Run.ok ⟨H,h⟩
theorem zfb(hp:P3 m0 p q c m)(l:c+2<2^40)(k:b<=40) : Run (zbu [.ob p,.int b] m) fun a m'=>∃v:Int,a = .int v/\0<=v/\v<2^b/\P3 m p q (c+2) m':=by
 have g:=p2 b;have f:=p2lt k;unfold zbu zhj;erw [zcz (by omega)];erw [zcz (by omega)];ac_nf;refine Run.bind (zaS hp (by omega) g f) ?_;rintro _ m1 ⟨x,rfl,X,x1,h⟩;ac_nf;refine Run.bind (zaS h (by omega) (by decide) (by decide)) ?_;rintro _ m2 ⟨y,rfl,j,Y,d⟩;ac_nf;obtain⟨v,i,e⟩:=zsh (m:=m2) (xs:=[.int 0,.int 1,.int (2^b-1),.int x]) j Y;rw[e];ac_nf;have H:∃n:Int,v = .int n:=by
  simp only[yn,yF,or_false]at i;rcases i with rfl|rfl|rfl|rfl <;> exact⟨_,rfl⟩
 obtain⟨n,rfl⟩:=H;rw[zcz (by omega)];erw [zbm g];ac_nf;exact Run.ok ⟨_,rfl,yQ _ (by omega),yV _ g,h.via d⟩
theorem zrs(n:Int):zn0 (.int n) m = .ok (.int (-n)) m:=rfl
theorem zpL(hp:P3 m0 p q c m)(Q:c+8<2^40)(h1:0<b)(u:b<=40)(G:pl<=100) : Run (zdJ [.ob p,.int pl,.int b] m) fun a m'=>∃kd:Kd,a=kd.e/\kd.Ok2 pl b/\P3 m p q (c+8) m':=by
 have s:=p2 b;have r:=p2lt u;have I:=p2le u;have J:(2:Int)<=2^b:=by
  have:=ydV (n:=2) (by decide) h1
  exact_mod_cast this
 unfold zdJ zh8;ac_nf;refine Run.bind (zaS hp (by omega) (by decide) (by decide)) ?_;rintro _ m1 ⟨w,rfl,w0,w1,H⟩;ac_nf;by_cases c1:w<2
 ·rw[if_pos c1];ac_nf;exact Run.ok ⟨.still,rfl,⟨trivial,fun _ h=>by cases h⟩,H.more (by omega)⟩
 rw[if_neg c1];ac_nf;by_cases B:w<4
 ·rw[if_pos B];ac_nf;refine Run.bind (zfb H (by omega) u) ?_;rintro _ m2 ⟨x,rfl,X,x1,f⟩;ac_nf;exact Run.ok ⟨.step x,rfl,⟨⟨X,x1⟩,fun _ h=>by cases h⟩,(H.via f).more (by omega)⟩
 rw[if_neg B];ac_nf;by_cases A:w=4
 ·rw[if_pos A];ac_nf;refine Run.bind (zaS H (by omega) (by decide) (by decide)) ?_;rintro _ m2 ⟨x,rfl,X,x1,f⟩;erw [zcz (by omega)];erw [zcz (by omega)];ac_nf;refine Run.bind (zaS f (by omega) s r) ?_;rintro _ F ⟨y,rfl,D,Y,g⟩;ac_nf;refine Run.bind (zaS g (by omega) (by decide) (by decide)) ?_;rintro _ M ⟨z,rfl,L,Z,k⟩;erw [zf7 ⟨by decide,by decide⟩];ac_nf;generalize hn:(if (2:Int)^b<2+x then (2:Int)^b else 2+x)=n;have n0:2<=n:=by rw[<- hn];split <;> omega
  have n1:n<=12:=by rw[<- hn];split <;> omega
  have O:n<=2^b:=by rw[<- hn];split <;> omega
  clear hn;obtain⟨N,rfl⟩:∃N:Nat,n=N:=⟨n.toNat,by omega⟩;rw[zdN (ds:=zcc 0 N) (fun d=>match d with | .int i=>.int ((y+(2*z+1)*i)%2^b) | _=>.non)]
  ·ac_nf;refine Run.ok ⟨.turn ((yw N).map fun i:Nat=>(y+(2*z+1)*(i:Int))%2^b),?_,⟨⟨?_,by simp;omega,?_⟩,fun row h=>?_⟩,(H.via (f.via (g.via k))).more (by omega)⟩
   ·simp only[Kd.e,zcc,yY,ybc];rfl
   ·intro h;have:=congrArg yaG h;simp at this;omega
   ·intro v l;simp only[yR]at l;obtain⟨i,_,rfl⟩:=l;exact⟨yQ _ (by omega),yV _ s⟩
   ·cases h;exact⟨by simp;omega,zpp _ _ fun i j hi P e=>zs1 (by omega) (by omega) e⟩
  ·erw [zfI (by omega) (by omega)];rfl
  ·rw[zaU];omega
  ·intro d hd;simp only[zcc,yR]at hd;obtain⟨i,hi,rfl⟩:=hd;refine⟨_,rfl,?_⟩;show eOp zdk (eOp zbb (zad 5) (eOp zdC (zad 6) (zad 8))) (eOp zgf (eC (.int 1)) (zad 2)) [aa (.ob p),aa (.int pl),aa (.int b),aa (.int w),aa (.int N),aa (.int y),aa (.int (2*z+1)),none,aa (.int (0+(i:Nat)))] M=_;erw [zf7 ⟨by omega,by omega⟩];erw [zcz (by omega)];erw [zbm s]
 rw[if_neg A];ac_nf;by_cases K:w<7/\0<pl
 ·rw[if_pos K.1];rw[decide_eq_true (show (0:Int)<(pl:Nat) by omega)];erw [zrs];erw [zrs];ac_nf;refine Run.bind (zaS H (by omega) (by decide) (by decide)) ?_;rintro _ m2 ⟨x,rfl,X,x1,f⟩;erw [zrz];ac_nf;refine Run.bind (zaS f (by omega) (by omega) (by omega)) ?_;rintro _ F ⟨y,rfl,D,Y,g⟩;ac_nf;refine Run.bind (zcf g (by omega) (by simp) (by simp)) ?_;rintro v M ⟨l,k⟩;ac_nf;obtain⟨i,rfl⟩:∃i:Nat,y=i:=⟨y.toNat,by omega⟩;have o:∃t:Int,v = .int t /\ -99<=t/\t<=99:=by
   simp only[yn,yF,or_false]at l;rcases l with rfl|rfl|rfl|rfl|rfl|rfl|rfl <;> exact⟨_,rfl,by omega,by omega⟩
  obtain⟨t,rfl,E,T⟩:=o;exact Run.ok ⟨.wth i t,rfl,⟨⟨by omega,E,T⟩,fun _ h=>by cases h⟩,(H.via (f.via (g.via k))).more (by omega)⟩
 ·have hd:Run (Res.bind (zan za0 (zaE (eFn zbg (zac (eC (.str "drawn")) zaj))) [aa (.ob p),aa (.int pl),aa (.int b),aa (.int w),none,none,none,none] m1) zeG) fun a m'=>∃kd:Kd,a=kd.e/\kd.Ok2 pl b/\P3 m p q (c+8) m':=by
   ac_nf;exact Run.ok ⟨.drawn,rfl,⟨trivial,fun _ h=>by cases h⟩,H.more (by omega)⟩
  by_cases C:w<7
  ·rw[if_pos C];rw[decide_eq_false (show ¬ (0:Int)<(pl:Nat) by omega)];ac_nf;exact Run.ok ⟨.drawn,rfl,⟨trivial,fun _ h=>by cases h⟩,H.more (by omega)⟩
  ·rw[if_neg C];ac_nf;exact Run.ok ⟨.drawn,rfl,⟨trivial,fun _ h=>by cases h⟩,H.more (by omega)⟩
theorem zmi(c:Nat):∀(k:Nat)(a:Array Nat),((yd k #[c]).foldl (· ++ ·) a).toList=a.toList++yd k c
 |0,a=>by simp|k+1,a=>by
  rw[y7,yaT,zmi c k];simp[y7]
theorem mul_one{n:Nat}(h:1<=n):(Txt.mul ⟨#[c]⟩ (n:Nat)).cps.toList=yd n c:=by
 unfold Txt.mul;rw[if_neg (by omega)];split
 ·rename_i H;have:n=1:=by
   rw[ybq]at H;rcases H with H|H
   ·have:=eq_of_beq H;omega
   ·exact absurd (eq_of_beq H) (by show ¬ 1=0;decide)
  subst this;rfl
 ·show ((yd (n:Int).toNat #[c]).foldl (· ++ ·) #[]).toList=_;rw[zmi];simp
theorem nm_mul{n:Nat}(a:j<26)(h1:1<=n)(H:n<=8):nmB (Txt.mul ⟨#[97+j]⟩ (n:Nat))=ac/\(Txt.mul ⟨#[97+j]⟩ (n:Nat)).length<=8/\(Txt.mul ⟨#[97+j]⟩ (n:Nat)).cps.toList.head?=aa (97+j):=by
 have e:=mul_one (c:=97+j) h1;have hl:(Txt.mul ⟨#[97+j]⟩ (n:Nat)).length=n:=by
  show (Txt.mul ⟨#[97+j]⟩ (n:Nat)).cps.size=n;rw[<- ya0,e,ya2]
 refine⟨?_,by omega,?_⟩
 ·unfold nmB;rw[hl,e,decide_eq_true ⟨h1,H⟩,Bool.true_and,yaA];intro x h;have:=(ybD.mp h).2;subst this;simp only[chB,decide_eq_true_eq];omega
 ·rw[e];cases n with
  |zero=>omega|succ n=>rfl
theorem lst_8(a b c e f g i j:D):zcA [a,b,c,e,f,g,i,j] m = .ok (.lst [a,b,c,e,f,g,i,j]) m:=if_pos (zbs (by simp))
variable{most:Nat}
theorem zm6(hp:P3 m0 p q c m)(W:c+200<2^40)(R:0<most)(Q:most<=12) : Run (zcV [.ob p,.int most] m) fun a m'=>∃(fs:List Fd)(n:Int),a=shD fs n/\0<n/\n<=1000000/\0<fs.length/\fs.length<=12/\ShG fs/\P3 m p q (c+200) m':=by
 unfold zcV zhl;ac_nf;refine Run.bind (zaS hp (by omega) (by decide) (by decide)) ?_;rintro _ m1 ⟨f,rfl,f0,f1,s⟩;obtain⟨f,rfl⟩:∃U:Nat,f=U:=⟨f.toNat,by omega⟩;erw [ztZ];ac_nf;have y:P3 m p q (c+1) (m1++[.lst []]):=s.app;have hr:(m1++[MO.lst []])[m1.length]?=aa (.lst []):=by simp
 have l:m1.length≠p:=yai s.lt.1;have H:m1.length≠q:=yai s.lt.2;have hr0:m.length<=m1.length:=s.fr.len;generalize m1.length=r at hr l H hr0 ⊢;generalize m1++[MO.lst []]=mA at y hr ⊢;refine Run.bind (zaS y (by omega) (by omega) (by omega)) ?_;rintro _ m2 ⟨k,rfl,k0,k1,E⟩;obtain⟨k,rfl⟩:∃O:Nat,k=O:=⟨k.toNat,by omega⟩;have hr2:=E.kept hr l H;have I:=y.via E;erw [zfI (by omega) (by omega)];ac_nf;refine Run.bind (zaT (fun i ρ m'=>∃(fs:List Fd)(x5 x6 x7:Option D),ρ = [aa (.ob p),aa (.int most),aa (.str "abcdefghijklmnopqrstuvwxyz"),aa (.int f),aa (.ob r),x5,x6,x7]/\m'[r]?=aa (.lst (fs.map Fd.e))/\fs.length=i/\(∀(j:Nat)(g:Fd),fs[j]?=aa g->(0<g.b/\g.b<=40/\g.kd.Ok2 j g.b)/\nmB g.nm=ac/\g.nm.length<=8/\g.nm.cps.toList.head?=aa (97+(f+3*j)%26))/\P3 m p q (c+2+9*i) m') (zcc 0 (1+(k:Int)).toNat) 0 ⟨[],none,none,none,rfl,hr2,rfl,fun j g h=>by simp at h,I⟩ ?_) ?_
 ·rintro i d ρ L hd ⟨fs,x5,x6,x7,rfl,g1,A,g3,z⟩;have hi:=(ye.mp hd).1;rw[zaU]at hi;have:=zlW hd;subst this;rw[yq]at A z ⊢;erw [lst_8];ac_nf;refine Run.bind (zcf z (by omega) (by simp) (by simp)) ?_;rintro v M ⟨B,o⟩;have w:∃b:Nat,v = .int b/\0<b/\b<=40:=by
   simp only[yn,yF,or_false]at B;rcases B with rfl|rfl|rfl|rfl|rfl|rfl|rfl|rfl
   ·exact⟨1,rfl,by decide,by decide⟩
   ·exact⟨2,rfl,by decide,by decide⟩
   ·exact⟨3,rfl,by decide,by decide⟩
   ·exact⟨4,rfl,by decide,by decide⟩
   ·exact⟨5,rfl,by decide,by decide⟩
   ·exact⟨8,rfl,by decide,by decide⟩
   ·exact⟨16,rfl,by decide,by decide⟩
   ·exact⟨40,rfl,by decide,by decide⟩
  obtain⟨b,rfl,b0,b1⟩:=w;erw [zf7 ⟨by decide,by decide⟩];erw [zbm (by decide)];erw [show ((f:Int)+3*(i:Nat))%26=(((f+3*i)%26:Nat):Int) by push_cast;rfl,alpha (Nat.mod_lt _ (by decide))];erw [zbm (by decide)];erw [show (1:Int)+((f:Int)+(i:Nat))%8=((1+(f+i)%8:Nat):Int) by push_cast;rfl,mul_s (by rfl) (by omega) (by omega)];ac_nf;have F:=o.kept g1 l H;rw[if_pos (zmz F)];ac_nf;refine Run.bind (zpL o (by omega) b0 b1 (by omega)) ?_;rintro _ V ⟨kd,rfl,S,C⟩;have G:=C.kept F l H;erw [zmV G (by rw[yg];exact zbr (by omega))];ac_nf;obtain⟨n1,K,N⟩:=nm_mul (j:=(f+3*i)%26) (n:=1+(f+i)%8) (Nat.mod_lt _ (by decide)) (by omega) (by omega);refine Run.ok ⟨_,rfl,fs++[⟨Txt.mul ⟨#[97+(f+3*i)%26]⟩ ((1+(f+i)%8:Nat):Int),b,kd⟩],_,_,_,rfl,?_,?_,?_,?_⟩
  ·rw[zbw G,yN];rfl
  ·rw[yj,A];rfl
  ·intro j g u;rcases Nat.lt_trichotomy j fs.length with t|t|t
   ·rw[yI t]at u;exact g3 j g u
   ·subst t;simp at u;subst u;exact⟨⟨b0,b1,by rw[A];exact S⟩,n1,K,by rw[A];exact N⟩
   ·rw[ycZ (by simp;omega)]at u;cases u
  ·refine P3.set ((z.via (o.via C)).more (by omega)) hr0 l H
 ·rintro _ L ⟨ρ,rfl,fs,x5,x6,x7,rfl,g1,A,g3,z⟩;rw[yq,zaU]at A z;ac_nf;simp only[zqB,g1];erw [pow106];erw [lst_8];ac_nf;refine Run.bind (zcf z (by omega) (by simp) (by simp)) ?_;rintro v M ⟨B,o⟩;have w:∃n:Int,v = .int n/\0<n/\n<=1000000:=by
   simp only[yn,yF,or_false]at B;rcases B with rfl|rfl|rfl|rfl|rfl|rfl|rfl|rfl <;> exact⟨_,rfl,by omega,by omega⟩
  obtain⟨n,rfl,n0,n1⟩:=w;ac_nf;have J:fs.length<=12:=by omega
  refine Run.ok ⟨fs,n,rfl,n0,n1,by omega,J,⟨fun j g h=>(g3 j g h).1,fun x P=>?_,?_⟩,(z.via o).more (by omega)⟩
  ·obtain⟨g,u,rfl⟩:=yR.mp P;obtain⟨j,t⟩:=ybB.mp u;exact⟨(g3 j g t).2.1,(g3 j g t).2.2.1⟩
  ·rw[List.Nodup,yd2,List.pairwise_iff_getElem];intro i j hi t T e;have a1:=(g3 i fs[i] (yh hi)).2.2.2;have a2:=(g3 j fs[j] (yh t)).2.2.2;rw[e,a2]at a1;have:=yG a1;omega
structure Fm where
 a:Nat
 b:Nat
 wys:List Wy
def Fm.e(f:Fm):D:=fmD f.a f.b f.wys
structure FmOk(fs:List Fd)(f:Fm):Prop where
 a0:0<f.a
 a1:f.a<=40
 b0:0<f.b
 b1:f.b<=40
 wy:WyOk fs f.wys
structure Rd4 where
 skips:Nat
 gap:Nat
 late:Nat
 anew:Nat
def Rd4.e(r:Rd4):D := .tup [.int r.skips,.int r.gap,.int r.late,.int r.anew]
structure RdOk(r:Rd4):Prop where
 s1:r.skips<=39
 g0:r.skips<=r.gap
 g1:r.gap<=400
 l1:r.late<=20
 n1:r.anew<=400
structure Pt where
 fs:List Fd
 n:Int
 wide:Nat
 fms:List Fm
 rd:Rd4
def Pt.e(p:Pt):D := .tup [shD p.fs p.n,.int p.wide,.tup (p.fms.map Fm.e),p.rd.e]
structure PtOk(p:Pt):Prop where
 n0:0<p.n
 n1:p.n<=1000000
 f0:0<p.fs.length
 f1:p.fs.length<=12
 sh:ShG p.fs
 w0:0<p.wide
 w1:p.wide<=40
 fm:∀f∈p.fms,FmOk p.fs f
 fml:p.fms.length<=12
 rd:RdOk p.rd
theorem zqF(hp:P3 m0 p q c m)(g:c+5<2^40)(h0:0<b)(h1:b<=40) : Run (ze0 [.ob p,.int b] m) fun a m'=>∃wy:Wy,a=wy.e/\wy.Ok b/\P3 m p q (c+4) m':=by
 unfold ze0 zkh;ac_nf;refine Run.bind (zaS hp (by omega) (by decide) (by decide)) ?_;rintro _ m1 ⟨x,rfl,X,x1,h⟩;ac_nf;by_cases c1:x<3
 ·rw[if_pos c1];ac_nf;exact Run.ok ⟨.keep,rfl,trivial,h.more (by omega)⟩
 rw[if_neg c1];ac_nf;by_cases C:x=3
 ·rw[if_pos C];ac_nf;exact Run.ok ⟨.whole,rfl,trivial,h.more (by omega)⟩
 rw[if_neg C];ac_nf;refine Run.bind (zaS h (by omega) (by omega) (by omega)) ?_;rintro _ m2 ⟨y,rfl,f,Y,H⟩;obtain⟨w,e⟩:∃w:Nat,1+y=w:=⟨(1+y).toNat,by omega⟩;erw [e];refine Run.bind (zfb H (by omega) (b:=w) (by omega)) ?_;rintro _ M ⟨v,rfl,v0,V,d⟩;ac_nf;exact Run.ok ⟨.low w v,rfl,⟨by omega,by omega,v0,V⟩,(h.via (H.via d)).more (by omega)⟩
theorem lst_9(a b c e f g i j k:D):zcA [a,b,c,e,f,g,i,j,k] m = .ok (.lst [a,b,c,e,f,g,i,j,k]) m:=if_pos (slen (by simp))
theorem zks{fs:List Fd}(hp:P3 m0 p q c m)(D:c+62<2^40)(hs:zkX fs)(hn:fs.length<=12) : Run (zbT [.ob p,shD fs n] m) fun x m'=>∃f:Fm,x=f.e/\FmOk fs f/\P3 m p q (c+62) m':=by
 unfold zbT zh9 shD;ac_nf;refine Run.bind (zkT (ds:=fs.map Fd.e) (fun k m'=>P3 m p q (c+5*k) m') (fun i d x=>∃w:Wy,x=w.e/\∀f,fs[i]?=aa f->w.Ok f.b) (by ac_nf) (by rw[yg];omega) hp.re ?_) ?_
 ·intro i d m' hd e;have hi:i<fs.length:=by have:=(ye.mp hd).1;simpa using this
  have E:=yh hi;have t:d=fs[i].e:=by
   rw[yz,E]at hd;simpa using hd.symm
  subst t;obtain⟨b0,b1,C⟩:=hs i _ E;simp only[Fd.e];ac_nf;refine Run.mono (zqF e (by omega) b0 b1) ?_;rintro a M ⟨w,rfl,A,H⟩;exact⟨⟨w,rfl,fun f o=>by rw[E]at o;cases o;exact A⟩,(e.via H).more (by omega)⟩
 ·rintro xs m' ⟨h,B,e⟩;ac_nf;rw[yg]at h e;obtain⟨l,rfl,hl⟩:=lift Wy.e (fun i w=>∀f,fs[i]?=aa f->Wy.Ok f.b w) xs 0 fun i x y=>by
   have hi:i<fs.length:=by have:=(ye.mp y).1;omega
   rw[yq];exact B i fs[i].e x (by rw[yz,yh hi];rfl) y
  rw[zrz];ac_nf;refine Run.bind (zcf e (by omega) (by simp) (by simp)) ?_;rintro v m2 ⟨j,g⟩;erw [lst_9];ac_nf;refine Run.bind (zcf g (by omega) (by simp) (by simp)) ?_;rintro u M ⟨z,H⟩;ac_nf;have r:∃a:Nat,v = .int a/\0<a/\a<=40:=by
   simp only[yn,yF,or_false]at j;rcases j with rfl|rfl|rfl|rfl|rfl|rfl|rfl
   ·exact⟨1,rfl,by decide,by decide⟩
   ·exact⟨2,rfl,by decide,by decide⟩
   ·exact⟨3,rfl,by decide,by decide⟩
   ·exact⟨4,rfl,by decide,by decide⟩
   ·exact⟨6,rfl,by decide,by decide⟩
   ·exact⟨9,rfl,by decide,by decide⟩
   ·exact⟨40,rfl,by decide,by decide⟩
  have s:∃a:Nat,u = .int a/\0<a/\a<=40:=by
   simp only[yn,yF,or_false]at z;rcases z with rfl|rfl|rfl|rfl|rfl|rfl|rfl|rfl|rfl
   ·exact⟨1,rfl,by decide,by decide⟩
   ·exact⟨2,rfl,by decide,by decide⟩
   ·exact⟨3,rfl,by decide,by decide⟩
   ·exact⟨4,rfl,by decide,by decide⟩
   ·exact⟨5,rfl,by decide,by decide⟩
   ·exact⟨6,rfl,by decide,by decide⟩
   ·exact⟨8,rfl,by decide,by decide⟩
   ·exact⟨12,rfl,by decide,by decide⟩
   ·exact⟨40,rfl,by decide,by decide⟩
  obtain⟨a,rfl,a0,a1⟩:=r;obtain⟨b,rfl,b0,b1⟩:=s;refine Run.ok ⟨⟨a,b,l⟩,rfl,⟨a0,a1,b0,b1,⟨by simpa using h,fun i f v o j=>?_⟩⟩,(e.via (g.via H)).more (by omega)⟩;have:=hl i v j;rw[yq]at this;exact this f o
theorem zqY(hp:P3 m0 p q c m)(j:c+4<2^40) : Run (ze1 [.ob p] m) fun x m'=>∃r:Rd4,x=r.e/\RdOk r/\P3 m p q (c+4) m':=by
 unfold ze1 zkk;erw [zrz];ac_nf;refine Run.bind (zcf hp (by omega) (by simp) (by simp)) ?_;rintro v m1 ⟨H,e⟩;have h:∃s:Nat,v = .int s/\s<=39:=by
  simp only[yn,yF,or_false]at H;rcases H with rfl|rfl|rfl|rfl|rfl|rfl|rfl
  ·exact⟨0,rfl,by decide⟩
  ·exact⟨0,rfl,by decide⟩
  ·exact⟨1,rfl,by decide⟩
  ·exact⟨2,rfl,by decide⟩
  ·exact⟨3,rfl,by decide⟩
  ·exact⟨5,rfl,by decide⟩
  ·exact⟨39,rfl,by decide⟩
 obtain⟨s,rfl,s1⟩:=h;ac_nf;refine Run.bind (zcf e (by omega) (by simp) (by simp)) ?_;rintro v m2 ⟨H,d⟩;have h:∃g:Nat,v = .int g/\g<=361:=by
  simp only[yn,yF,or_false]at H;rcases H with rfl|rfl|rfl|rfl|rfl
  ·exact⟨0,rfl,by decide⟩
  ·exact⟨1,rfl,by decide⟩
  ·exact⟨4,rfl,by decide⟩
  ·exact⟨30,rfl,by decide⟩
  ·exact⟨361,rfl,by decide⟩
 obtain⟨g,rfl,g1⟩:=h;erw [lst_6];ac_nf;refine Run.bind (zcf d (by omega) (by simp) (by simp)) ?_;rintro v i ⟨H,b⟩;have h:∃l:Nat,v = .int l/\l<=20:=by
  simp only[yn,yF,or_false]at H;rcases H with rfl|rfl|rfl|rfl|rfl|rfl
  ·exact⟨0,rfl,by decide⟩
  ·exact⟨0,rfl,by decide⟩
  ·exact⟨1,rfl,by decide⟩
  ·exact⟨2,rfl,by decide⟩
  ·exact⟨5,rfl,by decide⟩
  ·exact⟨20,rfl,by decide⟩
 obtain⟨l,rfl,l1⟩:=h;erw [zrz];ac_nf;refine Run.bind (zcf b (by omega) (by simp) (by simp)) ?_;rintro v M ⟨H,f⟩;have h:∃a:Nat,v = .int a/\a<=400:=by
  simp only[yn,yF,or_false]at H;rcases H with rfl|rfl|rfl|rfl|rfl|rfl|rfl
  ·exact⟨0,rfl,by decide⟩
  ·exact⟨0,rfl,by decide⟩
  ·exact⟨0,rfl,by decide⟩
  ·exact⟨7,rfl,by decide⟩
  ·exact⟨30,rfl,by decide⟩
  ·exact⟨1,rfl,by decide⟩
  ·exact⟨400,rfl,by decide⟩
 obtain⟨a,rfl,a1⟩:=h;erw [zn9 (by simp)];ac_nf;exact Run.ok ⟨⟨s,s+g,l,a⟩,by simp[Rd4.e],⟨s1,by show s<=s+g;omega,by show s+g<=400;omega,l1,a1⟩,(e.via (d.via (b.via f))).more (by omega)⟩
theorem zoZ(hp:P3 m0 p q c m)(G:c+1000<2^40)(y:0<most)(u:most<=12) : Run (zdb [.ob p,.int most] m) fun x m'=>∃pt:Pt,x=pt.e/\PtOk pt/\9<=pt.wide/\P3 m p q (c+1000) m':=by
 unfold zdb zkn;ac_nf;refine Run.bind (zm6 hp (by omega) y u) ?_;rintro _ m1 ⟨fs,n,rfl,n0,n1,f0,f1,hs,s⟩;ac_nf;have D:Run (zd3 1 (zmX zle (zac (eFn zaJ (zac (zad 0) (zac (eFn zcA (zac (eC (.int 0)) (zac (eC (.int 1)) (zac (eC (.int 2)) (zac (eC (.int 3)) (zac (eC (.int 5)) (zac (eC (.int 12)) zaj))))))) zaj))) zaj)) (gN 4) zdY (eFn zbT (zac (zad 0) (zac (zad 2) zaj))) [aa (.ob p),aa (.int most),aa (shD fs n),none] m1) fun xs m'=>∃fms:List Fm,xs=fms.map Fm.e/\(∀f∈fms,FmOk fs f)/\fms.length<=12/\P3 m p q (c+950) m':=by
  unfold zd3;erw [lst_6];ac_nf;refine Run.bind (zcf s (by omega) (by simp) (by simp)) ?_;rintro v m2 ⟨o,H⟩;have e:∃k:Nat,v = .int k/\k<=12:=by
   simp only[yn,yF,or_false]at o;rcases o with rfl|rfl|rfl|rfl|rfl|rfl
   ·exact⟨0,rfl,by decide⟩
   ·exact⟨1,rfl,by decide⟩
   ·exact⟨2,rfl,by decide⟩
   ·exact⟨3,rfl,by decide⟩
   ·exact⟨5,rfl,by decide⟩
   ·exact⟨12,rfl,by decide⟩
  obtain⟨k,rfl,k1⟩:=e;erw [zfI (by omega) (by omega)];erw [if_pos (by rw[zaU];omega)];refine Run.mono (zjg (g:=gN 4) (ρ := [aa (.ob p),aa (.int most),aa (shD fs n),none]++yd 1 none) (fun k m'=>P3 m p q (c+201+62*k) m') (fun i d x=>∃f:Fm,x=f.e/\FmOk fs f) (zcc 0 (k:Int).toNat) 0 (s.via H) ?_) ?_
  ·intro i d m' hd j;have hi:=(ye.mp hd).1;rw[zaU]at hi;rw[yq]at j;show Run (Res.bind (gN 4 d [aa (.ob p),aa (.int most),aa (shD fs n),none,none] m') _) _;ac_nf;refine Run.mono (zks j (by omega) hs.ok f1) ?_;rintro a M ⟨f,rfl,B,h⟩;exact⟨⟨f,rfl,B⟩,(j.via h).more (by omega)⟩
  ·rintro xs m' ⟨b,E,j⟩;rw[zaU]at b j;obtain⟨l,rfl,hl⟩:=lift Fm.e (fun i f=>FmOk fs f) xs 0 fun i x C=>by
    have hi:i<k:=by have:=(ye.mp C).1;omega
    exact E i (.int (i:Nat)) x (by simp[zcc,hi]) C
   refine⟨l,rfl,fun f B=>?_,by rw[yg]at b;omega,j.more (by omega)⟩;obtain⟨i,hi⟩:=ybB.mp B;exact hl i f hi
 refine Run.bind D ?_;rintro _ m2 ⟨fms,rfl,z,A,H⟩;ac_nf;refine Run.bind (zcf H (by omega) (by simp) (by simp)) ?_;rintro v M ⟨o,h⟩;have e:∃w:Nat,v = .int w/\9<=w/\w<=40:=by
  simp only[yn,yF,or_false]at o;rcases o with rfl|rfl|rfl|rfl
  ·exact⟨9,rfl,by decide,by decide⟩
  ·exact⟨12,rfl,by decide,by decide⟩
  ·exact⟨16,rfl,by decide,by decide⟩
  ·exact⟨40,rfl,by decide,by decide⟩
 obtain⟨w,rfl,w0,w1⟩:=e;ac_nf;refine Run.bind (zqY h (by omega)) ?_;rintro _ F ⟨r,rfl,hr,t⟩;erw [zn9 (by simp)];ac_nf;exact Run.ok ⟨⟨fs,n,w,fms,r⟩,rfl,⟨n0,n1,f0,f1,hs,by show 0<w;omega,w1,z,A,hr⟩,w0,(H.via (h.via t)).more (by omega)⟩
theorem zrl(hp:P3 m0 p q c m)(a:c+1000<2^40)(H:0<most)(h:most<=12) :
  Run (zdb [.ob p,.int most] m) fun x m'=>∃pt:Pt,x=pt.e/\PtOk pt/\P3 m p q (c+1000) m':=Run.mono (zoZ hp a H h) fun _ _ ⟨pt,h1,d,_,b⟩=>⟨pt,h1,d,b⟩
theorem zgS:zmo (.int 10) (.int 60) m = .ok (.int (10^60)) m:=by
 rw[zgR];have e:ztm (.int 10) (.int 60) m=if (0:Int)<=60/\(60:Int)<=1000000/\(10:Int).natAbs<2^64 then .ok (.int ((10:Int)^(60:Int).toNat)) m else .bad:=rfl
 rw[e,if_pos (by decide)];rfl
theorem ztn:zmo (.int 10) (.int 30) m = .ok (.int 1000000000000000000000000000000) m:=by
 rw[zgR];have e:ztm (.int 10) (.int 30) m=if (0:Int)<=30/\(30:Int)<=1000000/\(10:Int).natAbs<2^64 then .ok (.int ((10:Int)^(30:Int).toNat)) m else .bad:=rfl
 rw[e,if_pos (by decide)];rfl
theorem zmt{a b:Int}(h:a.natAbs.log2<1100/\b.natAbs.log2<1100):zt5 (.int a) (.int b) m = .ok (.int (a*b)) m:=by rw[zpu];exact if_pos h
theorem zur:(0:Int)<10^60*10^60*10^60*10^60*10^60:=by decide +kernel
theorem abs_i(c:Int):absF [.int c] m = .ok (.int c.natAbs) m:=by
 have e:(if c<0 then -c else c)=(c.natAbs:Int):=by split <;> omega
 rw[<- e];rfl
theorem sl_scr:slD (.scr (ns.map D.int)) none (aa 63) m = .ok (.lst ((ns.take 63).map D.int)) m:=by
 show Res.ok (D.lst (zlP (ns.map D.int) none (aa ((63:Nat):Int)))) m=_;rw[zsv,List.map_take]
theorem zuB(hn:ns.length<=63):Run (zfw [.scr (ns.map D.int)] m) fun a m'=>∃p q,a = .ob p/\P3 m' p q 0 m':=by
 unfold zfw zmF;erw [ztZ];erw [zgS];erw [zgS];erw [zmt (by decide +kernel)];erw [zgS];erw [zmt (by decide +kernel)];erw [zgS];erw [zmt (by decide +kernel)];erw [zgS];erw [zmt (by decide +kernel)];ac_nf;have e:=zur;generalize (10:Int)^60*10^60*10^60*10^60*10^60=N at e;rw[sl_scr];ac_nf;have hr:(m++[MO.lst []])[m.length]?=aa (.lst []):=by simp
 generalize m.length=r at hr ⊢;generalize m++[MO.lst []]=mA at hr ⊢;refine Run.bind (zaT (fun k ρ m'=>∃(seed:Int)(own:List Int)(x4:Option D),ρ = [aa (.scr (ns.map D.int)),aa (.int seed),aa (.ob r),aa (.int N),x4]/\m'[r]?=aa (.lst (own.map D.int))/\own.length<=k/\(∀a∈own,0<=a)/\0<=seed/\seed<2305843009213693951) ((ns.take 63).map D.int) 0 ⟨41,[],none,rfl,hr,yc _,fun _ h=>(nomatch h),by decide,by decide⟩ ?_) ?_
 ·rintro i d ρ m1 hd ⟨seed,own,x4,rfl,g1,G,g3,g,j⟩;have hi:=(ye.mp hd).1;rw[yg,yap]at hi;obtain⟨v,l,rfl⟩:=yR.mp (yM hd);erw [zhG ⟨by decide,by decide⟩];erw [ztn];erw [zbm (by decide)];erw [zbm (by decide)];erw [abs_i];erw [zto];ac_nf;generalize c:(seed*1000003+v%1000000000000000000000000000000+7)%2305843009213693951=S;have f:0<=S:=by rw[<- c];exact yQ _ (by decide)
  have s:S<2305843009213693951:=by rw[<- c];exact yV _ (by decide)
  by_cases b:(1000000000000000000:Int)<=(v.natAbs:Int)
  ·rw[if_pos b];erw [if_pos (zmz g1)];erw [abs_i];erw [zbm e];erw [zmV g1 (by rw[yg];exact zbr (by omega))];ac_nf;refine Run.ok ⟨_,rfl,S,own++[(v.natAbs:Int)%N],_,rfl,by rw[zbw g1,yN];rfl,by rw[yj];show own.length+1<=_;omega,fun a ha=>?_,f,s⟩;rcases yJ.mp ha with ha|ha
   ·exact g3 a ha
   ·rw[yE.mp ha];exact yQ _ (by omega)
  ·rw[if_neg b];ac_nf;exact Run.ok ⟨_,rfl,S,own,_,rfl,g1,by omega,g3,f,s⟩
 ·rintro _ m1 ⟨ρ,rfl,seed,own,x4,rfl,g1,G,g3,g,j⟩;rw[yq,yg,yap]at G;erw [show zde [("own", zad 2),("seed", zad 1),("turn", eC (.int 0))] [aa (.scr (ns.map D.int)),aa (.int seed),aa (.ob r),aa (.int N),x4] m1 = .ok (.ob m1.length) (m1++[.dct (zlU r seed 0)]) from rfl];ac_nf;have H:=(ye.mp g1).1;exact Run.ok ⟨m1.length,r,rfl,⟨⟨own,seed,0,by simp,by rw[yI H];exact g1,by omega,by omega,g3,g,by omega,by decide,by decide⟩,Fr.refl⟩⟩
theorem add_ll{a b:List D}(h:a.length+b.length<=1000):zbb (.lst a) (.lst b) m = .ok (.lst (a++b)) m:=if_pos (yx h (by decide))
open PySem L2
theorem zqz(l:List τ):allF [.lst (l.map fun _=>D.bl ac)] m = .ok (.bl ac) m:=by
 rw[show (l.map fun _=>D.bl ac)=(l.map fun _=>ac).map D.bl by simp,zuD];simp
variable{g:List D->Sto->Res D}{fa:EV}
section
variable{c f mth:ae}{fv:EV}{fr:AV}
def kFs3(ρ : En):Unit->Sto->Res Fl:=fun _ m3=>.ok (.nx ρ) m3
def kFs2(c f:ae)(ρ : En)(y:D):D->Sto->Res Fl:=fun x m2=>(zqO c f x y m2).bind (kFs3 ρ)
def kFs1(c f:ae)(fo:EV)(ρ : En):D->Sto->Res Fl:=fun y m1=>(fo ρ m1).bind (kFs2 c f ρ y)
theorem fld_at:zcy c f fa ρ m=(fa ρ m).bind (zso c f):=rfl
theorem sfld_at:zeq c f fa fv ρ m=(fv ρ m).bind (kFs1 c f fa ρ):=rfl
theorem kfs1_at:kFs1 c f fa ρ d m=(fa ρ m).bind (kFs2 c f ρ d):=rfl
theorem kfs2_at(x:D):kFs2 c f ρ d x m=(zqO c f x d m).bind (kFs3 ρ):=rfl
theorem kfs3_at:kFs3 ρ () m = .ok (.nx ρ) m:=rfl
def kMt2(g:List D->Sto->Res D)(x:D):List D->Sto->Res D:=fun ds m2=>g (x::ds) m2
def kMt1(c m:ae)(g:List D->Sto->Res D)(fr:AV)(ρ : En):D->Sto->Res D:=fun x m1=>if zfq c m x m1=ac then (fr ρ m1).bind (kMt2 g x) else .bad
theorem mth_at:zcE c mth g fa fr ρ m=(fa ρ m).bind (kMt1 c mth g fr ρ):=rfl
theorem kmt1_at:kMt1 c mth g fr ρ d m=if zfq c mth d m=ac then (fr ρ m).bind (kMt2 g d) else .bad:=rfl
theorem kmt2_at(ds:List D):kMt2 g d ds m=g (d::ds) m:=rfl
def kPar3(i j k:Nat)(ρ : En):List D->Sto->Res Fl:=fun ds m1=>match ds with
 |[x,y,z]=>.ok (.nx (((ρ.set i (aa x)).set j (aa y)).set k (aa z))) m1|_=>.bad
theorem par3_at(i j k:Nat):zqW i j k fr ρ m=(fr ρ m).bind (kPar3 i j k ρ):=rfl
theorem kpar3_at(i j k:Nat)(x y z:D):kPar3 i j k ρ [x,y,z] m = .ok (.nx (((ρ.set i (aa x)).set j (aa y)).set k (aa z))) m:=rfl
def kForO(h:GV)(b:SV)(ρ : En):Nat×MO×List D->Sto->Res Fl:=fun t m1=>zpF t.1 t.2.1 h b t.2.2 ρ m1
theorem forO_at{it:OI}{h:GV}{b:SV}:sForO it h b ρ m=(it ρ m).bind (kForO h b ρ):=rfl
theorem kforO_at{h:GV}{b:SV}(k:Nat)(o:MO)(ds:List D):kForO h b ρ (k,o,ds) m=zpF k o h b ds ρ m:=rfl
theorem objI_at:aObj fa ρ m=(fa ρ m).bind asObj:=rfl
theorem isnt_in(i:Int):zc5 (.int i) .non m = .ok (.bl ac) m:=rfl
theorem is_in(i:Int):isD (.int i) .non m = .ok (.bl ag) m:=rfl
theorem zp9{k:Nat}{fs:List (ae×D)}{v:D}(h:m[k]?=aa (.ins c fs))(e:fs.lookup f=aa v):zso c f (.ob k) m = .ok v m:=by
 simp only[zso,h,if_true,e,opt]
theorem zgs{k:Nat}{fs:List (ae×D)}{y:D}(h:m[k]?=aa (.ins c fs))(e:fs.length<1000):zqO c f (.ob k) y m = .ok () (m.set k (.ins c (zf4 f y fs))):=by
 simp only[zqO,h];exact if_pos ⟨trivial,e⟩
theorem mth_ok{k:Nat}{fs:List (ae×D)}(h:m[k]?=aa (.ins c fs))(e:fs.lookup mth=none):zfq c mth (.ob k) m=ac:=by
 simp only[zfq,h,e,decide_true,Option.isNone_none,Bool.and_self]
end
local macro_rules | `(tactic| walk_at "w") => do
  let ids := ("run_at fin_nx fin_rt seq_at seq_nx seq_rt nil_at ret_at rt_at retN_at drop_at kdrop_at if_at kif_at asg_at kasg_at nx_at gs_nil gs_cons gT_at par_at kpar_at List.set_cons_zero List.set_cons_succ for_at kfor_at eC_at op_at kop_at un_at fn_at ife_at kife_at aNil_at aCons_at kcons_at kcons2_at asB_at tV_at andT_at kandT_at orT_at korT_at notT_at knotT_at and_at kand_at or_at kor_at not_at knot_at aIt_at sq_t sq_l sq_s sq_c rngA_at enumA_at kenum_t kenum_l zipA_at kzip_at zip3A_at kzip3_at kzip4_at oNone_at oSome_at ksome_at slD_at ksl1_at ksl2_at slA_at kslA1_at kslA2_at meth_at kmeth_at isStr_at isTup_at chain_at kch1_at kch2_at kch3_at put_at kputA_at kputB_at kputC_at kputE_at bind_ok bind_then then_at var_0 var_S gN_at Bool.false_eq_true reduceIte List.map_cons List.map_nil List.length_cons List.length_nil Nat.reduceAdd Nat.reduceSub List.cons_append List.nil_append add_i sub_i eq_i ne_i eq_s ne_s lt_i le_i gt_i ge_i lst_0 lst_2 lst_3 lst_4 lst_5 tup_0 tup_1 tup_2 tup_3 min_i len_t len_l tup_l l1 ix_t0 ix_t1 ix_t2 List.replicate List.append_nil decide_eq_true_eq Bool.not_true Bool.not_false eq_self not_true_eq_false not_false_eq_true decide_true decide_false ofs_eq String.reduceEq fld_at sfld_at kfs1_at kfs2_at kfs3_at mth_at kmt1_at kmt2_at par3_at kpar3_at forO_at kforO_at objI_at isnt_in is_in is_nn isnt_nn max_i".splitOn " ").toArray.map fun s => Lean.mkIdent s.toName
  `(tactic| try simp only [$[$ids:ident],*])
def onD:Option Nat->D
 |none=>.non|some n=>.int n
variable{base:Option Nat}{hs:List (List Int)}{had:Option Nat}
section
variable{k l:Nat}{pt:Pt}{fresh:Nat}
theorem zfP(pt:Pt):ixD pt.e (.int 0) m = .ok (shD pt.fs pt.n) m:=ix_t0 _ _
theorem zpT(pt:Pt):ixD pt.e (.int 1) m = .ok (.int pt.wide) m:=ix_t1 _ _ _
theorem zea(pt:Pt):ixD pt.e (.int 2) m = .ok (.tup (pt.fms.map Fm.e)) m:=ix_t2 _ _ _ _
theorem ix_pt3(pt:Pt):ixD pt.e (.int 3) m = .ok pt.rd.e m:=zka (n:=3) rfl
end
def wdN(n:Nat):Nat:=if n<=1 then 0 else (n-1).log2+1
theorem wdN_lt{n w:Nat}:2^w<n↔w<wdN n:=by
 unfold wdN;by_cases h:n<=1
 ·rw[if_pos h];have:=Nat.one_le_two_pow (n:=w);omega
 ·rw[if_neg h,Nat.lt_succ_iff,Nat.le_log2 (by omega)];omega
def wfT:TV:=by walk_at "#s-16"
def wfB:SV:=by walk_at "#=X1GsPs8tRsC"
theorem zn2{n:Nat}{m:Sto}:∀(j w f:Nat),w+j=wdN n->j<f->zd2 wfT wfB f [aa (.int n),aa (.int w),aa (.int (2^w))] m = .ok (.nx [aa (.int n),aa (.int (wdN n)),aa (.int (2^wdN n))]) m
 |0,w,0,_,h=>absurd h (ybC _)|0,w,f+1,e,_=>by
  have H:w=wdN n:=by omega
  subst H;have hn : ¬ ((2:Int)^wdN n<n):=by
   have:=mt wdN_lt.mp (yO (wdN n))
   exact_mod_cast this
  rw[zd2];have E:wfT [aa (.int n),aa (.int (wdN n)),aa (.int (2^wdN n))] m = .ok ag m:=by
   unfold wfT;erw [decide_eq_false hn]
  rw[E,bind_ok,if_neg (by decide)]
 |j+1,w,0,_,h=>absurd h (ybC _)|j+1,w,f+1,e,h=>by
  have hn:(2:Int)^w<n:=by
   have:=wdN_lt.mpr (show w<wdN n by omega)
   exact_mod_cast this
  rw[zd2];have E:wfT [aa (.int n),aa (.int w),aa (.int (2^w))] m = .ok ac m:=by
   unfold wfT;erw [decide_eq_true hn]
  have a:wfB [aa (.int n),aa (.int w),aa (.int (2^w))] m = .ok (.nx [aa (.int n),aa (.int ((w+1:Nat):Int)),aa (.int (2^(w+1)))]) m:=by
   unfold wfB;erw [zhG ⟨by decide,by decide⟩];erw [ybd];rfl
  rw[E,bind_ok,if_pos rfl,a,bind_ok];exact zn2 j (w+1) f (by omega) (by omega)
theorem zhN{n:Nat}(h:n<=2^50):zcv [.int n] m = .ok (.int (wdN n)) m:=by
 have H:wdN n<=50:=yaI fun z=>by
  have:=wdN_lt.mpr z;omega
 apply zav;unfold zcv za2;show Run (Res.bind (zan (zaA (eC (.int 0)) (gN 1)) (zan (zaA (eC (.int 1)) (gN 2)) (zan (zeH zfx wfT wfB) (zaE (zad 1)))) [aa (.int n),none,none] m) zeG) _;erw [zil];have:=zn2 (n:=n) (m:=m) (wdN n) 0 zfx (by omega) (ybU H (by decide));rw[show ((0:Nat):Int)=0 from rfl,show ((2:Int)^0)=1 from rfl]at this;rw[this];ac_nf;exact Run.ok ⟨rfl,rfl⟩
def fmW(pt:Pt):Fm:=⟨1,pt.wide,yd pt.fs.length .whole⟩
def zaL(pt:Pt):Option Nat->Fm
 |none=>fmW pt|some i=>pt.fms.getD i ⟨1,1,[]⟩
def zfE(pt:Pt):Option Nat->Prop
 |none=>True|some i=>i<pt.fms.length
theorem zp7{pt:Pt}(h:PtOk pt):FmOk pt.fs (fmW pt):=⟨by show 0<1;decide,by show 1<=40;decide,h.w0,h.w1,⟨by simp[fmW],fun i f w a H=>by
 simp only[fmW]at H;have:=yM H;rw[(ybD.mp this).2];exact trivial⟩⟩
variable{at':Option Nat}
theorem zp8{pt:Pt}(h:PtOk pt)(ha:zfE pt at'):FmOk pt.fs (zaL pt at'):=by
 cases at' with
 |none=>exact zp7 h|some i=>
  have hi:i<pt.fms.length:=ha;show FmOk pt.fs (pt.fms.getD i ⟨1,1,[]⟩);simp only[ybE,yh hi,yag];exact h.fm _ (yaB hi)
def lsz(pt:Pt)(at':Option Nat):Nat:=wdN (1+pt.fms.length)+(zaL pt at').b+(zcG pt.fs (zaL pt at').wys).sum+wdN pt.n.toNat
def ckS(hd:List Int):Int:=((yw hd.length).map fun i:Nat=>((i:Int)+2)*hd.getD i 0).sum
def ckV(pt:Pt)(number:Nat)(hd:List Int):Int:=((number:Int)+ckS hd)%pt.n
theorem zmM(hd:List Int):∀(xs:List Int)(k:Nat),(zcd k (xs.map D.int)).map (fun d=>match d with | .tup [.int i,.int v]=>D.int ((i+2)*v) | _=>.non)=((yw xs.length).map fun i:Nat=>(((k+i:Nat):Int)+2)*xs.getD i 0).map D.int
 |[],k=>rfl|x::xs,k=>by
  rw[yl,zcd,yl,zmM hd xs (k+1),yt,ydp,yl,yl,yY];simp only[Nat.add_zero,List.getD_cons_zero,yY];congr 1;apply List.map_congr_left;intro i _;simp only[Function.comp,Nat.succ_eq_add_one,List.getD_cons_succ];rw[show k+1+i=k+(i+1) by omega]
theorem sum_i{xs:List Int}(h:(∀a,a∈xs->0<=a/\a<=2^50)/\xs.length<=1000):zsJ [.lst (xs.map D.int)] m = .ok (.int xs.sum) m:=by
 simp only[zsJ,lOf,yar,zcq];exact if_pos h
def znZ:Option Nat->Int
 |none=>0|some i=>1+(i:Int)
def ltL(pt:Pt)(at':Option Nat)(number:Nat)(hd:List Int):List Nat:=dgs (znZ at') (wdN (1+pt.fms.length))++dgs ((number:Int)%2^(zaL pt at').b) (zaL pt at').b++pcK pt.fs (zaL pt at').wys hd pt.fs.length++dgs (ckV pt number hd) (wdN pt.n.toNat)
theorem zgl{n:Nat}(h:n<=2^50):wdN n<=50:=yaI fun z=>by
 have:=wdN_lt.mpr z;omega
theorem zsK(a b:List Nat):((⟨a.toArray⟩:ae)++⟨b.toArray⟩)=⟨(a++b).toArray⟩:=by
 apply zgo;show (a.toArray++b.toArray).toList=_;simp
theorem add_str{a b:List Nat}(h:a.length+b.length<=100000):zbb (.str ⟨a.toArray⟩) (.str ⟨b.toArray⟩) m = .ok (.str ⟨(a++b).toArray⟩) m:=by
 rw[add_ss (show a.toArray.size+b.toArray.size<=sizeLine from by simp;exact yx h (by decide)),zsK]
structure PtW(p:Pt):Prop where
 n0:0<p.n
 n1:p.n<=1000000
 f0:0<p.fs.length
 f1:p.fs.length<=12
 sh:zkX p.fs
 w0:0<p.wide
 w1:p.wide<=40
 fm:∀f∈p.fms,FmOk p.fs f
 fml:p.fms.length<=12
theorem P3.fr2{k l:Nat}(h:P3 m0 p q c m)(f:Fr k l m m')(a:k≠p)(b:k≠q)(c':l≠p)(d:l≠q):P3 m' p q c m':=by
 obtain⟨own,s,t,h1,H,e⟩:=h.ex;refine⟨⟨own,s,t,?_,?_,e⟩,Fr.refl⟩
 ·rw[f.at' p (ye.mp h1).1 (Ne.symm a) (Ne.symm c')];exact h1
 ·rw[f.at' q (ye.mp H).1 (Ne.symm b) (Ne.symm d)];exact H
def zt0(xs:List Nat):List D:=xs.map fun n=>D.int (n:Nat)
theorem zpk(ns:List Nat)(hp:P3 m0 p q c m)(H:c<2^40)(h0:0<ns.length)(h1:ns.length<1000) : Run (zaJ [.ob p,.lst (zt0 ns)] m) fun a m'=>∃n∈ns,a = .int (n:Nat)/\P3 m p q (c+1) m':=by
 refine Run.mono (zcf hp H (by simpa [zt0] using h0) (by simpa [zt0] using h1)) ?_;rintro a m' ⟨ha,h⟩;obtain⟨n,hn,rfl⟩:=yR.mp ha;exact⟨n,hn,rfl,h⟩
theorem zif{k:Nat}{o:MO}{g:GV}{c:TV}{el:EV}{ρ : En}{m:Sto}(b:D->Bool)(H:m[k]?=aa o):∀(ds:List D),(∀d∈ds,∃a,g d ρ m = .ok a m/\c a m = .ok (b d) m/\el a m = .ok d m)->zfB k o g c el ρ ds m = .ok (ds.filter b) m
 |[],_=>by rw[zfB,zsl H];rfl|d::r,h=>by
  obtain⟨a,e1,e2,E⟩:=h d (by simp);have i:=zif (g:=g) (c:=c) (el:=el) (ρ := ρ) b H r fun d hd=>h d (yK _ hd);rw[zfB,zsl H,e1,bind_ok,e2,bind_ok];cases e:b d with
  |true=>rw[if_pos rfl,E,bind_ok,i,bind_ok,yd3 e]|false=>rw[if_neg (by simp),i,yd4 (by simp[e])]
variable{d2:D}{x8 x9 x10:Option D}
section
variable{k l:Nat}{pt:Pt}{fresh:Nat}{s:D}
theorem Fr.keep(f:Fr k l m m')(h:m[r]?=aa o)(a:r≠k)(b:r≠l):m'[r]?=aa o:=by rw[f.at' r (ye.mp h).1 a b];exact h
end
theorem zl2:∀l:List D,zkU l l=l.map fun a=>D.tup [a,a]
 |[]=>rfl|a::r=>by simp only[yl,zkU,zl2 r]
theorem zme{n:Nat}(h:d = .non∨∃a,d = .int a):zbl (n+1) [d,d] m = .ok (.bl ac) m:=by
 apply zav;rcases h with rfl|⟨a,rfl⟩
 ·rw[zbl];unfold zdH;erw [isi_tn];ac_nf;exact Run.ok ⟨rfl,rfl⟩
 ·exact zqV
theorem zrL{fs:List Fd}{more:Int}(hs:zkX fs)(k:fs[i]?=aa f)(r:fo[i]?=aa v)(ha:i<=ah.length)(h1 : -100000<=more)(t:more<=100000) : Run (zaV [shD fs n,.int i,.tup (fo.map D.int),.tup (ah.map D.int),.int more] m) fun a m'=>(∃x:Int,a = .int x/\0<=x/\x<2^f.b)/\m'=m:=by
 obtain⟨H,p,o⟩:=hs i f k;unfold zaV zcM shD;erw [zf8 k];erw [zbG r];ac_nf;have hp:=p2 f.b;have h:=p2lt p;have d:=zcz (m:=m) (n:=f.b) (by(clear h hp H ha;omega));have c:=md2;have F:∀(y:Int)(ρ : En),ρ = [aa (.tup [.tup (fs.map Fd.e),.int n]),aa (.int i),aa (.tup (fo.map D.int)),aa (.tup (ah.map D.int)),aa (.int more),aa f.kd.e,aa (.int y)]->Run (Res.bind ((zaE (eOp zdk (zad 6) (eOp zgf (eC (.int 1)) (eOp ixD (eOp ixD (eOp ixD (zad 0) (eC (.int 0))) (zad 1)) (eC (.int 1)))))) ρ m) zeG) fun a m'=>(∃x:Int,a = .int x/\0<=x/\x<2^f.b)/\m'=m:=by
  rintro y _ rfl;erw [zf8 k];erw [d];erw [zbm hp];ac_nf;exact Run.ok ⟨⟨_,rfl,c y f.b⟩,rfl⟩
 cases e:f.kd with
 |step w=>
  rw[e]at o F;simp only[Kd.e]at F ⊢;erw [zhG ⟨by(clear h hp H ha;omega),by(clear h hp H ha;omega)⟩];simp only[bind_ok,bind_then,then_at,kop_at,var_0,var_S,add_i,kasg_at,gN_at,y9,y8,nx_at,seq_nx];exact F _ _ rfl
 |turn row=>
  rw[e]at F;simp only[Kd.e]at F ⊢;erw [zlI];ac_nf;by_cases hr:v∈row
  ·rw[if_pos hr];erw [zio hr];ac_nf;simp only[yg];have hl:0<row.length:=yca hr;rw[zbm (by(clear h hp H ha;omega))];ac_nf;have a0:=yQ (row.idxOf v+more) (b:=row.length) (by(clear h hp H ha;omega));have a1:=yV (row.idxOf v+more) (b:=row.length) (by(clear a0 h hp H ha;omega));generalize q:((row.idxOf v:Int)+more)%row.length=x at a0 a1;obtain⟨j,rfl⟩:∃j:Nat,x=j:=⟨x.toNat,by(clear a1 q hl h hp H ha;omega)⟩;have s:j<row.length:=by(clear a0 q hl h hp H ha;omega)
   rw[zbG (yh s)];simp only[bind_ok,bind_then,then_at,kasg_at,gN_at,y9,y8,nx_at,seq_nx];exact F _ _ rfl
  ·rw[if_neg hr];simp only[bind_ok,bind_then,then_at,kif_at,ybA,reduceIte];erw [zf8 k];erw [d];erw [zbm hp];ac_nf;exact Run.ok ⟨⟨_,rfl,c v f.b⟩,rfl⟩
 |wth j w=>
  rw[e]at o F;simp only[Kd.Ok]at o;simp only[Kd.e]at F ⊢;ac_nf;have g:j<ah.length:=by(clear h hp H;omega)
  have l:j<fo.length:=by have:=(ye.mp r).1;(clear g h hp H ha;omega)
  rw[zbG (yh g)];erw [zbG (yh l)];erw [zf7 (by(clear l g h hp H ha;omega))];simp only[bind_ok,bind_then,then_at,kop_at,var_0,var_S,add_i,kasg_at,gN_at,y9,y8,nx_at,seq_nx];exact F _ _ rfl
 |still=>
  simp only[Kd.e];erw [zf8 k];erw [d];erw [zbm hp];ac_nf;exact Run.ok ⟨⟨_,rfl,c v f.b⟩,rfl⟩
 |drawn=>
  simp only[Kd.e];erw [zf8 k];erw [d];erw [zbm hp];ac_nf;exact Run.ok ⟨⟨_,rfl,c v f.b⟩,rfl⟩
section
variable{fs:List Fd}
theorem zl0(hp:P3 m0 p q c m)(t:c+30<2^40)(hs:zkX fs)(hl:fs.length<=12) : Run (zb1 [.ob p,shD fs n] m) fun a m'=>∃hd,a=zco hd/\HdOk fs hd/\P3 m p q (c+30) m':=by
 unfold zb1 zfY shD;ac_nf;refine Run.bind (zkT (ds:=fs.map Fd.e) (fun k m'=>P3 m p q (c+2*k) m') (fun i d x=>∃v:Int,x = .int v/\∀f,fs[i]?=aa f->0<=v/\v<2^f.b) (by ac_nf) (by rw[yg];omega) hp.re ?_) ?_
 ·intro i d m' hd H;have hi:i<fs.length:=by have:=(ye.mp hd).1;simpa using this
  have E:=yh hi;have g:d=fs[i].e:=by
   rw[yz,E]at hd;simpa using hd.symm
  subst g;obtain⟨b0,b1,s⟩:=hs i _ E;simp only[Fd.e];ac_nf;refine Run.mono (zfb H (by omega) b1) ?_;rintro a M ⟨v,rfl,v0,V,e⟩;exact⟨⟨v,rfl,fun f b=>by rw[E]at b;cases b;exact⟨v0,V⟩⟩,(H.via e).more (by omega)⟩
 ·rintro xs m' ⟨h,r,H⟩;ac_nf;rw[yg]at h H;obtain⟨l,rfl,hl2⟩:=lift D.int (fun i v=>∀f,fs[i]?=aa f->0<=v/\v<2^f.b) xs 0 fun i x j=>by
   have hi:i<fs.length:=by have:=(ye.mp j).1;omega
   rw[yq];exact r i fs[i].e x (by rw[yz,yh hi];rfl) j
  refine Run.ok ⟨l,rfl,⟨by simpa using h,fun i f v b o=>?_⟩,H.more (by omega)⟩;have:=hl2 i v o;rw[yq]at this;exact this f b
theorem zjX(hp:P3 m0 p q c m)(P:c+40<2^40)(hs:zkX fs)(hl:fs.length<=12)(G:HdOk fs fo){calm:Nat}(c0:0<calm)(c1:calm<=100) : Run (zbP [.ob p,shD fs n,zco fo,.int calm] m) fun a m'=>∃hd,a=zco hd/\HdOk fs hd/\P3 m p q (c+40) m':=by
 unfold zbP ze3 shD;ac_nf;refine Run.bind (zaT (fun k ρ m'=>∃(hd:List Int)(x5 x6 x7:Option D),ρ = [aa (.ob p),aa (.tup [.tup (fs.map Fd.e),.int n]),aa (zco fo),aa (.int calm),aa (.tup (hd.map D.int)),x5,x6,x7]/\hd.length=k/\(∀(j:Nat)(f:Fd)(v:Int),fs[j]?=aa f->hd[j]?=aa v->0<=v/\v<2^f.b)/\P3 m p q (c+3*k) m') (zcd 0 (fs.map Fd.e)) 0 ⟨[],_,_,_,rfl,rfl,fun j f v _ h=>by simp at h,hp.re⟩ ?_) ?_
 ·rintro i d ρ m1 hd ⟨h,x5,x6,x7,rfl,H,hok,l⟩;obtain⟨f,E,rfl⟩:=zeD hd;have hi:=(ye.mp E).1;rw[yq]at H l ⊢;obtain⟨b0,b1,O⟩:=hs i _ E;have B:i<fo.length:=by rw[G.len];exact hi
  have J:=yh B;ac_nf;refine Run.bind (zrL hs E J (by omega) (by decide) (by decide)) ?_;rintro _ _ ⟨⟨x,rfl,X,x1⟩,rfl⟩;have done:∀(m2:Sto)(y:Int),0<=y->y<2^f.b->P3 m p q (c+3*i+3) m2->Run ((zaA (eOp zbb (zad 4) (eFn zbg (zac (zad 7) zaj))) (gN 4)) [aa (.ob p),aa (.tup [.tup (fs.map Fd.e),.int n]),aa (zco fo),aa (.int calm),aa (.tup (h.map D.int)),aa (.int (i:Nat)),aa f.e,aa (.int y)] m2) fun I m'=>∃ρ2,I = .nx ρ2/\∃(hd:List Int)(x5 x6 x7:Option D),ρ2=[aa (.ob p),aa (.tup [.tup (fs.map Fd.e),.int n]),aa (zco fo),aa (.int calm),aa (.tup (hd.map D.int)),x5,x6,x7]/\hd.length=i+1/\(∀(j:Nat)(f:Fd)(v:Int),fs[j]?=aa f->hd[j]?=aa v->0<=v/\v<2^f.b)/\P3 m p q (c+3*(i+1)) m':=by
   intro m2 y F Y b;erw [add_tt (slen (by simp;omega))];ac_nf;refine Run.ok ⟨_,rfl,h++[y],_,_,_,by rw[yN];rfl,by simp[H],fun j g v A e=>?_,b.more (by omega)⟩;rcases ybz j h.length with w|w
   ·rw[yI w]at e;exact hok j g v A e
   ·have r:=(ye.mp e).1;rw[yj]at r;have:j=i:=by have:j<h.length+1:=r;omega
    subst this;rw[E]at A;cases A;rw[yT w,H,yaM]at e;cases e;exact⟨F,Y⟩
  ac_nf;refine Run.bind (zaS l (by omega) (by omega) (by omega)) ?_;rintro _ m2 ⟨u,rfl,L,U,b⟩;ac_nf;by_cases C:u=0
  ·rw[if_pos C];erw [zrs];erw [zrs];ac_nf;simp only[Fd.e];erw [zcz (by omega)];ac_nf;refine Run.bind (zaS b (by omega) (p2 f.b) (p2lt b1)) ?_;rintro _ N ⟨z,rfl,K,Z,o⟩;ac_nf;refine Run.bind (zcf o (by omega) (by simp) (by simp)) ?_;rintro v M ⟨e,t⟩;have s:∃y:Int,v = .int y:=by
    simp only[yn,yF,or_false]at e;rcases e with rfl|rfl|rfl|rfl|rfl <;> exact⟨_,rfl⟩
   obtain⟨y,rfl⟩:=s;erw [zcz (by omega)];erw [zbm (p2 f.b)];have:=md2 (x+y) f.b;simp only[bind_ok,bind_then,then_at,kasg_at,gN_at,nil_at,y9,y8,nx_at,seq_nx];exact done M _ this.1 this.2 ((l.via (b.via (o.via t))).more (by omega))
  ·rw[if_neg C];simp only[bind_ok,bind_then,then_at,kasg_at,gN_at,nil_at,y9,y8,nx_at,seq_nx];exact done m2 x X x1 ((l.via b).more (by omega))
 ·rintro _ m1 ⟨ρ,rfl,h,x5,x6,x7,rfl,H,hok,l⟩;rw[zdd,yq]at H l;ac_nf;exact Run.ok ⟨h,rfl,⟨H,hok⟩,l.more (by omega)⟩
end
def lwT:TV:=by walk_at "#s-v86"
def lwB:SV:=by walk_at "#s8tRsC"
theorem zpA{n:Nat}{m:Sto}(H:wdN n<=50):∀(j w f:Nat),w+j=wdN n->j<f->zd2 lwT lwB f [aa (.int n),aa (.int w)] m = .ok (.nx [aa (.int n),aa (.int (wdN n))]) m
 |0,w,0,_,h=>absurd h (ybC _)|0,w,f+1,e,_=>by
  have a:w=wdN n:=by omega
  subst a;have hn : ¬ ((2:Int)^wdN n<n):=by
   have:=mt wdN_lt.mp (yO (wdN n))
   exact_mod_cast this
  rw[zd2];have E:lwT [aa (.int n),aa (.int (wdN n))] m = .ok ag m:=by
   unfold lwT;erw [zcz (by omega)];erw [decide_eq_false hn]
  rw[E,bind_ok,if_neg (by decide)]
 |j+1,w,0,_,h=>absurd h (ybC _)|j+1,w,f+1,e,h=>by
  have hn:(2:Int)^w<n:=by
   have:=wdN_lt.mpr (show w<wdN n by omega)
   exact_mod_cast this
  rw[zd2];have E:lwT [aa (.int n),aa (.int w)] m = .ok ac m:=by
   unfold lwT;erw [zcz (by omega)];erw [decide_eq_true hn]
  have b:lwB [aa (.int n),aa (.int w)] m = .ok (.nx [aa (.int n),aa (.int ((w+1:Nat):Int))]) m:=by
   unfold lwB;ac_nf;rfl
  rw[E,bind_ok,if_pos rfl,b,bind_ok];exact zpA H j (w+1) f (by omega) (by omega)
theorem zdS{n:Nat}(h:n<=2^50):zbN [.int n] m = .ok (.int (wdN n)) m:=by
 have H:=zgl h;apply zav;unfold zbN za2;show Run (Res.bind (zan (zaA (eC (.int 0)) (gN 1)) (zan (zeH zfx lwT lwB) (zaE (zad 1))) [aa (.int n),none] m) zeG) _;erw [zil];have:=zpA (n:=n) (m:=m) H (wdN n) 0 zfx (by omega) (ybU H (by decide));rw[show ((0:Nat):Int)=0 from rfl]at this;rw[this];ac_nf;exact Run.ok ⟨rfl,rfl⟩
def ckP(hd:List Int)(k:Nat):Int:=((yw k).map fun i:Nat=>((i:Int)+2)*hd.getD i 0).sum
theorem ckP_s(hd:List Int)(k:Nat):ckP hd (k+1)=ckP hd k+((k:Int)+2)*hd.getD k 0:=by
 unfold ckP;rw[ycO,yN,ybY];simp
variable{number:Nat}
theorem zcR{pt:Pt}(h:PtOk pt)(a:HdOk pt.fs hd):zbD [shD pt.fs pt.n,.int number,zco hd] m = .ok (.int (ckV pt number hd)) m:=by
 have hl:=a.len;have h1:=h.f1;apply zav;unfold zbD zia zco;erw [yg,zfI (by omega) (by omega)];ac_nf;refine Run.bind (zaT (fun k ρ m'=>∃x4:Option D,ρ = [aa (shD pt.fs pt.n),aa (.int number),aa (.tup (hd.map D.int)),aa (.int ((number:Int)+ckP hd k)),x4]/\m'=m) _ 0 ⟨_,by rw[show ckP hd 0=0 from rfl,Int.add_zero],rfl⟩ ?_) ?_
 ·rintro i d ρ m1 H ⟨x4,rfl,rfl⟩;have hi:=(ye.mp H).1;rw[zaU]at hi;have:=zlW H;subst this;rw[yq];have e:=yh (show i<hd.length by omega);erw [zbG e];erw [zf7 ⟨by omega,by omega⟩];ac_nf;have E:(number:Int)+ckP hd (i+1)=(number:Int)+ckP hd i+((i:Int)+2)*hd[i]:=by rw[ckP_s,ybE,e,yag,Int.add_assoc]
  rw[<- E];exact Run.ok ⟨_,rfl,_,rfl,rfl⟩
 ·rintro _ m1 ⟨ρ,rfl,x4,rfl,rfl⟩;rw[yq,zaU];erw [show ixD (shD pt.fs pt.n) (.int 1) m1 = .ok (.int pt.n) m1 from ix_t1 _ _ _];erw [zbm h.n0];exact Run.ok ⟨rfl,rfl⟩
theorem zg6{pt:Pt}(h:PtOk pt)(c:HdOk pt.fs hd):zaX [shD pt.fs pt.n,.non,zco hd] m = .ok (.str ⟨(pcK pt.fs (fmW pt).wys hd pt.fs.length).toArray⟩) m:=by
 have hl:=c.len;have h1:=h.f1;have b:=(zp7 h).wy;apply zav;unfold zaX zdI zco shD;ac_nf;refine Run.bind (zaT (fun k ρ m'=>∃x4 x5 x6:Option D,ρ = [aa (.tup [.tup (pt.fs.map Fd.e),.int pt.n]),aa .non,aa (.tup (hd.map D.int)),aa (.str ⟨(pcK pt.fs (fmW pt).wys hd k).toArray⟩),x4,x5,x6]/\m'=m) (zcd 0 (pt.fs.map Fd.e)) 0 ⟨_,_,_,rfl,rfl⟩ ?_) ?_
 ·rintro i d ρ m1 a ⟨x4,x5,x6,rfl,rfl⟩;obtain⟨f,e,rfl⟩:=zeD a;have hi:=(ye.mp e).1;obtain⟨b0,b1,_⟩:=h.sh.ok i f e;have E:=yh (show i<hd.length by omega);have l:(fmW pt).wys[i]?=aa .whole:=by simp[fmW,hi]
  have H:=zcK b c i (by omega);have g:=zdn h.sh.ok b i (by omega);rw[yq];ac_nf;simp only[Fd.e];erw [zbG E];erw [zcz (by omega)];erw [zbm (p2 f.b)];erw [zav (zca b1)];erw [add_str (by rw[zaD,H];omega)];ac_nf;have j:pcK pt.fs (fmW pt).wys hd i++dgs (hd[i]%2^f.b) f.b=pcK pt.fs (fmW pt).wys hd (i+1):=by
   rw[pcK,e,E,l];rfl
  rw[j];exact Run.ok ⟨_,rfl,_,_,_,rfl,rfl⟩
 ·rintro _ m1 ⟨ρ,rfl,x4,x5,x6,rfl,rfl⟩;rw[yq,zdd];ac_nf;exact Run.ok ⟨rfl,rfl⟩
theorem zlF{pt:Pt}(h:PtOk pt)(a:HdOk pt.fs hd):zbv [pt.e,.non,.int number,zco hd] m = .ok (.str ⟨(ltL pt none number hd).toArray⟩) m:=by
 have b:=zp7 h;have w1:=zgl (n:=1+pt.fms.length) (by have:=h.fml;omega);have w:=zgl (n:=pt.n.toNat) (by have:=h.n1;omega);have i:=h.w1;have H:=zcK b.wy a pt.fs.length (yc _);have c:=zdn h.sh.ok b.wy pt.fs.length (yc _);have g:=h.f1;have f:=h.fml;have d:=h.n1;have e:=h.n0;have U:wdN (1+pt.fms.length)<=40:=yaI fun z=>by
  have:=wdN_lt.mpr z;omega
 have u:wdN pt.n.toNat<=40:=yaI fun z=>by
  have:=wdN_lt.mpr z;omega
 apply zav;unfold zbv zeC Pt.e;erw [show (1:Int)+(((pt.fms.map Fm.e).length:Nat):Int)=((1+pt.fms.length:Nat):Int) by rw[yg];omega,zdS (by omega)];erw [zav (zca U)];erw [zcz (by omega)];erw [zbm (p2 pt.wide)];erw [zav (zca i)];erw [add_str (by rw[zaD,zaD];omega)];ac_nf;rw[zg6 h a];erw [add_str (by rw[yj,zaD,zaD,H];omega)];erw [zcR h a];erw [show ixD (shD pt.fs pt.n) (.int 1) m = .ok (.int pt.n) m from ix_t1 _ _ _];ac_nf;rw[show zbN [.int pt.n] m = .ok (.int (wdN pt.n.toNat)) m by
  have:=zdS (n:=pt.n.toNat) (m:=m) (by omega);rw[show ((pt.n.toNat:Nat):Int)=pt.n by omega]at this;exact this]
 erw [zav (zca u)];erw [add_str (by rw[yj,yj,zaD,zaD,zaD,H];omega)];exact Run.ok ⟨rfl,rfl⟩
theorem fmW_6{pt:Pt}(h:PtW pt):FmOk pt.fs (fmW pt):=⟨by show 0<1;decide,by show 1<=40;decide,h.w0,h.w1,⟨by simp[fmW],fun i f w a H=>by
 simp only[fmW]at H;have:=yM H;rw[(ybD.mp this).2];exact trivial⟩⟩
theorem zdL{pt:Pt}(h:PtW pt)(ha:zfE pt at'):FmOk pt.fs (zaL pt at'):=by
 cases at' with
 |none=>exact fmW_6 h|some i=>
  have hi:i<pt.fms.length:=ha;show FmOk pt.fs (pt.fms.getD i ⟨1,1,[]⟩);simp only[ybE,yh hi,yag];exact h.fm _ (yaB hi)
theorem zdV{pt:Pt}(h:PtW pt)(ha:zfE pt at'):zba [pt.e,onD at'] m = .ok (zaL pt at').e m:=by
 apply zav;unfold zba zmH;cases at' with
 |none=>
  simp only[onD];erw [zpT];erw [zfP];erw [ix_sh];erw [yg,mul_t ⟨by have:=h.f0;omega,by have:=h.f1;omega⟩];ac_nf;refine Run.ok ⟨?_,rfl⟩;simp only[zaL,fmW,Fm.e,fmD,yd5,yax,Wy.e];rfl
 |some i=>
  have hi:i<pt.fms.length:=ha;simp only[onD];erw [zea];ac_nf;rw[zka (d:=(zaL pt (aa i)).e) (by
   rw[yz,yh hi];simp[zaL,ybE,yh hi])]
  exact Run.ok ⟨rfl,rfl⟩
theorem zgp{pt:Pt}(h:PtW pt):za8 [pt.e] m = .ok (.int (wdN (1+pt.fms.length))) m:=by
 apply zav;unfold za8 zhf;erw [zea];erw [yg,show (1:Int)+(pt.fms.length:Nat)=((1+pt.fms.length:Nat):Int) by push_cast;rfl,zhN (by have:=h.fml;omega)];exact Run.ok ⟨rfl,rfl⟩
theorem zjh{pt:Pt}(h:PtW pt):zbq [pt.e] m = .ok (.int (wdN pt.n.toNat)) m:=by
 have h0:=h.n0;have h1:=h.n1;apply zav;unfold zbq zfZ;erw [zfP];erw [show ixD (shD pt.fs pt.n) (.int 1) m = .ok (.int pt.n) m from ix_t1 _ _ _];ac_nf;have e:=zhN (n:=pt.n.toNat) (m:=m) (by omega);rw[yd6 (by omega)]at e;rw[e];exact Run.ok ⟨rfl,rfl⟩
theorem zfO{pt:Pt}(h:PtW pt)(ha:zfE pt at'):zbH [pt.e,onD at'] m = .ok (.int (lsz pt at')) m:=by
 apply zav;unfold zbH zfU;erw [zdV h ha];erw [zgp h];erw [show ixD (zaL pt at').e (.int 1) m = .ok (.int (zaL pt at').b) m from ix_t1 _ _ _];erw [zfP];erw [show zfu [shD pt.fs pt.n,(zaL pt at').e] m = .ok (.int ((zcG pt.fs (zaL pt at').wys).sum:Nat)) m from zqM h.sh h.f1 (zdL h ha).wy];ac_nf;rw[zjh h];ac_nf;refine Run.ok ⟨?_,rfl⟩;unfold lsz;congr 1
theorem zc1(l:List Nat):(⟨l.toArray⟩:ae).cps.size=l.length:=yp ..
theorem zok(h:l.length<=1000000)(H:b<=l.length):slD (.str ⟨l.toArray⟩) none (aa (b:Int)) m = .ok (.str ⟨(l.take b).toArray⟩) m:=by
 rw[zdp (show (⟨l.toArray⟩:ae).cps.size<=sizeLine by rw[zc1];exact yx h (by decide))];congr 2;exact zgo (by rw[Mth.slice_lo _ _ (by rw[zc1];exact H)])
theorem zmd{a:Nat}(h:l.length<=1000000)(ha:a<=b)(H:b<=l.length):slD (.str ⟨l.toArray⟩) (aa (a:Int)) (aa (b:Int)) m = .ok (.str ⟨((l.drop a).take (b-a)).toArray⟩) m:=by
 rw[zdp (show (⟨l.toArray⟩:ae).cps.size<=sizeLine by rw[zc1];exact yx h (by decide))];congr 2;exact zgo (by rw[Mth.slice_mid _ _ _ ha (by rw[zc1];exact H)])
theorem zol{a:Nat}(h:l.length<=1000000)(ha:a<=l.length):slD (.str ⟨l.toArray⟩) (aa (a:Int)) none m = .ok (.str ⟨(l.drop a).toArray⟩) m:=by
 rw[zdp (show (⟨l.toArray⟩:ae).cps.size<=sizeLine by rw[zc1];exact yx h (by decide))];congr 2;exact zgo (by rw[Mth.slice_hi _ _ (by rw[zc1];exact ha)])
theorem zdR(h:Bin l):za1 [.str ⟨l.toArray⟩] m = .ok (.int (zc0 l)) m:=zav (zh2 (z:=⟨l.toArray⟩) h)
theorem zkR(h:Bin l):zb4 [.str ⟨l.toArray⟩] m = .ok (.bl ac) m:=by
 apply zav;unfold zb4 ze4;erw [show zhI "str" (.str ⟨l.toArray⟩) m = .ok (.bl ac) m from rfl];ac_nf;refine Run.bind (zaT (fun k ρ m'=>∃x,ρ = [aa (.str ⟨l.toArray⟩),x]/\m'=m) (zdZ ⟨l.toArray⟩) 0 ⟨_,rfl,rfl⟩ ?_) ?_
 ·rintro i d ρ m' hd ⟨x,rfl,rfl⟩;obtain⟨c,H,rfl⟩:=zge hd;ac_nf;rcases h c (yM H) with rfl|rfl
  ·rw[if_neg (by decide)];ac_nf;exact Run.ok ⟨_,rfl,_,rfl,rfl⟩
  ·rw[if_pos (by decide),show (!decide ((⟨#[49]⟩:ae)=yH "1"))=ag by decide];ac_nf;exact Run.ok ⟨_,rfl,_,rfl,rfl⟩
 ·rintro _ m' ⟨ρ,rfl,x,rfl,rfl⟩;ac_nf;exact Run.ok ⟨rfl,rfl⟩
theorem le_wdN(n:Nat):n<=2^wdN n:=yaI (mt wdN_lt.mp (yO _))
theorem wdN_li{n:Nat}:((n:Nat):Int)<=2^wdN n:=by exact_mod_cast le_wdN n
theorem zsN{pt:Pt}(ha:zfE pt at'):0<=znZ at'/\znZ at'<=pt.fms.length:=by
 cases at' with
 |none=>exact⟨yb6 _,by simp[znZ]⟩|some i=>
  have:i<pt.fms.length:=ha;simp only[znZ];omega
theorem zpm{x:Int}{n:Nat}(h0:0<=x)(h1:x<n):zc0 (dgs x (wdN n))=x:=by
 rw[zeL];exact yaN h0 (Int.lt_of_lt_of_le h1 wdN_li)
theorem zm4{pt:Pt}{r:List Nat}(h:PtW pt)(ha:zfE pt at')(hl:(dgs (znZ at') (wdN (1+pt.fms.length))++r).length<=1000000):zcT [pt.e,.str ⟨(dgs (znZ at') (wdN (1+pt.fms.length))++r).toArray⟩] m = .ok (onD at') m:=by
 have H:=zsN ha;apply zav;unfold zcT zft;erw [zgp h];erw [zok hl (by rw[yj,zaD];omega),ycc (zaD _ _)];erw [zdR (zeE _ _),zpm H.1 (by omega)];erw [zea];erw [yg,if_neg (by omega)];ac_nf;cases at' with
 |none=>
  rw[if_pos (show znZ none=0 from rfl)];ac_nf;exact Run.ok ⟨rfl,rfl⟩
 |some i=>
  rw[if_neg (by simp only[znZ];omega)];ac_nf;refine Run.ok ⟨?_,rfl⟩;simp only[znZ,onD];congr 1;omega
structure LtB(pt:Pt)(at':Option Nat)(mid:List Nat)(ck:Int):Prop where
 a:zfE pt at'
 b:Bin mid
 l:mid.length=(zaL pt at').b+(zcG pt.fs (zaL pt at').wys).sum
 c0:0<=ck
 c1:ck<pt.n
def ltB(pt:Pt)(at':Option Nat)(mid:List Nat)(ck:Int):List Nat:=dgs (znZ at') (wdN (1+pt.fms.length))++(mid++dgs ck (wdN pt.n.toNat))
variable{mid:List Nat}{ck:Int}
theorem zt9{pt:Pt}(h:LtB pt at' mid ck):(ltB pt at' mid ck).length=lsz pt at':=by
 unfold ltB lsz;rw[yj,yj,zaD,zaD,h.l];omega
theorem Bin.app{a b:List Nat}(h:Bin a)(h':Bin b):Bin (a++b):=fun c H=>(yJ.mp H).elim (h c) (h' c)
theorem zua{pt:Pt}(h:LtB pt at' mid ck):Bin (ltB pt at' mid ck):=(zeE _ _).app (h.b.app (zeE _ _))
theorem zj2{pt:Pt}(h:PtW pt)(ha:zfE pt at'):0<lsz pt at'/\lsz pt at'<=700:=by
 have H:=zdL h ha;have b:=H.b0;have a:=H.b1;have hs:=zdn h.sh H.wy pt.fs.length (yc _);have w1:=zgl (n:=1+pt.fms.length) (by have:=h.fml;omega);have w:=zgl (n:=pt.n.toNat) (by have:=h.n1;omega);have c:(zcG pt.fs (zaL pt at').wys).sum<=40*pt.fs.length:=by
  have e:zeF (zcG pt.fs (zaL pt at').wys) pt.fs.length=(zcG pt.fs (zaL pt at').wys).sum:=by
   unfold zeF;rw[yae (by have:=zb2 H.wy;omega)]
  omega
 have:=h.f1;unfold lsz;omega
theorem zmx(h:l.length<=1000000):zew [.str ⟨l.toArray⟩] m = .ok (.int l.length) m:=by
 have e:zew [.str ⟨l.toArray⟩] m=if l.toArray.size<=sizeLine then .ok (.int (l.toArray.size:Nat)) m else .bad:=rfl
 rw[e,yp,if_pos (yx h (by decide))]
variable{fd:EV}{m1 m2:Sto}
theorem zt7{x:D}(h1:fa ρ m = .ok x m1)(h:fd ρ m1 = .ok d m2):zkA fa fd ρ m=zpy x d m2:=by
 unfold zkA;rw[h1,bind_ok,h,bind_ok]
theorem zig{n k:Nat}{g:GV}{c:TV}(b:D->Bool)(h:fi ρ m = .ok (.ob k) m)(H:m[k]?=aa (.dct kvs))(hl:kvs.length<=1000000)(e:∀d∈zi7 kvs,∃ρ1,g d (ρ ++ yd n none) (m.set k .hid) = .ok ρ1 (m.set k .hid)/\c ρ1 (m.set k .hid) = .ok (b d) (m.set k .hid)/\el ρ1 (m.set k .hid) = .ok d (m.set k .hid)):zcF n fi g c el ρ m = .ok (.lst ((zi7 kvs).filter b)) m:=by
 unfold zcF zrC;rw[h,bind_ok];simp only[H,if_pos hl];rw[show (kvs.map fun p=>kD p.1)=zi7 kvs from rfl,zif b (zbw H) _ e];simp only[];rw[List.set_set];congr 1;exact yd7 fun j=>by
  by_cases a:k=j
  ·subst a;rw[zbw H,H]
  ·rw[zaM a]
def zcb:Option Int->D
 |none=>.non|some i=>.int i
def hlD(hl:List (Int×List Int)):List (L2.Key×D):=hl.map fun p=>(yaa p.1,zco p.2)
def ksH(hl:List (Int×List Int)):List Int:=hl.map (·.1)
theorem zeU(hl:List (Int×List Int)):zi7 (hlD hl)=(ksH hl).map D.int:=by
 unfold zi7 hlD ksH;rw[yY,yY];rfl
theorem zh5:∀(hl:List (Int×List Int)),zez (hlD hl)=aa (ksH hl)
 |[]=>rfl|p::r=>by
  show (zez (hlD r)).map (p.1 :: ·)=_;rw[zh5 r];rfl
def vlH(hl:List (Int×List Int))(n:Int):Option (List Int):=match hl with
 |[]=>none|p::r=>if p.1=n then aa p.2 else vlH r n
theorem zfc(n:Int):∀(hl:List (Int×List Int)),zd4 (hlD hl) (.inl n)=(vlH hl n).map zco
 |[]=>rfl|p::r=>by
  show (if (yaa p.1:L2.Key) = .inl n then aa (zco p.2) else zd4 (hlD r) (.inl n))=_;unfold vlH;by_cases h:p.1=n
  ·rw[if_pos (by rw[h]),if_pos h];rfl
  ·rw[if_neg (fun z=>h (ybH z)),if_neg h];exact zfc n r
theorem vlH_none{hl:List (Int×List Int)}:vlH hl n=none↔n∉ksH hl:=by
 induction hl with
 |nil=>simp[vlH,ksH]|cons p r i=>
  unfold vlH;by_cases h:p.1=n
  ·simp[h,ksH]
  ·rw[if_neg h,i];simp[ksH,Ne.symm h]
theorem zcg{hl:List (Int×List Int)}(h:n∈ksH hl):∃x,vlH hl n=aa x/\(n,x)∈hl:=by
 induction hl with
 |nil=>simp[ksH]at h|cons p r i=>
  unfold vlH;by_cases e:p.1=n
  ·exact⟨p.2,if_pos e,by rw[<- e];exact yan⟩
  ·rw[if_neg e];obtain⟨x,h1,H⟩:=i (by
    rcases yn.mp (show n∈p.1::ksH r from h) with z|z
    ·exact absurd z.symm e
    ·exact z)
   exact⟨x,h1,yK _ H⟩
def mxB(n:Int)(ks:List Int):Option Int:=if ks.filter (fun k=>decide (k<n))=[] then none else aa (zn1 (ks.filter fun k=>decide (k<n)))
theorem zkv(b:Int->Bool)(B:D->Bool)(h:∀i,B (.int i)=b i)(ks:List Int):(ks.map D.int).filter B=(ks.filter b).map D.int:=by
 induction ks with
 |nil=>rfl|cons k r I=>
  rw[yl,yaK,h,I,yaK];split <;> rfl
theorem zny:zpy (.lst (ns.map D.int)) d m = .ok (if ns=[] then d else .int (zn1 ns)) m:=by
 unfold zpy;simp only[lOf,yar,zcq];split <;> rfl
def ltI(n:Int):D->Bool
 |.int i=>decide (i<n)|_=>ag
def orD(o:Option Int)(d:D):D:=match o with
 |none=>d|some i=>.int i
theorem orD_i(o:Option Int)(b:Int):orD o (.int b) = .int (o.getD b):=by cases o <;> rfl
theorem orD_n(o:Option Int):orD o .non=zcb o:=by cases o <;> rfl
variable{i1:Nat}
theorem maxK{k:Nat}{hl:List (Int×List Int)}{fn:EV}(hi:i1=ρ.length)(h:fi ρ m = .ok (.ob k) m)(c:m[k]?=aa (.dct (hlD hl)))(H:hl.length<=1000000)(hn:∀x m',fn (ρ ++ [aa x]) m' = .ok (.int n) m')(hd:fd ρ m = .ok d m) : zkA (zcF 1 fi (gN i1) (tV (eOp ltD (zad i1) fn)) (zad i1)) fd ρ m = .ok (orD (mxB n (ksH hl)) d) m:=by
 subst hi;rw[zt7 (zig (ltI n) h c (by rw[hlD,yg];exact H) (by
  intro x a;rw[zeU]at a;obtain⟨i,hi,rfl⟩:=yR.mp a;have e:∀m',gN ρ.length (.int i) (ρ ++ yd 1 none) m' = .ok (ρ ++ [aa (.int i)]) m':=fun m'=>by
   show Res.ok ((ρ ++ [none]).set ρ.length (aa (.int i))) m'=_;rw[ycd _ _ (yc _),yaM];rfl
  have b:∀m',zad ρ.length (ρ ++ [aa (.int i)]) m' = .ok (.int i) m':=fun m'=>by
   unfold zad;rw[yT (yc _),yaM];rfl
  refine⟨_,e _,?_,b _⟩;unfold tV eOp;rw[b,bind_ok,hn,bind_ok];rfl)) hd,zeU,zkv (fun k=>decide (k<n)) (ltI n) (fun _=>rfl),zny]
 unfold mxB;split <;> rfl
theorem ziM{k:L2.Key}{d:D}:∀{a:List (L2.Key×D)},zd4 a k=none->zh0 a k d=a++[(k,d)]
 |[],_=>rfl|p::r,h=>by
  unfold zd4 at h;by_cases e:p.1=k
  ·rw[if_pos e]at h;cases h
  ·rw[if_neg e]at h;unfold zh0;rw[if_neg e,ziM h];rfl
theorem zl8{k:L2.Key}{q:L2.Key×D}(hq:q.1≠k):∀{a:List (L2.Key×D)},zd4 (a++[q]) k=zd4 a k
 |[]=>by show (if q.1=k then aa q.2 else none)=none;rw[if_neg hq]|p::r=>by
  show (if p.1=k then aa p.2 else zd4 (r++[q]) k)=(if p.1=k then aa p.2 else zd4 r k);rw[zl8 hq]
theorem zfD{g:GV}{c:TV}{E e:EV}{ρ : En}{m:Sto}(b:Int->Bool)(f:Int->D):∀(ks:List Int)(a:List (L2.Key×D)),(∀k∈ks,∃d,g (.int k) ρ m = .ok d m/\c d m = .ok (b k) m/\(b k=ac->E d m = .ok (.int k) m/\e d m = .ok (f k) m))->ks.Nodup →
  (∀k∈ks,zd4 a (.inl k)=none)->zga g c E e ρ (ks.map D.int) a m = .ok (a++(ks.filter b).map fun k=>(yaa k,f k)) m
 |[],a,_,_,_=>by rw[yaz,zga];simp|k::r,a,h,hn,hd=>by
  obtain⟨d,h1,h2,q⟩:=h k yan;obtain⟨n1,n⟩:=yao.mp hn;rw[yl,zga,h1,bind_ok,h2,bind_ok,yaK];cases l:b k with
  |false=>
   rw[if_neg yu,if_neg yu];exact zfD b f r a (fun k H=>h k (yK _ H)) n fun k H=>hd k (yK _ H)
  |true=>
   obtain⟨p,o⟩:=q l;rw[if_pos rfl,if_pos rfl,p,bind_ok,o,bind_ok];show zga g c E e ρ (r.map D.int) (zh0 a (.inl k) (f k)) m=_;rw[ziM (hd k yan),zfD b f r _ (fun k H=>h k (yK _ H)) n fun j i=>by
    rw[zl8 fun z=>n1 (by rw[ybH z];exact i)];exact hd j (yK _ i)]
   simp
def lstV(hl:List (Int×List Int))(bound:Int):Int:=(mxB bound (ksH hl)).getD bound
def zdE(hl:List (Int×List Int))(bound:Int):List (Int×List Int):=((zeh (ksH hl)).filter fun k=>decide (lstV hl bound<=k)).map fun k=>(k,(vlH hl k).getD [])
variable{x:List Int}{h:Nat}
theorem ix_h{hl:List (Int×List Int)}(H:m[h]?=aa (.dct (hlD hl)))(e:vlH hl n=aa x):ixD (.ob h) (.int n) m = .ok (zco x) m:=by
 show (match m[h]? with
  |some (.lst ds)=>opt (L2.atI ds n) m|some (.dct kvs)=>opt (zd4 kvs (.inl n)) m|_=>.bad)=_
 rw[H];show opt (zd4 (hlD hl) (.inl n)) m=_;rw[zfc,e];rfl
theorem in_h{hl:List (Int×List Int)}(H:m[h]?=aa (.dct (hlD hl))):MD.inD (.int n) (.ob h) m = .ok (.bl (vlH hl n).isSome) m:=by
 unfold MD.inD inO;simp only[H];rw[zfc,yb0]
theorem zsP{hl:List (Int×List Int)}(a:m[h]?=aa (.dct (hlD hl)))(H:hl.length<64):zgq [.ob h] m = .ok (.lst (znF (zeh (ksH hl)))) m:=by
 unfold zgq dOf;simp only[a,yar,zh5];rw[if_pos (by rw[ksH,yg];exact H)]
theorem zsG{hl:List (Int×List Int)}{bound:Int}(f:m[h]?=aa (.dct (hlD hl)))(b:hl.length<64)(hn:(ksH hl).Nodup) : zbM [.ob h,.int bound] m = .ok (.ob m.length) (m++[.dct (hlD (zdE hl bound))]):=by
 have H:(zeh (ksH hl)).Nodup:=(zbK _).nodup_iff.mpr hn;have K:Run (zbM [.ob h,.int bound] m) fun a m'=>a = .ob m.length/\m'=m++[.dct (hlD (zdE hl bound))]:=by
  unfold zbM zhe;erw [maxK (k:=h) (i1:=3) (fi:=zad 0) (fd:=zad 1) (fn:=zad 1) (ρ := [aa (.ob h),aa (.int bound),none]) (hl:=hl) (n:=bound) (d := .int bound) rfl rfl f (by omega) (fun _ _=>rfl) rfl];rw[orD_i,show (mxB bound (ksH hl)).getD bound=lstV hl bound from rfl];ac_nf;unfold zqi;have g:∀x,aIt (eFn zgq (zac (zad 0) zaj)) [aa (.ob h),aa (.int bound),x] m = .ok ((zeh (ksH hl)).map D.int) m:=fun x=>by
   unfold aIt eFn zac zaj;show ((zgq [.ob h] m).bind zlY)=_;rw[zsP f b,bind_ok];rfl
  rw[g,bind_ok,if_pos (by rw[yg,zgr,ksH,yg];omega)];rw[zfD (fun k=>decide (lstV hl bound<=k)) (fun k=>zco ((vlH hl k).getD [])) _ [] (by
   intro k c;obtain⟨x,i,_⟩:=zcg ((zbK _).mem_iff.mp c);refine⟨[aa (.ob h),aa (.int bound),aa (.int (lstV hl bound)),aa (.int k)],rfl,rfl,fun _=>⟨rfl,?_⟩⟩;show ixD (.ob h) (.int k) m=_;rw[ix_h f i,i];rfl) H (fun _ _=>rfl),bind_ok]
  ac_nf;refine Run.ok ⟨rfl,?_⟩;rw[zdE,hlD,yY];rfl
 obtain⟨a,m',e,rfl,rfl⟩:=K;exact e
def rdF(pt:D)(top:Option Int)(h:Nat):List (ae×D):=[("pact", pt),("highest", zcb top),("held", .ob h)]
structure RdAt(m:Sto)(k h:Nat)(pt:Pt)(top:Option Int)(hl:List (Int×List Int)):Prop where
 self:m[k]?=aa (.ins "Reader" (rdF pt.e top h))
 dct:m[h]?=aa (.dct (hlD hl))
 kh:k≠h
theorem RdAt.app{r:Sto}{k:Nat}{pt:Pt}{top:Option Int}{hl:List (Int×List Int)}(x:RdAt m k h pt top hl):RdAt (m++r) k h pt top hl:=⟨zc8 x.self,zc8 x.dct,x.kh⟩
theorem RdAt.lt{k:Nat}{pt:Pt}{top:Option Int}{hl:List (Int×List Int)}(x:RdAt m k h pt top hl):k<m.length/\h<m.length:=⟨(ye.mp x.self).1,(ye.mp x.dct).1⟩
theorem RdAt.fr{k:Nat}{pt:Pt}{top:Option Int}{hl:List (Int×List Int)}(x:RdAt m k h pt top hl)(f:Fr p q m m')(a:k≠p)(b:k≠q)(c:h≠p)(d:h≠q):RdAt m' k h pt top hl :=
 ⟨by rw[f.at' k x.lt.1 a b];exact x.self,by rw[f.at' h x.lt.2 c d];exact x.dct,x.kh⟩
variable{t:Int}{ks:List Int}
section
variable{k:Nat}{pt:Pt}{top:Option Int}{hl:List (Int×List Int)}
theorem RdAt.pact(x:RdAt m k h pt top hl):zso "Reader" "pact" (.ob k) m = .ok pt.e m:=zp9 x.self rfl
theorem RdAt.high(x:RdAt m k h pt top hl):zso "Reader" "highest" (.ob k) m = .ok (zcb top) m:=zp9 x.self rfl
theorem RdAt.held(x:RdAt m k h pt top hl):zso "Reader" "held" (.ob k) m = .ok (.ob h) m:=zp9 x.self rfl
theorem RdAt.meth(x:RdAt m k h pt top hl){f:ae}(e:(rdF pt.e top h).lookup f=none):zfq "Reader" f (.ob k) m=ac:=mth_ok x.self e
theorem zpS(r:Rd4):ixD r.e (.int 2) m = .ok (.int r.late) m:=ix_t2 _ _ _ _
theorem ziG(x:RdAt m k h pt (aa t) hl):zaH [.ob k] m = .ok (.int (t-pt.rd.late)) m:=by
 apply zav;unfold zaH zeY;erw [x.high];simp only[zcb];erw [x.pact];erw [ix_pt3];erw [zpS];ac_nf;exact Run.ok ⟨rfl,rfl⟩
def zex(pt:Pt)(top:Option Int)(n:Int):Bool:=decide (n<0)||(match top with
 |some t=>decide (n<t-pt.rd.late)|none=>ag)
theorem late_w(x:RdAt m k h pt top hl):zbi [.ob k,.int n] m = .ok (.bl (zex pt top n)) m:=by
 apply zav;unfold zbi zeb;ac_nf;by_cases hn:n<0
 ·rw[if_pos hn];ac_nf;exact Run.ok ⟨by simp[zex,hn],rfl⟩
 ·rw[if_neg hn];erw [x.high];cases top with
  |none=>
   simp only[zcb];ac_nf;exact Run.ok ⟨by simp[zex,hn],rfl⟩
  |some t=>
   simp only[zcb];erw [if_pos (x.meth rfl)];erw [ziG x];ac_nf;exact Run.ok ⟨by simp[zex,hn],rfl⟩
theorem zsd(x:RdAt m k h pt top hl)(H:hl.length<64):za6 [.ob k,.int n] m = .ok (zcb (mxB n (ksH hl))) m:=by
 apply zav;unfold za6 zdG;erw [maxK (k:=h) (i1:=2) (fi:=zcy "Reader" "held" (zad 0)) (fd:=eC .non) (fn:=zad 1) (ρ := [aa (.ob k),aa (.int n)]) (hl:=hl) (n:=n) (d := .non) rfl x.held x.dct (by omega) (fun _ _=>rfl) rfl,orD_n];ac_nf;exact Run.ok ⟨rfl,rfl⟩
def zf9(hl:List (Int×List Int))(n:Int)(reach:Nat):Bool:=match mxB n (ksH hl) with
 |none=>ac|some f=>decide ((reach:Int)<n-f)
theorem far_w{reach:Nat}(x:RdAt m k h pt top hl)(H:hl.length<64):zbp [.ob k,.int n,.int reach] m = .ok (.bl (zf9 hl n reach)) m:=by
 apply zav;unfold zbp zeZ;erw [if_pos (x.meth rfl)];erw [zsd x H];unfold zf9;cases mxB n (ksH hl) with
 |none=>
  simp only[zcb];ac_nf;exact Run.ok ⟨rfl,rfl⟩
 |some f=>
  simp only[zcb];ac_nf;exact Run.ok ⟨rfl,rfl⟩
def zbC(pt:Pt)(hl:List (Int×List Int))(at':Option Nat)(n:Int)(bits:List Nat):List Int:=match at' with
 |none=>(yw (pt.fs.map fun f=>f.b).length).map (zgZ bits (pt.fs.map fun f=>f.b))|some i=>match mxB n (ksH hl) with
  |none=>[]|some f=>hdV pt.fs (zaL pt (aa i)).wys ((vlH hl f).getD []) (n-f) bits pt.fs.length
theorem zdB{f:Int}(e:mxB n ks=aa f):f∈ks/\f<n/\∀g∈ks,g<n->g<=f:=by
 unfold mxB at e;split at e
 ·cases e
 ·rename_i h;have e:=yG e;have h1:=zrw h;have b:=fun g (a:g∈ks.filter fun k=>decide (k<n))=>zue a;rw[e]at h1 b;rw[yaO]at h1;exact⟨h1.1,by simpa using h1.2,fun g a H=>b g (yaO.mpr ⟨a,by simpa using H⟩)⟩
theorem zi3(e:mxB n ks=none):∀g∈ks,n<=g:=fun g H=>by
 unfold mxB at e;split at e
 ·rename_i h;have:=List.filter_eq_nil_iff.mp h g H;simp at this;exact this
 ·cases e
end
section
variable{k:Nat}{pt:Pt}{top:Option Int}{hl:List (Int×List Int)}
def zbQ(top:Option Int)(n:Int):Int:=match top with
 |none=>n|some t=>if t<n then n else t
theorem Fr.app{r:Sto}:Fr p q m (m++r):=⟨by rw[yj];omega,fun j h _ _=>yI h⟩
theorem zmh(x:RdAt m k h pt top hl)(H:hl.length<64)(hn:(ksH hl).Nodup):Run (za5 [.ob k,.int n] m) fun a m'=>a = .non/\RdAt m' k m.length pt (aa (zbQ top n)) (zdE hl (zbQ top n-pt.rd.late))/\Fr k h m m':=by
 have e:(eIf (tV (eOp isD (zcy "Reader" "highest" (zad 0)) (eC .non))) (zad 1) (eFn zi4 (zac (zcy "Reader" "highest" (zad 0)) (zac (zad 1) zaj)))) [aa (.ob k),aa (.int n)] m = .ok (zcb (aa (zbQ top n))) m:=by
  erw [x.high];cases top with
  |none=>simp only[zcb];ac_nf;rfl|some t=>
   simp only[zcb];erw [x.high];simp only[zcb];ac_nf;rfl
 unfold za5 zfR;have K:∀(fo:EV)(s:SV),Run ((zan (zeq "Reader" "highest" (zad 0) fo) s [aa (.ob k),aa (.int n)] m).bind zeG)=Run ((((fo [aa (.ob k),aa (.int n)] m).bind fun y m1=>(zqO "Reader" "highest" (.ob k) y m1).bind fun _ M=>s [aa (.ob k),aa (.int n)] M)).bind zeG):=by
  intro fo s;congr 2;unfold zan zeq;cases fo [aa (.ob k),aa (.int n)] m with
  |ok y m1=>
   simp only[bind_ok];show Res.bind (Res.bind (Res.bind (zad 0 [aa (.ob k),aa (.int n)] m1) _) _) _=_;show Res.bind (Res.bind (zqO "Reader" "highest" (.ob k) y m1) _) _=_;cases zqO "Reader" "highest" (.ob k) y m1 <;> rfl
  |exc=>rfl|bad=>rfl
 rw[show za2 2 (zan (zeq "Reader" "highest" (zad 0) (eIf (tV (eOp isD (zcy "Reader" "highest" (zad 0)) (eC .non))) (zad 1) (eFn zi4 (zac (zcy "Reader" "highest" (zad 0)) (zac (zad 1) zaj))))) (zeq "Reader" "held" (zad 0) (eFn zbM (zac (zcy "Reader" "held" (zad 0)) (zac (zcE "Reader" "least" zaH (zad 0) zaj) zaj))))) [.ob k,.int n] m=Res.bind (zan (zeq "Reader" "highest" (zad 0) (eIf (tV (eOp isD (zcy "Reader" "highest" (zad 0)) (eC .non))) (zad 1) (eFn zi4 (zac (zcy "Reader" "highest" (zad 0)) (zac (zad 1) zaj))))) (zeq "Reader" "held" (zad 0) (eFn zbM (zac (zcy "Reader" "held" (zad 0)) (zac (zcE "Reader" "least" zaH (zad 0) zaj) zaj)))) [aa (.ob k),aa (.int n)] m) zeG from rfl,K,e,bind_ok,zgs x.self (by show 3<1000;decide),bind_ok];have x1:RdAt (m.set k (.ins "Reader" (rdF pt.e (aa (zbQ top n)) h))) k h pt (aa (zbQ top n)) hl:=⟨zbw x.self,by rw[zaM x.kh];exact x.dct,x.kh⟩;have f1:Fr k h m (m.set k (.ins "Reader" (rdF pt.e (aa (zbQ top n)) h))):=Fr.set;have l1:(m.set k (.ins "Reader" (rdF pt.e (aa (zbQ top n)) h))).length=m.length:=yad ..;rw[show zf4 "highest" (zcb (aa (zbQ top n))) (rdF pt.e top h)=rdF pt.e (aa (zbQ top n)) h from rfl];generalize m.set k (.ins "Reader" (rdF pt.e (aa (zbQ top n)) h))=m1 at x1 f1 l1 ⊢;erw [x1.held];erw [if_pos (x1.meth rfl)];erw [ziG x1];erw [zsG x1.dct H hn];ac_nf;have x2:=x1.app (r:=[.dct (hlD (zdE hl (zbQ top n-pt.rd.late)))]);rw[zgs x2.self (by show 3<1000;decide)];ac_nf;have b:=x1.lt;refine Run.ok ⟨rfl,⟨?_,?_,by omega⟩,(f1.trans Fr.app).trans Fr.set⟩
 ·rw[zbw x2.self];rfl
 ·rw[zaM (by omega),<- l1];simp
end
variable{num bits:List Nat}
theorem zrk{pt:Pt}(h:PtW pt)(hl:LtB pt at' (num++bits) ck)(hq:num.length=(zaL pt at').b):zfv [pt.e,.str ⟨(ltB pt at' (num++bits) ck).toArray⟩] m = .ok (.tup [onD at',.int (zc0 num),.str ⟨bits.toArray⟩,.int ck]) m:=by
 have i:=zj2 h hl.a;have hn:=zt9 hl;have a:=hl.c0;have b:=hl.c1;have h0:=h.n0;have H:=hl.l;rw[yj]at H;have g:∀m,ixD (zaL pt at').e (.int 1) m = .ok (.int (zaL pt at').b) m:=fun m=>ix_t1 _ _ _;have j:lsz pt at'=wdN (1+pt.fms.length)+(zaL pt at').b+(zcG pt.fs (zaL pt at').wys).sum+wdN pt.n.toNat:=rfl;have E:(ltB pt at' (num++bits) ck).drop (lsz pt at'-wdN pt.n.toNat)=dgs ck (wdN pt.n.toNat):=by
  unfold ltB;rw[<- yX];exact yce (by rw[yj,zaD,hl.l];omega)
 have e:((ltB pt at' (num++bits) ck).drop (wdN (1+pt.fms.length))).take (zaL pt at').b=num:=by
  unfold ltB;rw[yce (zaD _ _),yX];exact ycc hq
 have f:((ltB pt at' (num++bits) ck).drop (wdN (1+pt.fms.length)+(zaL pt at').b)).take (lsz pt at'-wdN pt.n.toNat-(wdN (1+pt.fms.length)+(zaL pt at').b))=bits:=by
  unfold ltB;rw[<- yc0,yce (zaD _ _),yX,yce hq];exact ycc (by omega)
 apply zav;unfold zfv zi9;erw [zkR (zua hl)];erw [show zcT [pt.e,.str ⟨(ltB pt at' (num++bits) ck).toArray⟩] m = .ok (onD at') m from zm4 h hl.a (by rw[show (dgs (znZ at') (wdN (1+pt.fms.length))++((num++bits)++dgs ck (wdN pt.n.toNat))).length=lsz pt at' from hn];omega)];erw [zmx (by omega)];erw [zfO h hl.a,hn];erw [zgp h];erw [zdV h hl.a];erw [g];erw [zmx (by omega),hn];erw [zjh h];erw [show ((lsz pt at':Nat):Int)-(wdN pt.n.toNat:Nat)=((lsz pt at'-wdN pt.n.toNat:Nat):Int) by omega,zol (by omega) (by omega),E];erw [zdR (zeE _ _),zpm a (by omega)];ac_nf;rw[zfP];erw [show ixD (shD pt.fs pt.n) (.int 1) m = .ok (.int pt.n) m from ix_t1 _ _ _];erw [if_neg (by omega)];erw [show ((wdN (1+pt.fms.length):Nat):Int)+((zaL pt at').b:Nat)=((wdN (1+pt.fms.length)+(zaL pt at').b:Nat):Int) by omega,zmd (by omega) (by omega) (by omega),ycW,e];erw [zdR (fun c d=>hl.b c (yau _ d))];erw [zmd (by omega) (by omega) (by omega),f];erw [show zbg [onD at',.int (zc0 num),.str ⟨bits.toArray⟩,.int ck] m = .ok (.tup [onD at',.int (zc0 num),.str ⟨bits.toArray⟩,.int ck]) m from if_pos (zbs (by simp))];ac_nf;exact Run.ok ⟨rfl,rfl⟩
def ckI(pt:Pt)(number:Int)(hd:List Int):Int:=(number+ckS hd)%pt.n
def ckFn(d:D):D:=match d with
 |.tup [.int i,.int v]=>D.int ((i+2)*v)|_=>.non
theorem zqh(hd:List Int):(zcd 0 (hd.map D.int)).map ckFn=((yw hd.length).map fun i:Nat=>(((0+i:Nat):Int)+2)*hd.getD i 0).map D.int:=zmM hd hd 0
theorem zqr{pt:Pt}{number:Int}(h:PtW pt)(f:HdOk pt.fs hd):zdc [shD pt.fs pt.n,.int number,zco hd] m = .ok (.int (ckI pt number hd)) m:=by
 have hl:=f.len;have h1:=h.f1;apply zav;unfold zdc zkr zco;ac_nf;rw[zdN (ds:=zcd 0 (hd.map D.int)) ckFn (by ac_nf) (by rw[zdd];omega) (by
  intro d c;obtain⟨i,hi⟩:=ybB.mp c;obtain⟨v,j,rfl⟩:=zeD hi;have k:=(ye.mp j).1;refine⟨_,rfl,?_⟩;show (eOp zdC (eOp zbb (zad 3) (eC (.int 2))) (zad 4)) [aa (shD pt.fs pt.n),aa (.int number),aa (.tup (hd.map D.int)),aa (.int ((0+i:Nat):Int)),aa (.int v)] m=_;erw [zf7 ⟨by omega,by omega⟩];rfl)]
 ac_nf;rw[zqh hd,sum_i ⟨fun a b=>by
  simp only[yR,ybI]at b;obtain⟨i,hi,rfl⟩:=b;have g:=yh (show i<pt.fs.length by omega);have E:=yh hi;obtain⟨v0,V⟩:=f.at' i _ _ g E;have l:=p2le (h.sh i _ g).2.1;simp only[ybE,E,yag];have e:((0+i:Nat):Int)+2<=14:=by omega
  have H:0<=((0+i:Nat):Int)+2:=by omega
  generalize ((0+i:Nat):Int)+2=q at e H;generalize hd[i]=v at v0 V;refine⟨Int.mul_nonneg H v0,?_⟩;have:q*v<=14*v:=ydw e v0;omega,by simp;omega⟩]
 erw [show ixD (shD pt.fs pt.n) (.int 1) m = .ok (.int pt.n) m from ix_t1 _ _ _];erw [zbm h.n0];refine Run.ok ⟨?_,rfl⟩;unfold ckI ckS;simp only[yq]
theorem wsW(pt:Pt):zcG pt.fs (fmW pt).wys=pt.fs.map fun f=>f.b:=by
 unfold zcG fmW;induction pt.fs with
 |nil=>rfl|cons f r i=>
  show Wy.w f.b .whole::yaW (fun f w=>Wy.w f.b w) r (yd r.length .whole)=_;rw[i];rfl
section
variable{k:Nat}{pt:Pt}{top:Option Int}{hl:List (Int×List Int)}
theorem zke(x:RdAt m k h pt top hl)(hp:PtW pt)(ha:zfE pt at')(c:hl.length<64)(g:Bin bits)(b:bits.length=(zcG pt.fs (zaL pt at').wys).sum)(a:at'≠none->∃f,mxB n (ksH hl)=aa f)(d:∀p∈hl,HdOk pt.fs p.2) : zaW [.ob k,onD at',.int n,.str ⟨bits.toArray⟩] m = .ok (zco (zbC pt hl at' n bits)) m:=by
 have h1:=hp.f1;have e:=zdL hp ha;have hsz:bits.length<=700:=by
  have:=(zj2 hp ha).2;unfold lsz at this;omega
 have H:(⟨bits.toArray⟩:ae).length<=sizeLine:=by
  show bits.toArray.size<=sizeLine;rw[yp];exact yx hsz (by decide)
 apply zav;unfold zaW zdh;cases at' with
 |none=>
  simp only[onD];erw [x.pact];erw [zfP];erw [zav (zf1 (by omega))];ac_nf;rw[show (pt.fs.map fun f=>D.int f.b)=(pt.fs.map fun f=>f.b).map (fun k:Nat=>D.int k) by rw[yY];rfl,zav (zgY (z:=⟨bits.toArray⟩) g H (by
   show _<=bits.toArray.size;rw[yp,b,show zaL pt none=fmW pt from rfl,wsW];exact yc _) (by rw[yg];omega))]
  ac_nf;exact Run.ok ⟨rfl,rfl⟩
 |some i=>
  obtain⟨f,a⟩:=a (by simp);obtain⟨hm,_,_⟩:=zdB a;obtain⟨fo,E,j⟩:=zcg hm;simp only[onD];erw [if_pos (x.meth rfl)];erw [zsd x c,a];simp only[zcb];erw [x.pact];erw [zfP];erw [x.pact];erw [show zba [pt.e,.int i] m = .ok (zaL pt (aa i)).e m from zdV (at':=aa i) hp ha];erw [x.held];erw [ix_h x.dct E];ac_nf;unfold Fm.e zco;rw[zav (zng hp.sh h1 e.wy (d _ j) (z:=⟨bits.toArray⟩) g H (by show bits.toArray.size=_;rw[yp];exact b))];ac_nf;refine Run.ok ⟨?_,rfl⟩;unfold zbC;simp only[a,E,yag]
end
def znw(x:ae):D := .tup [.str "not", .str x]
def twD(n:Int):D := .tup [.str "twice", .int n]
def rdD(n:Int)(hd:List Int):D := .tup [.str "read", .int n,zco hd]
def zjT(pt:Pt)(top:Option Int)(at':Option Nat)(r:Int):Int:=match at',top with
 |some i,aa t=>(t-pt.rd.late)+(r-(t-pt.rd.late))%2^(zaL pt (aa i)).b|_,_=>r
def rdN(pt:Pt)(top:Option Int)(hl:List (Int×List Int))(at':Option Nat)(n:Int)(bits:List Nat)(ck:Int):D×Option Int×List (Int×List Int) :=
 if zex pt top n=ac then (znw "late", top,hl)
 else if n∈ksH hl then (twD n,top,hl)
 else if at'≠none/\zf9 hl n (zaL pt at').a=ac then (znw "far", aa (zbQ top n),zdE hl (zbQ top n-pt.rd.late))
 else if ckI pt n (zbC pt hl at' n bits)≠ck then (znw "check", top,hl)
 else (rdD n (zbC pt hl at' n bits),aa (zbQ top n),zdE (hl++[(n,zbC pt hl at' n bits)]) (zbQ top n-pt.rd.late))
def rdV(pt:Pt)(top:Option Int)(hl:List (Int×List Int))(at':Option Nat)(r:Int)(bits:List Nat)(ck:Int):D×Option Int×List (Int×List Int) :=
 if at'≠none/\top=none then (znw "blank", top,hl) else rdN pt top hl at' (zjT pt top at' r) bits ck
def zoF:SV:=by walk_at "#uTx)x*6v^tO*uJ%x+vYuYUv_tdstv`v]w`vauY"
def zoE:SV:=by walk_at "#tiuWx%x&uXu~tw|!<stv[O_uLuUuWx'x(6vZS!v]uXv!_|#"
theorem zp3:zdF=(zan (zaA (eFn zfv (zac (zcy "Reader" "pact" (zad 0)) (zac (zad 1) zaj))) (gT 4 (zaC (gN 2) (zaC (gN 3) (zaC (gN 4) (zaC (gN 5) zc6))))))
 (zan (sIf (tV (eOp zc5 (zad 2) (eC .non)))
 (zan (sIf (tV (eOp isD (zcy "Reader" "highest" (zad 0)) (eC .non)))
 (zaE (eFn zbg (zac (eC (.str "not")) (zac (eC (.str "blank")) zaj))))
 za0)
 (zaA (eFn zbo (zac (zcE "Reader" "least" zaH (zad 0) zaj) (zac (zad 3) (zac (eOp ixD (eFn zba (zac (zcy "Reader" "pact" (zad 0)) (zac (zad 2) zaj))) (eC (.int 1))) zaj)))) (gN 3)))
 za0) zoE)):=rfl
theorem zmY{l r:Int}{w:Nat}(h:w<=1000000):zbo [.int l,.int r,.int w] m = .ok (.int (l+(r-l)%2^w)) m:=by
 apply zav;unfold zbo zfs;erw [zav (zcN h)];ac_nf;exact Run.ok ⟨rfl,rfl⟩
theorem put_h{hl:List (Int×List Int)}(a:m[h]?=aa (.dct (hlD hl)))(hn:n∉ksH hl)(H:hl.length<1000):zhz (.ob h) (.int n) (zco x) m = .ok () (m.set h (.dct (hlD (hl++[(n,x)])))):=by
 unfold zhz;simp only[a,zhH];rw[if_pos (by rw[hlD,yg];exact zbr (by omega)),ziM (by rw[zfc,vlH_none.mpr hn];rfl)];congr 3;unfold hlD;rw[yN];rfl
section
variable{k:Nat}{pt:Pt}{top:Option Int}{hl:List (Int×List Int)}
def RdB(m:Sto)(k h:Nat)(pt:Pt)(v:D×Option Int×List (Int×List Int))(a:D)(m':Sto):Prop:=∃h',a=v.1/\RdAt m' k h' pt v.2.1 v.2.2/\Fr k h m m'/\(h'=h∨m.length<=h')
theorem zl9{x1 x6:Option D}(x:RdAt m k h pt top hl)(hp:PtW pt)(ha:zfE pt at')(t:hl.length<63)(hn:(ksH hl).Nodup)(r:Bin bits)(q:bits.length=(zcG pt.fs (zaL pt at').wys).sum)(o:∀p∈hl,HdOk pt.fs p.2)(hok:zex pt top n=ag->n∉ksH hl->(at'=none∨zf9 hl n (zaL pt at').a=ag)->HdOk pt.fs (zbC pt hl at' n bits)) : Run ((zoE [aa (.ob k),x1,aa (onD at'),aa (.int n),aa (.str ⟨bits.toArray⟩),aa (.int ck),x6] m).bind zeG) (RdB m k h pt (rdN pt top hl at' n bits ck)):=by
 unfold zoE;erw [if_pos (x.meth rfl)];erw [late_w x];unfold rdN;cases j:zex pt top n with
 |true=>
  rw[if_pos rfl];ac_nf;exact Run.ok ⟨h,rfl,x,Fr.refl,.inl rfl⟩
 |false=>
 rw[if_neg yu];erw [x.held];erw [in_h x.dct];by_cases c:n∈ksH hl
 ·obtain⟨y,s,_⟩:=zcg c;rw[if_pos c,s];simp only[ycJ];ac_nf;exact Run.ok ⟨h,rfl,x,Fr.refl,.inl rfl⟩
 rw[if_neg c,vlH_none.mpr c];simp only[yd8];ac_nf;have l:(at'=none∨zf9 hl n (zaL pt at').a=ag)->Run ((zoF [aa (.ob k),x1,aa (onD at'),aa (.int n),aa (.str ⟨bits.toArray⟩),aa (.int ck),x6] m).bind zeG)
  (RdB m k h pt (if ckI pt n (zbC pt hl at' n bits)≠ck then (znw "check", top,hl) else (rdD n (zbC pt hl at' n bits),aa (zbQ top n),zdE (hl++[(n,zbC pt hl at' n bits)]) (zbQ top n-pt.rd.late)))):=by
  intro d;have u:=hok j c d;unfold zoF;erw [if_pos (x.meth rfl)];ac_nf;rw[zke x hp ha (by omega) r q (fun g=>by
   rcases d with z|z
   ·exact absurd z g
   ·unfold zf9 at z;cases e:mxB n (ksH hl) with
    |none=>rw[e]at z;cases z|some f=>exact⟨f,rfl⟩) o]
  erw [x.pact];erw [zfP];erw [zqr hp u];ac_nf;by_cases H:ckI pt n (zbC pt hl at' n bits)=ck
  ·rw[if_neg (by simpa using H)];rw[if_neg (not_not_intro H)];erw [x.held];erw [put_h x.dct c (by omega)];ac_nf;have x2:RdAt (m.set h (.dct (hlD (hl++[(n,zbC pt hl at' n bits)])))) k h pt top (hl++[(n,zbC pt hl at' n bits)]):=⟨by rw[zaM (Ne.symm x.kh)];exact x.self,zbw x.dct,x.kh⟩;have f2:Fr k h m (m.set h (.dct (hlD (hl++[(n,zbC pt hl at' n bits)])))):=Fr.set';have l2:(m.set h (.dct (hlD (hl++[(n,zbC pt hl at' n bits)])))).length=m.length:=yad ..;generalize m.set h (.dct (hlD (hl++[(n,zbC pt hl at' n bits)])))=m2 at x2 f2 l2 ⊢;rw[if_pos (x2.meth rfl)];ac_nf;refine Run.bind (zmh x2 (by rw[yj];show hl.length+1<64;omega) (by
    unfold ksH at hn c ⊢;rw[yN,ybu];refine⟨hn,by simp,fun a ha b r e=>c ?_⟩;have:b=n:=by simpa using r
    rw[<- this,<- e];exact ha)) ?_
   rintro _ M ⟨rfl,x3,f3⟩;ac_nf;exact Run.ok ⟨_,rfl,x3,f2.trans f3,.inr (by omega)⟩
  ·rw[if_pos (by simpa using H)];rw[if_pos H];ac_nf;exact Run.ok ⟨h,rfl,x,Fr.refl,.inl rfl⟩
 cases at' with
 |none=>
  rw[if_neg (by simp)];have:=l (.inl rfl);simp only[onD]at this ⊢;ac_nf;exact this
 |some i=>
  simp only[onD]at l ⊢;erw [if_pos (x.meth rfl)];erw [x.pact];erw [show zba [pt.e,.int i] m = .ok (zaL pt (aa i)).e m from zdV (at':=aa i) hp ha];erw [show ixD (zaL pt (aa i)).e (.int 0) m = .ok (.int (zaL pt (aa i)).a) m from ix_t0 _ _];erw [far_w x (by omega)];cases v:zf9 hl n (zaL pt (aa i)).a with
  |true=>
   rw[if_pos ⟨by simp,rfl⟩];erw [if_pos (x.meth rfl)];ac_nf;refine Run.bind (zmh x (by omega) hn) ?_;rintro _ M ⟨rfl,x3,f3⟩;ac_nf;exact Run.ok ⟨_,rfl,x3,f3,.inr (yc _)⟩
  |false=>
   rw[if_neg (by simp)];have:=l (.inr v);ac_nf;exact this
theorem zq0(x:RdAt m k h pt top hl)(hp:PtW pt)(H:LtB pt at' (num++bits) ck)(hq:num.length=(zaL pt at').b)(a:hl.length<63)(hn:(ksH hl).Nodup)(b:∀p∈hl,HdOk pt.fs p.2)(hok:zex pt top (zjT pt top at' (zc0 num))=ag->zjT pt top at' (zc0 num)∉ksH hl->(at'=none∨zf9 hl (zjT pt top at' (zc0 num)) (zaL pt at').a=ag)->HdOk pt.fs (zbC pt hl at' (zjT pt top at' (zc0 num)) bits)) : Run (zda [.ob k,.str ⟨(ltB pt at' (num++bits) ck).toArray⟩] m) (RdB m k h pt (rdV pt top hl at' (zc0 num) bits ck)):=by
 have e:Bin bits:=fun c f=>H.b c (yC _ f);have d:bits.length=(zcG pt.fs (zaL pt at').wys).sum:=by
  have:=H.l;rw[yj]at this;omega
 have g:=(zdL hp H.a).b1;unfold zda;rw[zp3];erw [x.pact];erw [zrk hp H hq];ac_nf;unfold rdV;cases at' with
 |none=>
  rw[if_neg (by simp)];have:=zl9 (x1:=aa (.str ⟨(ltB pt none (num++bits) ck).toArray⟩)) (x6:=none) x hp H.a a hn e d b (n:=zjT pt top none (zc0 num)) (ck:=ck) hok;simp only[onD]at this ⊢;ac_nf;exact this
 |some i=>
  simp only[onD];erw [x.high];cases top with
  |none=>
   simp only[zcb];rw[if_pos ⟨by simp,by simp⟩];ac_nf;exact Run.ok ⟨h,rfl,x,Fr.refl,.inl rfl⟩
  |some t=>
   simp only[zcb];rw[if_neg (by simp)];erw [if_pos (x.meth rfl)];erw [ziG x];erw [x.pact];erw [show zba [pt.e,.int i] m = .ok (zaL pt (aa i)).e m from zdV (at':=aa i) hp H.a];erw [show ixD (zaL pt (aa i)).e (.int 1) m = .ok (.int (zaL pt (aa i)).b) m from ix_t1 _ _ _];erw [zmY (by omega)];have:=zl9 (x1:=aa (.str ⟨(ltB pt (aa i) (num++bits) ck).toArray⟩)) (x6:=none) x hp H.a a hn e d b (n:=zjT pt (aa t) (aa i) (zc0 num)) (ck:=ck) hok;simp only[onD]at this;ac_nf;exact this
end
theorem zt2{f:Int}:mxB n ks=aa f↔f∈ks/\f<n/\∀g∈ks,g<n->g<=f:=by
 constructor
 ·exact zdB
 ·rintro⟨h1,H,h⟩;cases e:mxB n ks with
  |none=>have:=zi3 e f h1;omega|some g=>
   obtain⟨g1,G,g3⟩:=zdB e;have a:=h g g1 G;have b:=g3 f h1 H;congr 1;omega
theorem zjY:mxB n ks=none↔∀g∈ks,n<=g:=by
 constructor
 ·exact zi3
 ·intro h;cases e:mxB n ks with
  |none=>rfl|some g=>
   obtain⟨g1,G,g3⟩:=zdB e;have:=h g g1;omega
theorem zt3{k:List Int}(h:∀x,x<n->(x∈ks↔x∈k)):mxB n ks=mxB n k:=by
 cases e:mxB n k with
 |none=>
  rw[zjY]at e ⊢;intro g H;rcases Int.lt_or_le g n with z|z
  ·exact e g ((h g z).mp H)
  ·exact z
 |some f=>
  rw[zt2]at e ⊢;obtain⟨a,b,c⟩:=e;exact⟨(h f b).mpr a,b,fun g H hn=>c g ((h g hn).mp H) hn⟩
def kpF(e:Int)(ns:List Int):List Int:=zeh (ns.filter fun x=>decide (e<=x)||decide (mxB e ns=aa x))
theorem mem_kpF{e x:Int}:x∈kpF e ns↔x∈ns/\(e<=x∨mxB e ns=aa x):=by
 unfold kpF;rw[(zbK _).mem_iff,yaO];simp
theorem zj5{e:Int}(h:ns.Nodup):(kpF e ns).Nodup:=(zbK _).nodup_iff.mpr (h.sublist ybF)
theorem zuf(e:Int)(ns:List Int):(kpF e ns).length<=ns.length:=by
 unfold kpF;rw[zgr];exact ydy _ _
theorem zfo(e:Int)(ns:List Int):(kpF e ns).Pairwise (· <= ·):=zdo _
theorem zm3{a b:List Int}(ha:a.Nodup)(H:b.Nodup)(sa:a.Pairwise (· <= ·))(s:b.Pairwise (· <= ·))(h:∀x,x∈a↔x∈b):a=b :=
 ydQ ((yd9 ha H).mpr h) sa s
theorem zj6{e:Int}(hn:ks.Nodup):((zeh ks).filter fun k=>decide ((mxB e ks).getD e<=k))=kpF e ks:=by
 refine zm3 ((((zbK _).nodup_iff.mpr hn)).sublist ybF) (zj5 hn) ((zdo ks).sublist ybF) (zfo _ _) fun x=>?_;rw[yaO,(zbK _).mem_iff,mem_kpF];constructor
 ·rintro⟨h1,H⟩;refine⟨h1,?_⟩;have H:(mxB e ks).getD e<=x:=by simpa using H
  cases h:mxB e ks with
  |none=>rw[h]at H;exact .inl H|some f=>
   rw[h]at H;obtain⟨a,b,c⟩:=zdB h;rcases Int.lt_or_le x e with q|q
   ·right;have:=c x h1 q;have H:f<=x:=H;congr 1;omega
   ·exact .inl q
 ·rintro⟨h1,H⟩;refine⟨h1,?_⟩;simp only[decide_eq_true_eq];cases h:mxB e ks with
  |none=>exact zi3 h x h1|some f=>
   rw[h]at H;obtain⟨a,b,c⟩:=zdB h;show f<=x;rcases H with H|H
   ·omega
   ·have:=yG H;omega
theorem zeT{hl:List (Int×List Int)}{e:Int}(hn:(ksH hl).Nodup):ksH (zdE hl e)=kpF e (ksH hl):=by
 rw[<- zj6 hn];unfold ksH zdE lstV;rw[yY];exact List.map_id _
section
variable{k:Nat}{pt:Pt}{top:Option Int}{hl:List (Int×List Int)}
theorem zoz(x:RdAt m k h pt top hl):za9 [.ob k] m = .ok (zcb top) m:=by
 apply zav;unfold za9 zhg;erw [x.high];ac_nf;exact Run.ok ⟨rfl,rfl⟩
theorem zlf(x:RdAt m k h pt top hl):zaP [.ob k] m = .ok (.ob m.length) (m++[.dct (hlD hl)]):=by
 have K:Run (zaP [.ob k] m) fun a m'=>a = .ob m.length/\m'=m++[.dct (hlD hl)]:=by
  unfold zaP zfS;erw [x.held];erw [show dctF [.ob h] m = .ok (.ob m.length) (m++[.dct (hlD hl)]) by unfold dctF;simp only[x.dct]];ac_nf;exact Run.ok ⟨rfl,rfl⟩
 obtain⟨a,m',e,rfl,rfl⟩:=K;exact e
theorem zs3(pt:Pt)(m:Sto):Run (mkM "Reader" zbX [pt.e] m) fun a m'=>a = .ob m.length/\RdAt m' m.length (m.length+1) pt none []/\∃r,m'=m++r:=by
 unfold mkM zbX zfT;ac_nf;have b:∀fs:List (ae×D),(m++[MO.ins "Reader" fs])[m.length]?=aa (.ins "Reader" fs):=fun fs=>by simp
 have e:∀fs g:List (ae×D),(m++[MO.ins "Reader" fs]).set m.length (.ins "Reader" g)=m++[.ins "Reader" g]:=fun fs g=>by
  rw[ycd _ _ (yc _),yaM];rfl
 rw[zgs (b _) (by show 0<1000;decide),e];erw [zgs (b _) (by show 1<1000;decide),e];erw [show ∀(ρ : En)(m:Sto),zde [] ρ m = .ok (.ob m.length) (m++[.dct []]) from fun _ _=>rfl];ac_nf;have E:∀fs:List (ae×D),(m++[MO.ins "Reader" fs]++[MO.dct []])[m.length]?=aa (.ins "Reader" fs):=fun fs=>by simp
 have es:∀fs g:List (ae×D),(m++[MO.ins "Reader" fs]++[MO.dct []]).set m.length (.ins "Reader" g)=m++[.ins "Reader" g]++[.dct []]:=fun fs g=>by
  rw[yX,ycd _ _ (yc _),yaM,yX];rfl
 have el:∀fs:List (ae×D),(m++[MO.ins "Reader" fs]).length=m.length+1:=fun fs=>by simp
 rw[el,zgs (E _) (by show 2<1000;decide),es];ac_nf;refine Run.ok ⟨rfl,⟨by rw[E];rfl,?_,by omega⟩,_,by rw[yX]⟩;rw[yT (by simp)];simp[hlD]
end
def Sm7:Nat->D->Prop
 |0,d=>d = .non∨(∃a,d = .int a)∨∃s,d = .str s|n+1,d=>(d = .non∨(∃a,d = .int a)∨∃s,d = .str s)∨∃xs,d = .tup xs/\xs.length<=1000/\∀x∈xs,Sm7 n x
theorem zsX{n:Nat}{s:ae}:zbl (n+1) [.str s,.str s] m = .ok (.bl ac) m:=by
 apply zav;rw[zbl];unfold zdH;erw [show zhI "tuple" (.str s) m = .ok (.bl ag) m from rfl];erw [show isD (.str s) .non m = .ok (.bl ag) m from rfl];erw [show zhI "str" (.str s) m = .ok (.bl ac) m from rfl];ac_nf;exact Run.ok ⟨by simp,rfl⟩
theorem zot{n:Nat}(h:d = .non∨(∃a,d = .int a)∨∃s,d = .str s):zbl (n+1) [d,d] m = .ok (.bl ac) m:=by
 rcases h with rfl|⟨a,rfl⟩|⟨s,rfl⟩
 ·exact zme (.inl rfl)
 ·exact zme (.inr ⟨_,rfl⟩)
 ·exact zsX
theorem ziu:∀(n:Nat)(d:D){m:Sto},Sm7 n d->zbl (n+1) [d,d] m = .ok (.bl ac) m
 |0,d,m,h=>zot h|n+1,d,m,h=>by
  rcases h with h|⟨xs,rfl,hl,b⟩
  ·exact zot h
  apply zav;rw[zbl];unfold zdH;erw [zsi];erw [zsi];erw [zdN (ds:=xs.map fun a=>D.tup [a,a]) (fun _=>.bl ac)]
  ·erw [yY,show ((fun _=>D.bl ac)∘fun a:D=>D.tup [a,a])=fun _=>D.bl ac from rfl,zqz];ac_nf;exact Run.ok ⟨rfl,rfl⟩
  ·ac_nf;simp only[zqC];rw[if_pos (yc _),zl2]
  ·simp;omega
  ·intro d hd;obtain⟨x,H,rfl⟩:=yR.mp hd;refine⟨_,rfl,?_⟩;exact ziu n x (b x H)
theorem zsR(n:Nat)(a:Int):Sm7 n (.int a):=by cases n with
 |zero=>exact .inr (.inl ⟨_,rfl⟩)|succ=>exact .inl (.inr (.inl ⟨_,rfl⟩))
theorem zsQ(n:Nat)(a:ae):Sm7 n (.str a):=by cases n with
 |zero=>exact .inr (.inr ⟨_,rfl⟩)|succ=>exact .inl (.inr (.inr ⟨_,rfl⟩))
theorem zgg{x:ae}:zcl [znw x,znw x] m = .ok (.bl ac) m:=ziu 11 _ (.inr ⟨_,rfl,by simp,fun y h=>by
 simp only[yn,yF,or_false]at h;rcases h with rfl|rfl <;> exact zsQ _ _⟩)
theorem zsW:zcl [twD n,twD n] m = .ok (.bl ac) m:=ziu 11 _ (.inr ⟨_,rfl,by simp,fun y h=>by
 simp only[yn,yF,or_false]at h;rcases h with rfl|rfl
 ·exact zsQ _ _
 ·exact zsR _ _⟩)
theorem zsY(h:hd.length<=1000):zcl [rdD n hd,rdD n hd] m = .ok (.bl ac) m:=ziu 11 _ (.inr ⟨_,rfl,by simp,fun y H=>by
 simp only[yn,yF,or_false]at H;rcases H with rfl|rfl|rfl
 ·exact zsQ _ _
 ·exact zsR _ _
 ·exact .inr ⟨_,rfl,by rw[yg];exact h,fun z a=>by
   obtain⟨v,_,rfl⟩:=yR.mp a;exact zsR _ _⟩⟩)
theorem eq_l0{xs:List Int}:eqD (.lst (xs.map D.int)) (.lst []) m = .ok (.bl (decide (xs=[]))) m:=by
 have e:=zqg xs [];rw[yaz]at e;simp only[eqD,rs,e]
structure Ne36(p q k h d r:Nat):Prop where
 kp:k≠p
 kq:k≠q
 hp:h≠p
 hq:h≠q
 dp:d≠p
 dq:d≠q
 rp:r≠p
 rq:r≠q
 dk:d≠k
 dh:d≠h
 rk:r≠k
 rh:r≠h
 dr:d≠r
theorem zc7{n:Nat}(h:n=m.length):(m++[o])[n]?=aa o:=by
 subst h;simp
theorem znN{k:Nat}{pt:Pt}{top:Option Int}{hl:List (Int×List Int)}(x:RdAt m k h pt top hl):Run (zbt [.ob k] m) fun a m'=>a = .non/\RdAt m' k m.length pt none []/\Fr k h m m':=by
 unfold zbt zec;erw [zgs x.self (by show 3<1000;decide)];have x1:RdAt (m.set k (.ins "Reader" (zf4 "highest" .non (rdF pt.e top h)))) k h pt none hl:=⟨zbw x.self,by rw[zaM x.kh];exact x.dct,x.kh⟩;have f1:Fr k h m (m.set k (.ins "Reader" (zf4 "highest" .non (rdF pt.e top h)))):=Fr.set;have l1:(m.set k (.ins "Reader" (zf4 "highest" .non (rdF pt.e top h)))).length=m.length:=yad ..;generalize m.set k (.ins "Reader" (zf4 "highest" .non (rdF pt.e top h)))=m1 at x1 f1 l1 ⊢;erw [show ∀(ρ : En)(m:Sto),zde [] ρ m = .ok (.ob m.length) (m++[.dct []]) from fun _ _=>rfl];ac_nf;have x2:=x1.app (r:=[.dct []]);rw[zgs x2.self (by show 3<1000;decide)];ac_nf;have H:=x1.lt;refine Run.ok ⟨rfl,⟨?_,?_,by omega⟩,(f1.trans Fr.app).trans Fr.set⟩
 ·rw[zbw x2.self];rfl
 ·rw[zaM (by omega),<- l1];exact zc7 rfl
def bkL(top:Option Int)(r:Nat):List (L2.Key×D):=[(.inr "top", zcb top),(.inr "kept", .ob r)]
theorem zhr(top:Option Int)(r:Nat):zd4 (bkL top r) (.inr "top")=aa (zcb top):=rfl
theorem zdM(top:Option Int)(r:Nat):zd4 (bkL top r) (.inr "kept")=aa (.ob r):=rfl
theorem zsx(top:Option Int)(r:Nat)(t:Int):zh0 (bkL top r) (.inr "top") (.int t)=bkL (aa t) r:=rfl
def ksP(bk:List (Int×List Int))(e:Int):List (Int×List Int):=bk.filter fun p=>decide (e<=p.1)||decide (mxB e (ksH bk)=aa p.1)
variable{B A:List (Int×List Int)}
theorem zrO{p:Int×List Int}(hn:(ksH (A++p::B)).Nodup):zjc (hlD (A++p::B)) (.inl p.1)=hlD (A++B):=by
 have k:∀(l:List (Int×List Int)),p.1∉ksH l->zjc (hlD l) (.inl p.1)=hlD l:=fun l hl=>by
  unfold zjc;rw[List.filter_eq_self];intro q hq;unfold hlD at hq;obtain⟨w,h,rfl⟩:=yR.mp hq;refine decide_eq_true fun z=>hl ?_;rw[<- ybH z];exact ybe h
 unfold ksH at hn;rw[yN,yl,ybu,yao]at hn;obtain⟨_,⟨a,_⟩,H⟩:=hn;unfold hlD zjc at *;rw[yN,yc1,yl,yaK,yN];rw[if_neg (by simp)];congr 1
 ·exact k A fun z=>H p.1 z p.1 yan rfl
 ·exact k B a
theorem zqH{p:Int×List Int}:∃d,zd4 (hlD (A++p::B)) (.inl p.1)=aa d:=by
 rw[zfc];obtain⟨x,h,_⟩:=zcg (show p.1∈ksH (A++p::B) by unfold ksH;simp);exact⟨zco x,by rw[h];rfl⟩
def tkL:SV:=by walk_at "#tyt%U<lt:UJury3s:UD"
def tkT:SV:=by walk_at "#uCuZ)sQ=w.uSs:M*s-Wv`^t-u*t`%y2's:uE|$"
theorem zki:zkj=(zan (sIf (zoc (tV (eOp isD (eOp ixD (zad 0) (eC (.str "top"))) (eC .non))) (tV (eOp ltD (eOp ixD (zad 0) (eC (.str "top"))) (zad 2))))
 (zgz (zad 0) (eC (.str "top")) (zad 2))
 za0) tkT):=rfl
variable{late:Int}
section
variable{d:Nat}{top:Option Int}{bk:List (Int×List Int)}
theorem lstK_h(h:m[r]?=aa (.dct (hlD bk))):znC [.ob r] m = .ok (.lst ((ksH bk).map D.int)) m:=by
 unfold znC dOf;simp only[h];rw[zeU]
theorem zob(h1:m[d]?=aa (.dct (bkL (aa t) r)))(q:m[r]?=aa (.dct (hlD bk)))(j:d≠r)(hl:bk.length<64)(hn:(ksH bk).Nodup) : Run ((tkT [aa (.ob d),aa (.int late),aa (.int n),none,none,none] m).bind zeG) fun a m'=>a = .non/\m'[d]?=aa (.dct (bkL (aa t) r))/\m'[r]?=aa (.dct (hlD (ksP bk (t-late))))/\Fr d r m m':=by
 unfold tkT;erw [zbf h1 (zhr _ _)];simp only[zcb];erw [maxK (k:=r) (i1:=6) (fi:=eOp ixD (zad 0) (eC (.str "kept"))) (fd:=eC .non) (fn:=zad 3) (ρ := [aa (.ob d),aa (.int late),aa (.int n),aa (.int (t-late)),none,none]) (hl:=bk) (n:=t-late) (d := .non) rfl (zbf h1 (zdM _ _)) q (by omega) (fun _ _=>rfl) rfl,orD_n];ac_nf;rw[zbf h1 (zdM _ _)];erw [lstK_h q];ac_nf;generalize H:(fun p:Int×List Int=>decide (t-late<=p.1)||decide (mxB (t-late) (ksH bk)=aa p.1))=b;refine Run.bind (zaT (fun i ρ m'=>∃x5,ρ = [aa (.ob d),aa (.int late),aa (.int n),aa (.int (t-late)),aa (zcb (mxB (t-late) (ksH bk))),x5]/\m'[d]?=aa (.dct (bkL (aa t) r))/\m'[r]?=aa (.dct (hlD ((bk.take i).filter b++bk.drop i)))/\Fr d r m m') _ 0 ⟨_,rfl,h1,by simpa using q,Fr.refl⟩ ?_) ?_
 ·rintro i x ρ m' s ⟨x5,rfl,g1,g,g3⟩;rw[yq]at g ⊢;obtain⟨z,h,rfl⟩:∃z,(ksH bk)[i]?=aa z/\x = .int z:=by
   rw[yz]at s;obtain⟨z,h,e⟩:=yak.mp s;exact⟨z,h,e.symm⟩
  unfold ksH at h;rw[yz]at h;obtain⟨p,hp,rfl⟩:=yak.mp h;have hi:=(ye.mp hp).1;have ep:=(ye.mp hp).2;have hd:bk.drop i=p::bk.drop (i+1):=by rw[ybv hi,ep]
  have u:bk.take (i+1)=bk.take i++[p]:=by rw[yc2,hp];rfl
  unfold tkL;ac_nf;have stay:b p=ac->m'[r]?=aa (.dct (hlD ((bk.take (i+1)).filter b++bk.drop (i+1)))):=fun z=>by
   rw[g,u,yc1,yd3 z,hd];simp
  by_cases c1:p.1<t-late
  ·rw[if_pos c1];by_cases c:mxB (t-late) (ksH bk)=aa p.1
   ·rw[c];simp only[zcb];rw[ne_i,decide_eq_true rfl];ac_nf;refine Run.ok ⟨_,rfl,_,rfl,g1,stay ?_,g3⟩;rw[<- H];simp[c]
   ·rw[show neD (.int p.1) (zcb (mxB (t-late) (ksH bk))) m' = .ok (.bl ac) m' by
     cases e:mxB (t-late) (ksH bk) with
     |none=>rfl|some f=>
      show neD (.int p.1) (.int f) m'=_;rw[ne_i,decide_eq_false fun z=>c (by rw[e,z])];rfl]
    ac_nf;have o:b p=ag:=by
     rw[<- H];simp only[ycT,decide_eq_false_iff_not];exact⟨by omega,c⟩
    unfold zrN;rw[show eOp ixD (zad 0) (eC (.str "kept")) [aa (.ob d),aa (.int late),aa (.int n),aa (.int (t-late)),aa (zcb (mxB (t-late) (ksH bk))),aa (.int p.1)] m' = .ok (.ob r) m' from zbf g1 (zdM _ _),bind_ok,if_pos (by unfold zul;simp only[g])];rw[show zad 5 [aa (.ob d),aa (.int late),aa (.int n),aa (.int (t-late)),aa (zcb (mxB (t-late) (ksH bk))),aa (.int p.1)] m' = .ok (.int p.1) m' from rfl,bind_ok];rw[hd]at g;obtain⟨dd,l⟩:=zqH (A:=(bk.take i).filter b) (B:=bk.drop (i+1)) (p:=p);rw[show zrQ (.ob r) (.int p.1) m' = .ok dd (m'.set r (.dct (hlD ((bk.take i).filter b++bk.drop (i+1))))) by
     unfold zrQ;simp only[g,zhH,l];rw[zrO];refine List.Nodup.sublist ?_ hn;unfold ksH;refine List.Sublist.map _ ?_;rw[<- hd]
     conv=>rhs;rw[<- yb9 i bk]
     exact List.Sublist.append ybF (List.Sublist.refl _)]
    ac_nf;refine Run.ok ⟨_,rfl,_,rfl,by rw[zaM (Ne.symm j)];exact g1,?_,g3.trans Fr.set'⟩;rw[zbw g,u,yc1,yd4 (by rw[o];exact yu)];simp
  ·rw[if_neg c1];ac_nf;refine Run.ok ⟨_,rfl,_,rfl,g1,stay ?_,g3⟩;rw[<- H];simp only[ybq,decide_eq_true_eq];exact .inl (by omega)
 ·rintro _ m' ⟨ρ,rfl,x5,rfl,g1,g,g3⟩;ac_nf;refine Run.ok ⟨rfl,g1,?_,g3⟩;rw[yg,show (ksH bk).length=bk.length by unfold ksH;rw[yg],yq,ybs,yd0,y6]at g;rw[g,<- H];rfl
theorem ziq(h1:m[d]?=aa (.dct (bkL top r)))(b:m[r]?=aa (.dct (hlD bk)))(h:d≠r)(hl:bk.length<64)(hn:(ksH bk).Nodup) : Run (zcD [.ob d,.int late,.int n] m) fun a m'=>a = .non/\m'[d]?=aa (.dct (bkL (aa (zbQ top n)) r))/\m'[r]?=aa (.dct (hlD (ksP bk (zbQ top n-late))))/\Fr d r m m':=by
 unfold zcD;rw[zki];erw [zbf h1 (zhr _ _)];have put:∀t,Run ((tkT [aa (.ob d),aa (.int late),aa (.int n),none,none,none] (m.set d (.dct (bkL (aa t) r)))).bind zeG) fun a m'=>a = .non/\m'[d]?=aa (.dct (bkL (aa t) r))/\m'[r]?=aa (.dct (hlD (ksP bk (t-late))))/\Fr d r m m':=fun t=>
  Run.mono (zob (late:=late) (n:=n) (zbw h1) (by rw[zaM h];exact b) h hl hn) fun a m' ⟨f,c,E,e⟩=>⟨f,c,E,Fr.set.trans e⟩
 cases top with
 |none=>
  simp only[zcb];erw [zli h1 (by show 2<sizeLine;decide),zsx];have:=put n;ac_nf;exact this
 |some t=>
  simp only[zcb];erw [zbf h1 (zhr _ _)];simp only[zcb];ac_nf;by_cases H:t<n
  ·rw[if_pos H];erw [zli h1 (by show 2<sizeLine;decide),zsx];have:=put n;rw[show zbQ (aa t) n=n from if_pos H];ac_nf;exact this
  ·rw[if_neg H];have:=zob (late:=late) (n:=n) h1 b h hl hn;rw[show zbQ (aa t) n=t from if_neg H];ac_nf;exact this
end
variable{a:List (Int×List Int)}
theorem zb3{b:List (Int×List Int)}(h:a.Perm b):(ksH a).Perm (ksH b):=h.map _
theorem zeM(h:(ksH a).Nodup):a.Nodup:=by
 induction a with
 |nil=>exact List.nodup_nil|cons p r i=>
  obtain⟨h1,H⟩:=yao.mp (show (p.1::ksH r).Nodup from h);exact yao.mpr ⟨fun z=>h1 (ybe z),i H⟩
theorem zhO(h:(ksH a).Nodup){p:Int×List Int}(hp:p∈a):vlH a p.1=aa p.2:=by
 induction a with
 |nil=>cases hp|cons q r i=>
  obtain⟨h1,H⟩:=yao.mp (show (q.1::ksH r).Nodup from h);unfold vlH;rcases yn.mp hp with rfl|hp
  ·rw[if_pos rfl]
  ·rw[if_neg fun z=>h1 (by rw[z];exact ybe hp)];exact i H hp
theorem zi2{a b:List Int}(h:a.Perm b):mxB n a=mxB n b:=zt3 fun x _=>h.mem_iff
theorem zg2{hl:List (Int×List Int)}{e:Int}(hn:(ksH hl).Nodup){p:Int×List Int}:p∈zdE hl e↔p∈hl/\(e<=p.1∨mxB e (ksH hl)=aa p.1):=by
 have b:=zeT (e:=e) hn;constructor
 ·intro h;have h1:p.1∈kpF e (ksH hl):=by rw[<- b];exact ybe h
  obtain⟨a,H⟩:=mem_kpF.mp h1;refine⟨?_,H⟩;unfold zdE at h;obtain⟨k,_,rfl⟩:=yR.mp h;obtain⟨x,c,E⟩:=zcg a;simp only[c,yag];exact E
 ·rintro⟨h1,a⟩;have H:p.1∈kpF e (ksH hl):=mem_kpF.mpr ⟨ybe h1,a⟩;rw[<- zj6 hn]at H;unfold zdE lstV;refine yR.mpr ⟨p.1,H,?_⟩;rw[zhO hn h1];rfl
theorem zey{hl:List (Int×List Int)}{e:Int}(hn:(ksH hl).Nodup):(ksH (zdE hl e)).Nodup:=by rw[zeT hn];exact zj5 hn
theorem zj8{b:List (Int×List Int)}{e:Int}(h:a.Perm b)(hn:(ksH a).Nodup):(zdE a e).Perm (ksP b e):=by
 have H:(ksH b).Nodup:=(zb3 h).nodup_iff.mp hn;refine(yd9 (zeM (zey hn)) ?_).mpr fun p=>?_
 ·exact(zeM H).sublist ybF
 ·rw[zg2 hn,ksP,yaO,h.mem_iff,zi2 (zb3 h)];simp
theorem zmy{e:Int}(hn:(ksH a).Nodup):(zdE a e).length<=a.length:=by
 have h1:(ksH (zdE a e)).length<=(ksH a).length:=by rw[zeT hn];exact zuf _ _
 unfold ksH at h1
 rwa [yg,yg]at h1
theorem zjA{b:List (Int×List Int)}(h:a.Perm b)(hn:(ksH a).Nodup):zfH (hlD a) (hlD b)=ac:=by
 have H:(ksH b).Nodup:=(zb3 h).nodup_iff.mp hn;unfold zfH;rw[yy];refine⟨by unfold hlD;rw[yg,yg,h.length_eq];simp,yaA.mpr fun p hp=>?_⟩;unfold hlD at hp;obtain⟨q,hq,rfl⟩:=yR.mp hp;simp only[zfc,zhO H (h.mem_iff.mp hq),yaC];have hd:zfa (zco q.2)=ac:=zrR _;rw[hd];show (ac&&ac&&PyData.eqv (py (.tup (q.2.map D.int))) (py (.tup (q.2.map D.int))))=ac;simp[py,PyData.eqv,zdQ,zjb]
theorem zoV{b:List (Int×List Int)}{p:Int×List Int}(h:a.Perm b):(a++[p]).Perm (b++[p]):=h.append (yc3 _)
theorem zhR(hn:(ksH a).Nodup)(h:n∉ksH a):(ksH (a++[(n,x)])).Nodup:=by
 unfold ksH at *;rw[yN,ybu];refine⟨hn,by simp,fun y H c b e=>h ?_⟩;have:c=n:=by simpa using b
 rw[<- this,<- e];exact H
theorem zrU{k:Nat}{hl:List (Int×List Int)}{fn:EV}(hi:i1=ρ.length)(h:fi ρ m = .ok (.ob k) m)(c:m[k]?=aa (.dct (hlD hl)))(H:hl.length<=1000000)(hn:∀x m',fn (ρ ++ [aa x]) m' = .ok (.int n) m') : zcF 1 fi (gN i1) (tV (eOp ltD (zad i1) fn)) (zad i1) ρ m = .ok (.lst (((ksH hl).filter fun k=>decide (k<n)).map D.int)) m:=by
 subst hi;rw[zig (ltI n) h c (by rw[hlD,yg];exact H) (by
  intro x a;rw[zeU]at a;obtain⟨i,hi,rfl⟩:=yR.mp a;have d:∀m',gN ρ.length (.int i) (ρ ++ yd 1 none) m' = .ok (ρ ++ [aa (.int i)]) m':=fun m'=>by
   show Res.ok ((ρ ++ [none]).set ρ.length (aa (.int i))) m'=_;rw[ycd _ _ (yc _),yaM];rfl
  have b:∀m',zad ρ.length (ρ ++ [aa (.int i)]) m' = .ok (.int i) m':=fun m'=>by
   unfold zad;rw[yT (yc _),yaM];rfl
  refine⟨_,d _,?_,b _⟩;unfold tV eOp;rw[b,bind_ok,hn,bind_ok];rfl),zeU,zkv (fun k=>decide (k<n)) (ltI n) (fun _=>rfl)]
theorem ofs1:yH "1" = ⟨[49].toArray⟩:=by decide +kernel
theorem ofs0:yH "0" = ⟨[48].toArray⟩:=by decide +kernel
theorem PtOk.w{pt:Pt}(h:PtOk pt):PtW pt:=⟨h.n0,h.n1,h.f0,h.f1,h.sh.ok,h.w0,h.w1,h.fm,h.fml⟩
def pc0(pt:Pt)(hd:List Int):List Nat:=pcK pt.fs (fmW pt).wys hd pt.fs.length
theorem hd33{pt:Pt}{hl:List (Int×List Int)}(h:PtW pt)(H:HdOk pt.fs hd):zbC pt hl none n (pc0 pt hd)=hd:=by
 show (yw (pt.fs.map fun f=>f.b).length).map (zgZ (pc0 pt hd) (pt.fs.map fun f=>f.b))=hd;apply yd7;intro i;rw[yg];by_cases hi:i<pt.fs.length
 ·have a:=yh hi;have b:(fmW pt).wys[i]?=aa .whole:=by simp[fmW,hi]
  have e:=yh (show i<hd.length by rw[H.len];exact hi);have E:=zpn (fmW_6 h).wy H a b e;rw[wsW]at E;have e5:=H.at' i _ _ a e;rw[e,yz,ycb hi];show aa _=_;congr 1;exact E.trans (yaN e5.1 e5.2)
 ·rw[ycZ (by simpa using hi),ycZ (by rw[H.len];omega)]
section
variable{d:Nat}{top:Option Int}{bk:List (Int×List Int)}
def Db3(m:Sto)(d r:Nat)(v:D×Option Int×List (Int×List Int))(x:D)(m':Sto):Prop:=x=v.1/\m'[d]?=aa (.dct (bkL v.2.1 r))/\m'[r]?=aa (.dct (hlD v.2.2))/\Fr d r m m'
theorem ix_e3(pt:Pt):ixD pt.e (.int 3) m = .ok pt.rd.e m:=zka (n:=3) rfl
end
theorem zut{fs:List Fd}{more:Int}(hs:zkX fs)(c:fs[i]?=aa f)(o:fo[i]?=aa v)(v0:0<=v)(V:v<2^f.b)(ha:i<=ah.length)(h1 : -100000<=more)(t:more<=100000) : Run (zaV [shD fs n,.int i,.tup (fo.map D.int),.tup (ah.map D.int),.int more] m) fun a m'=>a = .int (exV f.b f.kd v more fo ah)/\m'=m:=by
 obtain⟨r,l,d⟩:=hs i f c;unfold zaV zcM shD;erw [zf8 c];erw [zbG o];ac_nf;have hp:=p2 f.b;have q:=p2lt l;have h:=zcz (m:=m) (n:=f.b) (by omega);have F:∀(y:Int)(ρ : En),ρ = [aa (.tup [.tup (fs.map Fd.e),.int n]),aa (.int i),aa (.tup (fo.map D.int)),aa (.tup (ah.map D.int)),aa (.int more),aa f.kd.e,aa (.int y)]->y%2^f.b=exV f.b f.kd v more fo ah->Run (Res.bind ((zaE (eOp zdk (zad 6) (eOp zgf (eC (.int 1)) (eOp ixD (eOp ixD (eOp ixD (zad 0) (eC (.int 0))) (zad 1)) (eC (.int 1)))))) ρ m) zeG) fun a m'=>a = .int (exV f.b f.kd v more fo ah)/\m'=m:=by
  rintro y _ rfl p;erw [zf8 c];erw [h];erw [zbm hp];ac_nf;exact Run.ok ⟨by rw[p],rfl⟩
 cases H:f.kd with
 |step w=>
  rw[H]at d F;simp only[Kd.e]at F ⊢;erw [zhG ⟨by omega,by omega⟩];simp only[bind_ok,bind_then,then_at,kop_at,var_0,var_S,add_i,kasg_at,gN_at,y9,y8,nx_at,seq_nx];exact F _ _ rfl (by rw[yas];rfl)
 |turn row=>
  rw[H]at F d;simp only[Kd.e]at F ⊢;erw [zlI];ac_nf;by_cases hr:v∈row
  ·rw[if_pos hr];erw [zio hr];ac_nf;simp only[yg];have hl:0<row.length:=yca hr;rw[zbm (by omega)];ac_nf;have a0:=yQ (row.idxOf v+more) (b:=row.length) (by omega);have a1:=yV (row.idxOf v+more) (b:=row.length) (by omega);have E:exV f.b (.turn row) v more fo ah=row.getD (((row.idxOf v:Int)+more)%row.length).toNat 0:=if_pos hr;rw[E]at F ⊢;generalize s:((row.idxOf v:Int)+more)%row.length=x at a0 a1 F ⊢;obtain⟨j,rfl⟩:∃j:Nat,x=j:=⟨x.toNat,by omega⟩;have k:j<row.length:=by omega
   rw[zbG (yh k)];simp only[bind_ok,bind_then,then_at,kasg_at,gN_at,y9,y8,nx_at,seq_nx];refine F _ _ rfl ?_;rw[yax,yaf,yh k,yag];have:=d.2.2 _ (yaB k);exact yaN this.1 this.2
  ·rw[if_neg hr];simp only[bind_ok,bind_then,then_at,kif_at,ybA,reduceIte];have:=F v _ rfl ((yaN v0 V).trans (if_neg hr).symm);erw [zf8 c];erw [h];erw [zbm hp];ac_nf;exact Run.ok ⟨by rw[yaN v0 V];exact congrArg D.int (if_neg hr).symm,rfl⟩
 |wth j w=>
  rw[H]at d F;simp only[Kd.Ok]at d;simp only[Kd.e]at F ⊢;ac_nf;have g:j<ah.length:=by omega
  have e:j<fo.length:=by have:=(ye.mp o).1;omega
  rw[zbG (yh g)];erw [zbG (yh e)];erw [zf7 (by omega)];simp only[bind_ok,bind_then,then_at,kop_at,var_0,var_S,add_i,kasg_at,gN_at,y9,y8,nx_at,seq_nx];refine F _ _ rfl ?_;simp only[exV,yaf,yh g,yh e,yag]
 |still=>
  simp only[Kd.e];erw [zf8 c];erw [h];erw [zbm hp];ac_nf;exact Run.ok ⟨by rw[yaN v0 V];rfl,rfl⟩
 |drawn=>
  simp only[Kd.e];erw [zf8 c];erw [h];erw [zbm hp];ac_nf;exact Run.ok ⟨by rw[yaN v0 V];rfl,rfl⟩
theorem zjl{w:Wy}:zbI [w.e,.int b] m = .ok (.int (w.w b:Nat)) m:=by
 apply zav;unfold zbI zfV;cases w with
 |keep=>
  simp only[Wy.e];erw [int_bf];erw [zhG (by decide)];ac_nf;exact Run.ok ⟨by rw[Int.mul_zero];rfl,rfl⟩
 |whole=>
  simp only[Wy.e];erw [show znG [.bl ac] m = .ok (.int 1) m from rfl];erw [zhG (by decide)];ac_nf;exact Run.ok ⟨by rw[Int.mul_one];rfl,rfl⟩
 |low w bl=>
  simp only[Wy.e];ac_nf;exact Run.ok ⟨rfl,rfl⟩
theorem zjI{fs:List Fd}(hs:zkX fs)(hn:fs.length<=12)(h:WyOk fs wys)(b:HdOk fs hd):zaX [shD fs n,.tup (wys.map Wy.e),.tup (hd.map D.int)] m = .ok (.str ⟨(pcK fs wys hd fs.length).toArray⟩) m:=by
 have hl:=b.len;apply zav;unfold zaX zdI shD;ac_nf;refine Run.bind (zaT (fun k ρ m'=>∃x4 x5 x6:Option D,ρ = [aa (.tup [.tup (fs.map Fd.e),.int n]),aa (.tup (wys.map Wy.e)),aa (.tup (hd.map D.int)),aa (.str ⟨(pcK fs wys hd k).toArray⟩),x4,x5,x6]/\m'=m) (zcd 0 (fs.map Fd.e)) 0 ⟨_,_,_,rfl,rfl⟩ ?_) ?_
 ·rintro i d ρ m1 a ⟨x4,x5,x6,rfl,rfl⟩;obtain⟨f,E,rfl⟩:=zeD a;have hi:=(ye.mp E).1;obtain⟨b0,b1,_⟩:=hs i f E;have c:=yh (show i<hd.length by omega);have e:=yh (show i<wys.length by rw[h.len];exact hi);generalize wys[i]'(by rw[h.len];exact hi)=wy at e;have g:=Wy.w_le (h.at' i f wy E e);have H:=zcK h b i (by omega);have j:=zdn hs h i (by omega);rw[yq];erw [show isD (.tup (wys.map Wy.e)) .non m1 = .ok (.bl ag) m1 from rfl];erw [zka (d:=wy.e) (by rw[yz,e];rfl)];ac_nf;simp only[Fd.e];erw [zjl];erw [zbG c];erw [zcz (by omega)];erw [zbm (p2 _)];erw [zav (zca (by omega))];ac_nf;rw[add_str (by rw[zaD,H];omega)];ac_nf;have l:pcK fs wys hd i++dgs (hd[i]%2^wy.w f.b) (wy.w f.b)=pcK fs wys hd (i+1):=by
   rw[pcK,E,c,e]
  rw[l];exact Run.ok ⟨_,rfl,_,_,_,rfl,rfl⟩
 ·rintro _ m1 ⟨ρ,rfl,x4,x5,x6,rfl,rfl⟩;rw[yq,zdd];ac_nf;exact Run.ok ⟨rfl,rfl⟩
theorem zo0{fs:List Fd}{more:Int}(hs:zkX fs)(hn:fs.length<=12)(q:WyOk fs wys)(u:HdOk fs fo)(G:Bin z.cps.toList)(hl:z.length<=sizeLine)(hsz:z.cps.size=(zcG fs wys).sum)(h1 : -100000<=more)(B:more<=100000) : zbJ [shD fs n,.tup (wys.map Wy.e),.str z,.tup (fo.map D.int),.int more] m = .ok (.tup ((hdV fs wys fo more z.cps.toList fs.length).map D.int)) m:=by
 apply zav;unfold zbJ zfW;ac_nf;have A:∀m,ixD (shD fs n) (.int 0) m = .ok (.tup (fs.map Fd.e)) m:=fun m=>ix_t0 _ _;rw[A];ac_nf;refine Run.bind (zaT (fun k ρ m'=>∃(Z:ae)(x6 x7 x x9 x10 x11:Option D),Z.cps.toList=z.cps.toList.drop (zeF (zcG fs wys) k)/\ρ = [aa (shD fs n),aa (.tup (wys.map Wy.e)),aa (.str Z),aa (.tup (fo.map D.int)),aa (.int more),aa (.tup ((hdV fs wys fo more z.cps.toList k).map D.int)),x6,x7,x,x9,x10,x11]/\m'=m) _ 0 ⟨z,_,_,_,_,_,_,by simp[zeF],rfl,rfl⟩ ?_) ?_
 ·rintro i d ρ m' hd ⟨Z,x6,x7,x,x9,x10,x11,h,rfl,rfl⟩;obtain⟨f,E,rfl⟩:=zeD hd;have hi:i<fs.length:=(ye.mp E).1;rw[yq]at h ⊢;have e:=yh (show i<wys.length by rw[q.len];exact hi);have l:=yh (show i<fo.length by rw[u.len];exact hi);generalize wys[i]'(by rw[q.len];exact hi)=wy at e;generalize fo[i]'(by rw[u.len];exact hi)=v at l;obtain⟨v0,V⟩:=u.at' i _ _ E l;have o:=q.at' i _ _ E e;obtain⟨L,K,O⟩:=hs i f E;have b:=zgk E e;have c:=zdm b;have J:=zkZ (zcG fs wys) (i+1);have C:Z.cps.size=z.cps.size-zeF (zcG fs wys) i:=by
   have:=congrArg yaG h;simpa using this
  have H:Z.length<=sizeLine:=by
   have h1:Z.length=Z.cps.size:=rfl;have B:z.length=z.cps.size:=rfl;omega
  have a:wy.w f.b<=Z.cps.size:=by omega
  have p:wy.w f.b<=1000000:=by have:=Wy.w_le o;omega
  have g:zgZ z.cps.toList (zcG fs wys) i=zc0 (Z.cps.toList.take (wy.w f.b)):=by rw[zgZ,yaf,b,h];rfl
  have y:Bin Z.cps.toList:=by rw[h];exact G.drop _
  have j:=Mth.slice_lo Z (wy.w f.b) a;have s:=Mth.slice_hi Z (wy.w f.b) a;have r:=zfr fs wys fo more z.cps.toList i;have F:∀(t:Int)(x11:Option D),t=zkY wy f.b (exV f.b f.kd v more fo (hdV fs wys fo more z.cps.toList i)) (zgZ z.cps.toList (zcG fs wys) i)->Run (zaA (eOp zbb (zad 5) (eFn zbg (zac (zad 8) zaj))) (gN 5) [aa (shD fs n),aa (.tup (wys.map Wy.e)),aa (.str (Txt.slice Z (aa ((wy.w f.b:Nat):Int)) none)),aa (.tup (fo.map D.int)),aa (.int more),aa (.tup ((hdV fs wys fo more z.cps.toList i).map D.int)),aa (.int (i:Nat)),aa f.e,aa (.int t),aa (.int (wy.w f.b:Nat)),aa (.int (zgZ z.cps.toList (zcG fs wys) i)),x11] m') fun M m2=>∃ρ2,M=Fl.nx ρ2/\∃(Z:ae)(x6 x7 x x9 x10 x11:Option D),Z.cps.toList=z.cps.toList.drop (zeF (zcG fs wys) (i+1))/\ρ2=[aa (shD fs n),aa (.tup (wys.map Wy.e)),aa (.str Z),aa (.tup (fo.map D.int)),aa (.int more),aa (.tup ((hdV fs wys fo more z.cps.toList (i+1)).map D.int)),x6,x7,x,x9,x10,x11]/\m2=m':=by
   intro t x11 I;erw [zuE (by rw[yg,r];exact yah (zbr (by simp;omega)))];ac_nf;have N:(hdV fs wys fo more z.cps.toList (i+1)).map D.int=(hdV fs wys fo more z.cps.toList i).map D.int++[.int t]:=by
    rw[hdV,E,e,l,I];simp
   rw[<- N];exact Run.ok ⟨_,rfl,Txt.slice Z (aa ((wy.w f.b:Nat):Int)) none,_,_,_,_,_,_,by rw[s,h,yc0,c],rfl,rfl⟩
  erw [zav (zut hs E l v0 V (by omega) h1 B)];erw [zka (d:=wy.e) (by rw[yz,e];rfl)];erw [show ixD f.e (.int 1) m' = .ok (.int f.b) m' from ix_t1 _ _ _];erw [zjl];erw [zdp H];erw [zav (zeS (by rw[j];exact y.take _)),j,<- g];erw [zdp H];erw [zka (d:=wy.e) (by rw[yz,e];rfl)];cases wy with
  |whole=>
   simp only[Wy.e];erw [zka (d:=Wy.whole.e) (by rw[yz,e];rfl)];simp only[Wy.e];ac_nf;have:=F _ x11 rfl;ac_nf;simp only[zkY]at this ⊢;simpa only[asg_at,kasg_at,op_at,kop_at,fn_at,aCons_at,kcons_at,kcons2_at,aNil_at,tup_1,var_0,var_S,bind_ok,bind_then,then_at,gN_at,nx_at,y9,y8] using this
  |keep=>
   simp only[Wy.e];erw [zka (d:=Wy.keep.e) (by rw[yz,e];rfl)];simp only[Wy.e];ac_nf;have:=F _ x11 rfl;simp only[zkY]at this ⊢;simpa only[asg_at,kasg_at,op_at,kop_at,fn_at,aCons_at,kcons_at,kcons2_at,aNil_at,tup_1,var_0,var_S,bind_ok,bind_then,then_at,gN_at,nx_at,y9,y8] using this
  |low w bl=>
   simp only[Wy.e];erw [zka (d:=(Wy.low w bl).e) (by rw[yz,e];rfl)];simp only[Wy.e];erw [zcz p];erw [zbm (p2 _)];erw [show ixD f.e (.int 1) m' = .ok (.int f.b) m' from ix_t1 _ _ _];erw [zcz (by omega)];erw [zbm (p2 _)];ac_nf;have:=F _ (aa (.int (exV f.b f.kd v more fo (hdV fs wys fo more z.cps.toList i)-bl))) rfl;simp only[zkY,Wy.w]at this ⊢;simpa only[asg_at,kasg_at,op_at,kop_at,fn_at,aCons_at,kcons_at,kcons2_at,aNil_at,tup_1,var_0,var_S,bind_ok,bind_then,then_at,gN_at,nx_at,y9,y8] using this
 ·rintro _ m' ⟨ρ,rfl,Z,x6,x7,x,x9,x10,x11,_,rfl,rfl⟩;rw[yq,zdd];ac_nf;exact Run.ok ⟨rfl,rfl⟩
theorem zpB{pt:Pt}(h:PtOk pt)(ha:zfE pt at')(a:HdOk pt.fs hd):(ltL pt at' number hd).length=lsz pt at':=by
 have H:=zcK (zp8 h ha).wy a pt.fs.length (yc _);unfold ltL lsz;rw[yj,yj,yj,zaD,zaD,zaD,H];have:zeF (zcG pt.fs (zaL pt at').wys) pt.fs.length=(zcG pt.fs (zaL pt at').wys).sum:=by
  unfold zeF;rw[yae (by rw[zb2 (zp8 h ha).wy];exact yc _)]
 omega
section
variable{k l n:Nat}{pt:Pt}{fresh:Nat}{f:Fm}
end
section
variable{pt:Pt}
theorem zg9{pt:Pt}(hi:i<pt.fms.length):ixD (.tup (pt.fms.map Fm.e)) (.int i) m = .ok (zaL pt (aa i)).e m:=zka (by rw[yz,yh hi];show aa _=aa (pt.fms.getD i _).e;rw[yaf,yh hi];rfl)
theorem zrA(h:PtOk pt)(hi:i<pt.fms.length)(b:HdOk pt.fs hd):zbv [pt.e,.int i,.int number,zco hd] m = .ok (.str ⟨(ltL pt (aa i) number hd).toArray⟩) m:=by
 have a:=zdL h.w (at':=aa i) hi;have w1:=zgl (n:=1+pt.fms.length) (by have:=h.fml;omega);have w:=zgl (n:=pt.n.toNat) (by have:=h.n1;omega);have j:=a.b1;have H:=zcK a.wy b pt.fs.length (yc _);have c:=zdn h.sh.ok a.wy pt.fs.length (yc _);have g:=h.f1;have f:=h.fml;have d:=h.n1;have e:=h.n0;have U:wdN (1+pt.fms.length)<=40:=yaI fun z=>by
  have:=wdN_lt.mpr z;omega
 have u:wdN pt.n.toNat<=40:=yaI fun z=>by
  have:=wdN_lt.mpr z;omega
 apply zav;unfold zbv zeC Pt.e;erw [zg9 hi,show (zaL pt (aa i)).e = .tup [.int (zaL pt (aa i)).a,.int (zaL pt (aa i)).b,.tup ((zaL pt (aa i)).wys.map Wy.e)] from rfl];erw [zg9 hi,show (zaL pt (aa i)).e = .tup [.int (zaL pt (aa i)).a,.int (zaL pt (aa i)).b,.tup ((zaL pt (aa i)).wys.map Wy.e)] from rfl];erw [show (1:Int)+(((pt.fms.map Fm.e).length:Nat):Int)=((1+pt.fms.length:Nat):Int) by rw[yg];omega,zdS (by omega)];erw [zav (zca U)];erw [zcz (by omega)];erw [zbm (p2 _)];erw [zav (zca j)];erw [add_str (by rw[zaD,zaD];omega)];erw [show zaX [shD pt.fs pt.n,.tup ((zaL pt (aa i)).wys.map Wy.e),zco hd] m = .ok (.str ⟨(pcK pt.fs (zaL pt (aa i)).wys hd pt.fs.length).toArray⟩) m from zjI h.sh.ok h.f1 a.wy b];erw [add_str (by rw[yj,zaD,zaD,H];omega)];erw [zcR h b];erw [show ixD (shD pt.fs pt.n) (.int 1) m = .ok (.int pt.n) m from ix_t1 _ _ _];ac_nf;rw[show zbN [.int pt.n] m = .ok (.int (wdN pt.n.toNat)) m by
  have:=zdS (n:=pt.n.toNat) (m:=m) (by omega);rw[show ((pt.n.toNat:Nat):Int)=pt.n by omega]at this;exact this]
 erw [zav (zca u)];erw [add_str (by rw[yj,yj,zaD,zaD,zaD,H];omega)];exact Run.ok ⟨rfl,rfl⟩
theorem zpI(h:PtOk pt)(ha:zfE pt at')(H:HdOk pt.fs hd):zbv [pt.e,onD at',.int number,zco hd] m = .ok (.str ⟨(ltL pt at' number hd).toArray⟩) m:=by
 cases at' with
 |none=>exact zlF h H|some i=>exact zrA h ha H
end
theorem znI(l:Option Int)(n b:Nat)(h:n<=b):yU l (aa (b:Int)) 1 n=yU l (aa (n:Int)) 1 n:=by
 have e:max 0 (min (if (b:Int)<0 then (b:Int)+n else b) (n:Int))=max 0 (min (if (n:Int)<0 then (n:Int)+n else n) (n:Int)):=by
  rw[if_neg (by omega),if_neg (by omega)];omega
 unfold yU;simp;rw[e]
theorem znH(u:Option Int)(n b:Nat)(h:n<=b):yU (aa (b:Int)) u 1 n=yU (aa (n:Int)) u 1 n:=by
 have e:max 0 (min (if (b:Int)<0 then (b:Int)+n else b) (n:Int))=max 0 (min (if (n:Int)<0 then (n:Int)+n else n) (n:Int)):=by
  rw[if_neg (by omega),if_neg (by omega)];omega
 unfold yU;simp;rw[e]
theorem sl_tL(h:l.length<=1000000):slD (.str ⟨l.toArray⟩) none (aa (b:Int)) m = .ok (.str ⟨(l.take b).toArray⟩) m:=by
 by_cases H:b<=l.length
 ·exact zok h H
 ·have e:Txt.slice ⟨l.toArray⟩ none (aa (b:Int))=Txt.slice ⟨l.toArray⟩ none (aa (l.length:Int)):=by
   unfold Txt.slice;rw[show (⟨l.toArray⟩:ae).length=l.length from yp ..,znI none l.length b (by omega)]
  have E:=zok (m:=m) h (yc l.length);rw[zdp (show (⟨l.toArray⟩:ae).cps.size<=sizeLine by rw[zc1];exact yx h (by decide))]at E ⊢;rw[e,E,yae (yc _),yae (by omega)]
theorem sl_tH{a:Nat}(h:l.length<=1000000):slD (.str ⟨l.toArray⟩) (aa (a:Int)) none m = .ok (.str ⟨(l.drop a).toArray⟩) m:=by
 by_cases ha:a<=l.length
 ·exact zol h ha
 ·have e:Txt.slice ⟨l.toArray⟩ (aa (a:Int)) none=Txt.slice ⟨l.toArray⟩ (aa (l.length:Int)) none:=by
   unfold Txt.slice;rw[show (⟨l.toArray⟩:ae).length=l.length from yp ..,znH none l.length a (by omega)]
  have E:=zol (m:=m) h (yc l.length);rw[zdp (show (⟨l.toArray⟩:ae).cps.size<=sizeLine by rw[zc1];exact yx h (by decide))]at E ⊢;rw[e,E,ya9 (yc _),ya9 (by omega)]
instance(l:List Nat):Decidable (Bin l):=by unfold Bin;infer_instance
theorem znV(h : ¬ Bin l):zb4 [.str ⟨l.toArray⟩] m = .ok (.bl ag) m:=by
 apply zav;unfold zb4 ze4;erw [show zhI "str" (.str ⟨l.toArray⟩) m = .ok (.bl ac) m from rfl];ac_nf;refine Run.bind (zmv (fun k ρ m'=>(∃x,ρ = [aa (.str ⟨l.toArray⟩),x])/\m'=m/\Bin (l.take k)) (fun v m'=>v = .bl ag/\m'=m) (zdZ ⟨l.toArray⟩) 0 ⟨⟨_,rfl⟩,rfl,by simp[Bin]⟩ ?_) ?_
 ·rintro i d ρ m' hd ⟨⟨x,rfl⟩,rfl,a⟩;obtain⟨c,b,rfl⟩:=zge hd;have b:l[i]?=aa c:=by simpa using b
  have hi:=(ye.mp b).1;rw[yq]at a ⊢;ac_nf;by_cases h0:c=48
  ·subst h0;rw[if_neg (by decide)];ac_nf;refine Run.ok (.inl ⟨_,rfl,⟨_,rfl⟩,rfl,?_⟩);rw[yc2,b];intro x H;rcases yJ.mp H with H|H
   ·exact a x H
   ·simp at H;exact .inl H
  ·by_cases h1:c=49
   ·subst h1;rw[if_pos (by decide),show (!decide ((⟨#[49]⟩:ae)=yH "1"))=ag by decide];ac_nf;refine Run.ok (.inl ⟨_,rfl,⟨_,rfl⟩,rfl,?_⟩);rw[yc2,b];intro x H;rcases yJ.mp H with H|H
    ·exact a x H
    ·simp at H;exact .inr H
   ·have f:((⟨#[c]⟩:ae)=yH "0")=False:=by
     apply propext;refine⟨fun z=>h0 ?_,False.elim⟩;have Z:=congrArg (fun s=>s.cps.toList) z;have e:(yH "0").cps.toList=[48]:=by decide
     rw[e]at Z;simpa using Z
    have E:((⟨#[c]⟩:ae)=yH "1")=False:=by
     apply propext;refine⟨fun z=>h1 ?_,False.elim⟩;have Z:=congrArg (fun s=>s.cps.toList) z;have e:(yH "1").cps.toList=[49]:=by decide
     rw[e]at Z;simpa using Z
    simp only[f,E,decide_false,Bool.not_false,if_true];ac_nf;exact Run.ok (.inr ⟨_,rfl,rfl,rfl⟩)
 ·rintro F m' (⟨ρ,rfl,_,rfl,a⟩|⟨v,rfl,rfl,rfl⟩)
  ·refine absurd ?_ h;rw[yq,show (zdZ ⟨l.toArray⟩).length=l.length by simp[zdZ],yae (yc _)]at a;exact a
  ·ac_nf;exact Run.ok ⟨rfl,rfl⟩
theorem zlZ(h:zhI "str" d m = .ok (.bl ag) m):zb4 [d] m = .ok (.bl ag) m:=by
 apply zav;unfold zb4 ze4;erw [h];ac_nf;exact Run.ok ⟨rfl,rfl⟩
section
variable{fr:AV}{c:TV}{f g:SV}{x:ae}{h:List D->Sto->Res D}{e:Exc}
theorem puA(q:fa ρ m = .ok d m1):zan (sPu (zaA fa (gN i))) g ρ m=g (ρ.set i (aa d)) m1:=by
 show (Res.pu (Res.bind (fa ρ m) _)).bind _=_;rw[q];rfl
theorem puR(q:fa ρ m = .ok d m1):sPu (zaE fa) ρ m = .ok (.rt d) m1:=by
 show Res.pu (Res.bind (fa ρ m) _)=_;rw[q];rfl
theorem exT{a:D}(q:c ρ m = .ok ac m1):zan (sIf (tPu c) (znb x (aPu (zac (eC a) zaj))) za0) g ρ m = .exc ⟨x,[]⟩ m1:=by
 show (Res.bind (Res.pu (c ρ m)) _).bind _=_;rw[q];rfl
theorem exF(q:c ρ m = .ok ag m1):zan (sIf (tPu c) f za0) g ρ m=g ρ m1:=by
 show (Res.bind (Res.pu (c ρ m)) _).bind _=_;rw[q];rfl
theorem caA(q:fr ρ m = .ok ds m1)(r:h ds m1 = .ok d m2):zan (zaA (eFn h (aPu fr)) (gN i)) g ρ m=g (ρ.set i (aa d)) m2:=by
 show (Res.bind (Res.bind (Res.pu (fr ρ m)) h) _).bind _=_;rw[q];show (Res.bind (h ds m1) _).bind _=_;rw[r];rfl
theorem caX(q:fr ρ m = .ok ds m1)(r:h ds m1 = .exc e m2):zan (zaA (eFn h (aPu fr)) (gN i)) g ρ m = .exc e m2:=by
 show (Res.bind (Res.bind (Res.pu (fr ρ m)) h) _).bind _=_;rw[q];show (Res.bind (h ds m1) _).bind _=_;rw[r];rfl
end
def zd6(pt:Pt)(l:List Nat):Nat:=(zc0 (l.take (wdN (1+pt.fms.length)))).toNat
def atZ(s:Nat):Option Nat:=if s=0 then none else aa (s-1)
def ckZ(pt:Pt)(l:List Nat):Int:=zc0 (l.drop (l.length-wdN pt.n.toNat))
structure OkZ(pt:Pt)(l:List Nat):Prop where
 b:Bin l
 s:zd6 pt l<=pt.fms.length
 l':l.length=lsz pt (atZ (zd6 pt l))
 c:ckZ pt l<pt.n
def tuZ(pt:Pt)(l:List Nat):D := .tup [onD (atZ (zd6 pt l)),.int (zc0 ((l.drop (wdN (1+pt.fms.length))).take (zaL pt (atZ (zd6 pt l))).b)),.str ⟨((l.drop (wdN (1+pt.fms.length)+(zaL pt (atZ (zd6 pt l))).b)).take (l.length-wdN pt.n.toNat-(wdN (1+pt.fms.length)+(zaL pt (atZ (zd6 pt l))).b))).toArray⟩,.int (ckZ pt l)]
theorem ztX:0<=zc0 l:=by
 have:∀(l:List Nat)(a:Int),0<=a->0<=l.foldl (fun a c=>a*2+if c=49 then 1 else 0) a:=by
  intro l;induction l with
  |nil=>exact fun a h=>h|cons c r i=>
   intro a h;refine i _ ?_;show 0<=a*2+(if c=49 then 1 else 0);split <;> omega
 exact this l 0 (yb6 _)
theorem srtZ_i(pt:Pt)(l:List Nat):((zd6 pt l:Nat):Int)=zc0 (l.take (wdN (1+pt.fms.length))):=yd6 ztX
theorem Bin.take'(h:Bin l)(n:Nat):Bin (l.take n):=fun c H=>h c (ybZ H)
theorem Bin.drop'(h:Bin l)(n:Nat):Bin (l.drop n):=fun c H=>h c (ydX H)
variable{s:Nat}
theorem atZ_ok{pt:Pt}(h:s<=pt.fms.length):zfE pt (atZ s):=by
 unfold atZ;split
 ·exact trivial
 ·show s-1<pt.fms.length;omega
section
variable{pt:Pt}
theorem sortZ(h:PtW pt)(a:Bin l)(hl:l.length<=100000):zbW [pt.e,.str ⟨l.toArray⟩] m=if zd6 pt l<=pt.fms.length then .ok (onD (atZ (zd6 pt l))) m else .exc ⟨"NoLetter", []⟩ m:=by
 have E:zbW [pt.e,.str ⟨l.toArray⟩] m=(zc9 [aa pt.e,aa (.str ⟨l.toArray⟩),none] m).bind zeG:=rfl;have H:=srtZ_i pt l;rw[E];unfold zc9;rw[puA (d := .int (zd6 pt l)) (m1:=m) (by
  erw [zgp h];erw [sl_tL (by omega)];ac_nf;rw[zdR (a.take' _),H])]
 have e:(tV (eOp gtD (zad 2) (eFn zew (zac (eOp ixD (zad 0) (eC (.int 2))) zaj)))) ([aa pt.e,aa (.str ⟨l.toArray⟩),none].set 2 (aa (.int (zd6 pt l)))) m = .ok (decide ((pt.fms.length:Int)<(zd6 pt l:Nat))) m:=by
  erw [zea];erw [yg]
 by_cases hs:zd6 pt l<=pt.fms.length
 ·rw[if_pos hs,exF (m1:=m) (by rw[e,decide_eq_false (by omega)]),puR (d:=onD (atZ (zd6 pt l))) (m1:=m) (by
   ac_nf;by_cases h0:zd6 pt l=0
   ·rw[h0];ac_nf;rfl
   ·rw[if_neg (by omega)];ac_nf;unfold atZ;rw[if_neg h0];show _=Res.ok (D.int ((zd6 pt l-1:Nat):Int)) m;congr 2;omega)]
  rfl
 ·rw[if_neg hs,exT (m1:=m) (by rw[e,decide_eq_true (by omega)])];rfl
theorem tup_4'(a b c d:D):zbg [a,b,c,d] m = .ok (.tup [a,b,c,d]) m:=if_pos (zbs (by simp))
theorem partZ(h:PtW pt)(hl:l.length<=100000):(OkZ pt l->za7 [pt.e,.str ⟨l.toArray⟩] m = .ok (tuZ pt l) m)/\(¬ OkZ pt l->za7 [pt.e,.str ⟨l.toArray⟩] m = .exc ⟨"NoLetter", []⟩ m):=by
 have f:za7 [pt.e,.str ⟨l.toArray⟩] m=(zcU [aa pt.e,aa (.str ⟨l.toArray⟩),none,none,none,none,none] m).bind zeG:=rfl;rw[f];unfold zcU;by_cases H:Bin l
 ·rw[exF (m1:=m) (by
   erw [zkR H];ac_nf)]
  have es:=sortZ (m:=m) h H hl;by_cases hs:zd6 pt l<=pt.fms.length
  ·rw[if_pos hs]at es;have ha:=atZ_ok hs;have b:=zj2 h ha;have g:lsz pt (atZ (zd6 pt l))=wdN (1+pt.fms.length)+(zaL pt (atZ (zd6 pt l))).b+(zcG pt.fs (zaL pt (atZ (zd6 pt l))).wys).sum+wdN pt.n.toNat:=rfl;have c:∀m,ixD (zaL pt (atZ (zd6 pt l))).e (.int 1) m = .ok (.int (zaL pt (atZ (zd6 pt l))).b) m:=fun m=>ix_t1 _ _ _;rw[caA (ds:=[pt.e,.str ⟨l.toArray⟩]) (m1:=m) (by ac_nf) es];have e:(tV (eOp neD (eFn zew (zac (zad 1) zaj)) (eFn zbH (zac (zad 0) (zac (zad 2) zaj))))) ([aa pt.e,aa (.str ⟨l.toArray⟩),none,none,none,none,none].set 2 (aa (onD (atZ (zd6 pt l))))) m = .ok (!decide (l.length=lsz pt (atZ (zd6 pt l)))) m:=by
    erw [zmx (by omega)];erw [zfO h ha];ac_nf;congr 2;exact decide_eq_decide.mpr Int.ofNat_inj
   by_cases hn:l.length=lsz pt (atZ (zd6 pt l))
   ·rw[exF (m1:=m) (by rw[e,decide_eq_true hn];rfl)];rw[puA (d := .int (wdN (1+pt.fms.length))) (m1:=m) (by
     ac_nf;rw[zgp h])]
    rw[puA (d := .int ((wdN (1+pt.fms.length)+(zaL pt (atZ (zd6 pt l))).b:Nat):Int)) (m1:=m) (by
     erw [zdV h ha];erw [c];ac_nf;rfl)]
    rw[puA (d := .int ((l.length-wdN pt.n.toNat:Nat):Int)) (m1:=m) (by
     erw [zmx (by omega)];erw [zjh h];ac_nf;congr 2;omega)]
    rw[puA (d := .int (ckZ pt l)) (m1:=m) (by
     erw [sl_tH (by omega)];erw [zdR (H.drop' _)];rfl)]
    have E:(tV (eOp geD (zad 6) (eOp ixD (eOp ixD (zad 0) (eC (.int 0))) (eC (.int 1))))) (((((([aa pt.e,aa (.str ⟨l.toArray⟩),none,none,none,none,none].set 2 (aa (onD (atZ (zd6 pt l))))).set 3 (aa (.int (wdN (1+pt.fms.length))))).set 4 (aa (.int ((wdN (1+pt.fms.length)+(zaL pt (atZ (zd6 pt l))).b:Nat):Int)))).set 5 (aa (.int ((l.length-wdN pt.n.toNat:Nat):Int)))).set 6 (aa (.int (ckZ pt l)))))  m = .ok (decide (pt.n<=ckZ pt l)) m:=by
     erw [zfP];erw [show ixD (shD pt.fs pt.n) (.int 1) m = .ok (.int pt.n) m from ix_t1 _ _ _];ac_nf
    by_cases a:ckZ pt l<pt.n
    ·refine⟨fun _=>?_,fun z=>absurd ⟨H,hs,hn,a⟩ z⟩;rw[exF (m1:=m) (by rw[E,decide_eq_false (by omega)]),puR (d:=tuZ pt l) (m1:=m) (by
      erw [zmd (by omega) (by omega) (by omega),ycW];erw [zdR ((H.drop' _).take' _)];erw [zmd (by omega) (by omega) (by omega)];erw [tup_4'];rfl)]
     rfl
    ·refine⟨fun z=>absurd z.c a,fun _=>?_⟩;rw[exT (m1:=m) (by rw[E,decide_eq_true (by omega)])];rfl
   ·refine⟨fun z=>absurd z.l' hn,fun _=>?_⟩;rw[exT (m1:=m) (by rw[e,decide_eq_false hn];rfl)];rfl
  ·rw[if_neg hs]at es;refine⟨fun z=>absurd z.s hs,fun _=>?_⟩;rw[caX (ds:=[pt.e,.str ⟨l.toArray⟩]) (m1:=m) (by ac_nf) es];rfl
 ·refine⟨fun z=>absurd z.b H,fun _=>?_⟩;rw[exT (m1:=m) (by
   erw [znV H];ac_nf)]
  rfl
theorem ztH(hd:zhI "str" d m = .ok (.bl ag) m):za7 [pt.e,d] m = .exc ⟨"NoLetter", []⟩ m:=by
 have e:za7 [pt.e,d] m=(zcU [aa pt.e,aa d,none,none,none,none,none] m).bind zeG:=rfl;rw[e];unfold zcU;rw[exT (m1:=m) (by
  erw [zlZ hd];ac_nf)]
 rfl
end
section
variable{pt:Pt}
end
def OkLe(a b:Res α):Prop:=∀x m,a = .ok x m->b = .ok x m
section
variable{a a' b:Res α}{k k':α -> Sto->Res β}
theorem OkLe.refl:OkLe a a:=fun _ _ h=>h
theorem OkLe.bad:OkLe (.bad:Res α) b:=fun _ _ h=>nomatch h
theorem OkLe.pu(h:OkLe a b):OkLe a b.pu:=fun x m e=>by rw[h x m e];rfl
theorem OkLe.bind(h:OkLe a a')(H:∀x m,OkLe (k x m) (k' x m)):OkLe (a.bind k) (a'.bind k'):=fun y m e=>by
 cases ha:a with
 |ok x m1=>rw[ha]at e;rw[h x m1 ha];exact H x m1 y m e|exc c m1=>rw[ha]at e;cases e|bad=>rw[ha]at e;cases e
end
variable{cn mn:ae}{h':List D->Sto->Res D}
section
variable{f f' g g':SV}{c:TV}{fr:AV}{h:List D->Sto->Res D}{n:Nat}
def SLe(f g:SV):Prop:=∀ρ m,OkLe (f ρ m) (g ρ m)
theorem SLe.refl:SLe f f:=fun _ _=>.refl
theorem SLe.pu:SLe f (sPu f):=fun _ _=>OkLe.pu .refl
theorem SLe.bad:SLe sBad f:=fun _ _=>.bad
theorem SLe.seq(h1:SLe f f')(h:SLe g g'):SLe (zan f g) (zan f' g'):=fun ρ m=>OkLe.bind (h1 ρ m) fun F m1=>by
 cases F with
 |nx a=>exact h a m1|rt d=>exact .refl|bk a=>exact .refl|ct a=>exact .refl
theorem SLe.ife(h1:SLe f f')(h:SLe g g'):SLe (sIf c f g) (sIf (tPu c) f' g'):=fun ρ m=>OkLe.bind (OkLe.pu .refl) fun b m1=>by
 cases b with
 |true=>exact h1 ρ m1|false=>exact h ρ m1
theorem SLe.run(h1:SLe f f'):OkLe (za2 n f ds m) (za2 n f' ds m):=OkLe.bind (h1 _ _) fun _ _=>.refl
end
def d33:EV:=by walk_at "#uxsVt&vgt&t^vX"
theorem d33_w:d33 ρ m = .ok (.ob (m.length+1)) (m++[.dct (hlD [])]++[.dct (bkL none m.length)]):=by
 have E:eC .non ρ m = .ok .non m:=rfl;have gen:∀g:EV,g ρ m = .ok (.ob m.length) (m++[.dct (hlD [])])->zde [("top", eC .non),("kept", g)] ρ m = .ok (.ob (m.length+1)) (m++[.dct (hlD [])]++[.dct (bkL none m.length)]):=fun g e=>by
  unfold zde zd9;rw[E,bind_ok];unfold zd9;rw[e,bind_ok];unfold zd9;simp only[bind_ok];rw[yj];rfl
 exact gen _ rfl
theorem zlH(pt:Pt):ixD pt.e (.int 0) m = .ok (shD pt.fs pt.n) m:=zka (n:=0) rfl
structure St33(m:Sto)(p q c k h d r j:Nat)(pt:Pt)(top:Option Int)(bk:List (Int×List Int)):Prop where
 rr:∃hl,RdAt m k h pt top hl/\hl.Perm bk/\(ksH hl).Nodup/\(ksH hl).Pairwise (· <= ·)/\(∀p∈hl,HdOk pt.fs p.2)/\hl.length<=j
 bx:P3 m p q c m
 md:m[d]?=aa (.dct (bkL top r))
 kp:m[r]?=aa (.dct (hlD bk))
 ne:Ne36 p q k h d r
variable{d6:D}
section
variable{k d:Nat}{top:Option Int}{bk:List (Int×List Int)}{s:D}{pt:Pt}
theorem St33.box(x:St33 m p q c k h d r j pt top bk)(hp:P3 m p q c' m'):St33 m' p q c' k h d r j pt top bk:=by
 obtain⟨hl,x1,x2⟩:=x.rr;exact⟨⟨hl,x1.fr hp.fr x.ne.kp x.ne.kq x.ne.hp x.ne.hq,x2⟩,hp.re,hp.kept x.md x.ne.dp x.ne.dq,hp.kept x.kp x.ne.rp x.ne.rq,x.ne⟩
theorem St33.new{h':Nat}(x:RdAt m k h pt none [])(hp:P3 m p q c m)(H:k≠p/\k≠q)(a:h≠p/\h≠q):St33 (m++[.dct (hlD [])]++[.dct (bkL none m.length)]) p q c k h (m.length+1) m.length j pt none []:=by
 have hl:=x.lt;have b:=hp.lt;refine⟨⟨[],(x.app).app,yc3 _,by simp[ksH],by simp[ksH],(fun p hp=>nomatch hp),yZ _⟩,((hp.app).app).re,zc7 (by rw[yj];rfl),zc8 (zc7 rfl),⟨H.1,H.2,a.1,a.2,by omega,by omega,by omega,by omega,by omega,by omega,by omega,by omega,by omega⟩⟩
end
section
variable{fa:AV}{gt:GV}{h:List D->Sto->Res D}
theorem SLe.fn(h1:∀ds m,OkLe (h ds m) (h' ds m)):SLe (zaA (eFn h fa) gt) (zaA (eFn h' (aPu fa)) gt):=fun ρ m=>OkLe.bind (OkLe.bind (OkLe.pu .refl) fun ds m1=>h1 ds m1) fun _ _=>.refl
theorem SLe.fnP(h1:∀ds m,OkLe (h ds m) (h' ds m)):SLe (zaA (eFn h fa) gt) (zaA (eFn h' (aPu fa)) (gPu gt)):=fun ρ m=>OkLe.bind (OkLe.bind (OkLe.pu .refl) fun ds m1=>h1 ds m1) fun _ _=>OkLe.bind (OkLe.pu .refl) fun _ _=>.refl
end
theorem zsO(ds:List D)(m:Sto):OkLe (zcT ds m) (zbW ds m):=by
 unfold zcT zbW zft zc9;exact SLe.run (SLe.seq .pu (SLe.seq (SLe.ife .bad .refl) .pu))
theorem zoY(ds:List D)(m:Sto):OkLe (zfv ds m) (za7 ds m):=by
 unfold zfv za7 zi9 zcU;exact SLe.run (SLe.seq (SLe.ife .bad .refl) (SLe.seq (SLe.fn zsO) (SLe.seq (SLe.ife .bad .refl) (SLe.seq .pu (SLe.seq .pu (SLe.seq .pu (SLe.seq .pu (SLe.seq (SLe.ife .bad .refl) .pu))))))))
theorem zs5(ds:List D)(m:Sto):OkLe (zda ds m) (zaI ds m):=by
 unfold zda zaI zdF zck;exact SLe.run (SLe.seq (SLe.fnP zoY) (SLe.seq .pu (SLe.seq .pu (SLe.seq .pu (SLe.seq .pu (SLe.seq .pu (SLe.seq .pu (SLe.seq .pu (SLe.seq .pu .pu)))))))))
theorem zsZ{g':List D->Sto->Res D}{P:D->Sto->Prop}(hl:∀ds m,OkLe (g ds m) (g' ds m))(h:Run (g ds m) P):Run (puF g' ds m) P:=by
 obtain⟨a,m',e,q⟩:=h;exact⟨a,m',by show (g' ds m).pu=_;rw[hl _ _ _ _ e];rfl,q⟩
section
variable{k:Nat}{pt:Pt}{top:Option Int}{hl:List (Int×List Int)}
theorem readX(x:RdAt m k h pt top hl){e:Exc}(q:za7 [pt.e,d] m = .exc e m):zaI [.ob k,d] m = .exc e m:=by
 have a:zaI [.ob k,d] m=(zck [aa (.ob k),aa d,none,none,none,none,none] m).bind zeG:=rfl;rw[a];unfold zck;have E:(zac (zcy "Reader" "pact" (zad 0)) (zac (zad 1) zaj)) [aa (.ob k),aa d,none,none,none,none,none] m = .ok [pt.e,d] m:=by
  apply zav;erw [x.pact];ac_nf;exact Run.ok ⟨rfl,rfl⟩
 show Res.bind (Res.bind (Res.bind (Res.bind (Res.pu ((zac (zcy "Reader" "pact" (zad 0)) (zac (zad 1) zaj)) [aa (.ob k),aa d,none,none,none,none,none] m)) za7) _) _) zeG=_;rw[E];show Res.bind (Res.bind (Res.bind (za7 [pt.e,d] m) _) _) zeG=_;rw[q];rfl
end
section
variable{pt:Pt}
theorem noZ{w:Nat}(H:w=wdN (1+pt.fms.length))(h:l.take w=dgs 0 w)(hl:l.length≠lsz pt none) : ¬ OkZ pt l:=fun z=>by
 have hs:zd6 pt l=0:=by
  unfold zd6;rw[<- H,h,zeL];simp
 have:=z.l';rw[hs]at this;exact hl this
theorem zi5{n:Nat}:(ltL pt none n hd).take (wdN (1+pt.fms.length))=dgs 0 (wdN (1+pt.fms.length)):=by
 unfold ltL;rw[yX,yX,ycc (zaD _ _)];rfl
end
theorem zqE{fs:List Fd}(hs:zkX fs)(hn:fs.length<=12)(q:Bin z.cps.toList)(hl:z.length<=sizeLine)(hsz:z.cps.size=(fs.map fun f=>f.b).sum) : zbO [shD fs n,.str z] m = .ok (zco ((yw fs.length).map (zgZ z.cps.toList (fs.map fun f=>f.b)))) m:=by
 apply zav;unfold zbO zhi;ac_nf;have E:∀m,ixD (shD fs n) (.int 0) m = .ok (.tup (fs.map Fd.e)) m:=fun m=>ix_t0 _ _;rw[E];ac_nf;refine Run.bind (zaT (fun k ρ m'=>∃(Z:ae)(x3:Option D),Z.cps.toList=z.cps.toList.drop (zeF (fs.map fun f=>f.b) k)/\ρ = [aa (shD fs n),aa (.str Z),aa (zco ((yw k).map (zgZ z.cps.toList (fs.map fun f=>f.b)))),x3]/\m'=m) _ 0 ⟨z,_,by simp[zeF],rfl,rfl⟩ ?_) ?_
 ·rintro i d ρ m' hd ⟨Z,x3,h,rfl,rfl⟩;rw[yz]at hd;obtain⟨f,o,rfl⟩:=yak.mp hd;have hi:i<fs.length:=(ye.mp o).1;rw[yq]at h ⊢;obtain⟨t,s,u⟩:=hs i f o;have b:(fs.map fun f=>f.b)[i]?=aa f.b:=by rw[yz,o];rfl
  have c:=zdm b;have r:=zkZ (fs.map fun f=>f.b) (i+1);have p:Z.cps.size=z.cps.size-zeF (fs.map fun f=>f.b) i:=by
   have:=congrArg yaG h;simpa using this
  have H:Z.length<=sizeLine:=by
   have h1:Z.length=Z.cps.size:=rfl;have v:z.length=z.cps.size:=rfl;omega
  have a:f.b<=Z.cps.size:=by omega
  have e:zgZ z.cps.toList (fs.map fun f=>f.b) i=zc0 (Z.cps.toList.take f.b):=by rw[zgZ,yaf,b,h];rfl
  have l:Bin Z.cps.toList:=by rw[h];exact q.drop _
  have g:=Mth.slice_lo Z f.b a;have j:=Mth.slice_hi Z f.b a;erw [show ixD f.e (.int 1) m' = .ok (.int f.b) m' from ix_t1 _ _ _];erw [zdp H];erw [zav (zeS (by rw[g];exact l.take _)),g,<- e];ac_nf;unfold zco;rw[zuE (by rw[yg,yg,yaL];exact yah (zbr (by simp;omega)))];erw [show ixD f.e (.int 1) m' = .ok (.int f.b) m' from ix_t1 _ _ _];erw [zdp H];ac_nf;refine Run.ok ⟨_,rfl,Txt.slice Z (aa ((f.b:Nat):Int)) none,aa f.e,by rw[j,h,yc0,c],?_,rfl⟩;rw[zd7,yN];rfl
 ·rintro _ m' ⟨ρ,rfl,Z,x3,h,rfl,rfl⟩;rw[yq,yg];ac_nf;exact Run.ok ⟨rfl,rfl⟩
variable{r0:Int}{x2 x3 x7 x11 x12:Option D}
section
variable{d:Nat}{pt:Pt}{top:Option Int}{bk hl:List (Int×List Int)}
theorem zh1(h1:m[d]?=aa (.dct (bkL top r)))(h:PtOk pt)(ha:zfE pt at')(a:at'=none∨top≠none):zbh [.ob d,pt.e,onD at',.int r0] m = .ok (.int (zjT pt top at' r0)) m:=by
 apply zav;unfold zbh ze2;cases at' with
 |none=>
  simp only[onD];ac_nf;refine Run.ok ⟨?_,rfl⟩;unfold zjT;cases top <;> rfl
 |some i=>
  cases top with
  |none=>rcases a with z|z <;> simp at z
  |some t=>
   have H:=(zdL h.w (at':=aa i) ha).b1;simp only[onD];erw [zbf h1 (zhr _ _)];simp only[zcb];erw [ix_e3];erw [zpS];erw [zea];erw [zg9 ha];erw [show ixD (zaL pt (aa i)).e (.int 1) m = .ok (.int (zaL pt (aa i)).b) m from ix_t1 _ _ _];erw [zcz (by omega)];erw [zbm (p2 _)];ac_nf;exact Run.ok ⟨rfl,rfl⟩
def lrN(pt:Pt)(top:Option Int)(bk:List (Int×List Int))(at':Option Nat)(n:Int)(bits:List Nat)(ck:Int):D×Option Int×List (Int×List Int) :=
 if zex pt top n=ac then (znw "late", top,bk)
 else if n∈ksH bk then (twD n,top,bk)
 else if at'≠none/\zf9 bk n (zaL pt at').a=ac then (znw "far", aa (zbQ top n),ksP bk (zbQ top n-pt.rd.late))
 else if ckI pt n (zbC pt bk at' n bits)≠ck then (znw "check", top,bk)
 else (rdD n (zbC pt bk at' n bits),aa (zbQ top n),ksP (bk++[(n,zbC pt bk at' n bits)]) (zbQ top n-pt.rd.late))
def lrV(pt:Pt)(top:Option Int)(bk:List (Int×List Int))(at':Option Nat)(r:Int)(bits:List Nat)(ck:Int):D×Option Int×List (Int×List Int) :=
 if at'≠none/\top=none then (znw "blank", top,bk) else lrN pt top bk at' (zjT pt top at' r) bits ck
def lrB:SV:=by walk_at "#uJU%w-u[u^!v_tds:cvWtG%w1uGu]vau^!"
def lrF:SV:=by walk_at "#=uSs:Ms*s-js*cjs*MKvbtQuRvEvLsBc%w0t4!ZvcStG%w1uGu]t*v!_2w0t4vT=Zs:tTMfuVy5u[s5vcGsZgftKctTvV"
def lrA:SV:=by walk_at "#vbs-cStFu-vds-csBtqWt*u~twu}cs:v[t)twsIv0uVy4u[tOF|%|&"
theorem zkl:zkm=(zan (zov 6 7 (zac (eOp ixD (eOp ixD (zad 1) (eC (.int 3))) (eC (.int 2))) (zac (eOp ixD (zad 0) (eC (.str "top"))) zaj)))
 (zan (sIf (zci (tV (eOp zc5 (zad 2) (eC .non))) (tV (eOp isD (zad 7) (eC .non))))
 (zaE (eFn zbg (zac (eC (.str "not")) (zac (eC (.str "blank")) zaj))))
 za0)
 (zan (zaA (eFn zbh (zac (zad 0) (zac (zad 1) (zac (zad 2) (zac (zad 3) zaj))))) (gN 8)) lrA))):=rfl
theorem zpD{x4:Option D}(h1:m[d]?=aa (.dct (bkL top r)))(b:m[r]?=aa (.dct (hlD bk)))(a:d≠r)(e:bk.length<63)(hn:(ksH bk).Nodup)(H:n∉ksH bk)(n0:0<=n)(h:PtOk pt)(f:HdOk pt.fs hd) : Run ((lrB [aa (.ob d),aa pt.e,x2,x3,x4,aa (.int ck),aa (.int pt.rd.late),x7,aa (.int n),aa (zco hd),x10,x11,x12] m).bind zeG) (Db3 m d r (if ckI pt n hd≠ck then (znw "check", top,bk) else (rdD n hd,aa (zbQ top n),ksP (bk++[(n,hd)]) (zbQ top n-pt.rd.late)))):=by
 obtain⟨j,rfl⟩:=Int.eq_ofNat_of_zero_le n0;unfold lrB;erw [zlH];erw [zcR h f];ac_nf;by_cases c1:ckI pt j hd=ck
 ·rw[if_neg (not_not_intro c1)];have c:ck=ckV pt j hd:=c1.symm;simp only[c,decide_true,Bool.not_true,if_true,not_true];erw [zbf h1 (zdM _ _)];erw [put_h b H (by omega)];ac_nf;refine Run.bind (ziq (late:=pt.rd.late) (n:=(j:Int)) (top:=top) (bk:=bk++[((j:Int),hd)]) (by rw[zaM (Ne.symm a)];exact h1) (zbw b) a (by rw[yj];show bk.length+1<64;omega) (zhR hn H)) ?_;rintro _ m2 ⟨rfl,i,g,E⟩;ac_nf;exact Run.ok ⟨rfl,i,g,Fr.set'.trans E⟩
 ·rw[if_pos c1];have c : ¬ ck=ckV pt j hd:=fun z=>c1 z.symm;simp only[c,decide_false,Bool.not_false,if_false,not_false_eq_true];ac_nf;exact Run.ok ⟨rfl,h1,b,Fr.refl⟩
end
theorem zsk{fs:List Fd}{wys:List Wy}{fo hd:List Int}{more:Int}(hs:zkX fs)(a:WyOk fs wys)(e:HdOk fs fo)(H:HdOk fs hd):∀K:Nat,K<=fs.length->∀(j:Nat)(f:Fd)(t:Int),fs[j]?=aa f->(hdV fs wys fo more (pcK fs wys hd fs.length) K)[j]?=aa t->0<=t/\t<2^f.b
 |0,_,j,f,t,_,h=>by simp[hdV]at h|K+1,q,j,f,t,E,h=>by
  rw[hdV]at h;rcases ybz j (hdV fs wys fo more (pcK fs wys hd fs.length) K).length with d|d
  ·rw[yI d]at h;exact zsk hs a e H K (by omega) j f t E h
  ·rw[yT d]at h;have e1:=yh (show K<fs.length by omega);have g:=yh (show K<wys.length by rw[a.len];omega);have k:=yh (show K<fo.length by rw[e.len];omega);have i:=yh (show K<hd.length by rw[H.len];omega);rw[e1,g,k]at h;have c:j-(hdV fs wys fo more (pcK fs wys hd fs.length) K).length=0:=by
    have:=(ye.mp h).1;simpa using this
   have b:j=K:=by
    have:=zfr fs wys fo more (pcK fs wys hd fs.length) K;omega
   rw[c]at h;simp only[ydY,yaq]at h;rw[zpn a H e1 g i]at h;obtain⟨v0,v⟩:=e.at' K _ _ e1 k;obtain⟨U,u⟩:=H.at' K _ _ e1 i;obtain⟨p,o,n⟩:=hs K _ e1;have m:=a.at' K _ _ e1 g;obtain⟨g0,g1⟩:=exV_in (more:=more) (fo:=fo) (ah:=hdV fs wys fo more (pcK fs wys hd fs.length) K) n v0 v;subst b;rw[e1]at E;cases E;subst h;cases l:wys[j]'(by rw[a.len];omega) with
   |keep=>exact⟨g0,g1⟩|whole=>
    show 0<=hd[j]'(by rw[H.len];omega)%2^(Wy.whole.w fs[j].b)/\hd[j]'(by rw[H.len];omega)%2^(Wy.whole.w fs[j].b)<2^fs[j].b;exact⟨(md2 _ _).1,(md2 _ _).2⟩
   |low w bl=>exact⟨(md2 _ _).1,(md2 _ _).2⟩
theorem zrG{fs:List Fd}{more:Int}(hs:zkX fs)(h:WyOk fs wys)(a:HdOk fs fo)(H:HdOk fs hd):HdOk fs (hdV fs wys fo more (pcK fs wys hd fs.length) fs.length) :=
 ⟨zfr _ _ _ _ _ _,fun i f v E e=>zsk hs h a H _ (yc _) i f v E e⟩
theorem vlH_of{hl:List (Int×List Int)}(hn:(ksH hl).Nodup)(h:(n,x)∈hl):vlH hl n=aa x:=by
 induction hl with
 |nil=>cases h|cons p r i=>
  unfold vlH;unfold ksH at hn;rw[yl,yao]at hn;rcases yn.mp h with rfl|h
  ·rw[if_pos rfl]
  ·rw[if_neg fun z=>hn.1 (by rw[z];exact ybe (f:=(·.1)) h)];exact i hn.2 h
theorem zqG{hl bk:List (Int×List Int)}(hp:hl.Perm bk)(hn:(ksH hl).Nodup)(n:Int):vlH hl n=vlH bk n:=by
 have H:=(zb3 hp).nodup_iff.mp hn;by_cases h:n∈ksH hl
 ·obtain⟨x,e,hm⟩:=zcg h;rw[e,vlH_of H (hp.mem_iff.mp hm)]
 ·rw[vlH_none.mpr h,vlH_none.mpr fun z=>h ((zb3 hp).mem_iff.mpr z)]
section
variable{d:Nat}{pt:Pt}{top:Option Int}{bk hl:List (Int×List Int)}
theorem znJ(hp:hl.Perm bk)(hn:(ksH hl).Nodup):zbC pt hl at' n bits=zbC pt bk at' n bits:=by
 unfold zbC;cases at' with
 |none=>rfl|some i=>
  simp only;rw[zi2 (zb3 hp)];cases mxB n (ksH bk) with
  |none=>rfl|some f=>simp only;rw[zqG hp hn]
theorem zqd(hp:hl.Perm bk){a:Nat}:zf9 hl n a=zf9 bk n a:=by
 unfold zf9;rw[zi2 (zb3 hp)]
theorem zeX(h:PtOk pt)(ha:zfE pt at')(H:HdOk pt.fs hd)(a:∀p∈bk,HdOk pt.fs p.2)(b:at'=none∨zf9 bk n (zaL pt at').a=ag):HdOk pt.fs (zbC pt bk at' n (pcK pt.fs (zaL pt at').wys hd pt.fs.length)):=by
 cases at' with
 |none=>
  have:=hd33 (hl:=bk) (n:=n) h.w H;unfold pc0 at this;rw[show (zaL pt none).wys=(fmW pt).wys from rfl,this];exact H
 |some i=>
  rcases b with z|z
  ·cases z
  ·unfold zf9 at z;unfold zbC;cases e:mxB n (ksH bk) with
   |none=>rw[e]at z;cases z|some f=>
    obtain⟨fo,c,E⟩:=zcg (zdB e).1;simp only;rw[c,yag];exact zrG h.sh.ok (zdL h.w (at':=aa i) ha).wy (a _ E) H
theorem conn34(h:PtOk pt)(ha:zfE pt at')(g:HdOk pt.fs hd)(i:bits=pcK pt.fs (zaL pt at').wys hd pt.fs.length)(hp:hl.Perm bk)(hn:(ksH hl).Nodup)(hs:(ksH hl).Pairwise (· <= ·))(b:∀p∈hl,HdOk pt.fs p.2) : ∃hl',rdV pt top hl at' r0 bits ck=((lrV pt top bk at' r0 bits ck).1,(lrV pt top bk at' r0 bits ck).2.1,hl')/\hl'.Perm (lrV pt top bk at' r0 bits ck).2.2/\(ksH hl').Nodup/\(ksH hl').Pairwise (· <= ·)/\(∀p∈hl',HdOk pt.fs p.2)/\hl'.length<=hl.length+1:=by
 unfold rdV lrV;by_cases c0:at'≠none/\top=none
 ·rw[if_pos c0,if_pos c0];exact⟨hl,rfl,hp,hn,hs,b,by omega⟩
 rw[if_neg c0,if_neg c0];unfold rdN lrN;generalize zjT pt top at' r0=n;by_cases c1:zex pt top n=ac
 ·rw[if_pos c1,if_pos c1];exact⟨hl,rfl,hp,hn,hs,b,by omega⟩
 rw[if_neg c1,if_neg c1];by_cases C:n∈ksH hl
 ·rw[if_pos C,if_pos ((zb3 hp).mem_iff.mp C)];exact⟨hl,rfl,hp,hn,hs,b,by omega⟩
 rw[if_neg C,if_neg fun z=>C ((zb3 hp).mem_iff.mpr z),zqd hp,znJ hp hn];by_cases c:at'≠none/\zf9 bk n (zaL pt at').a=ac
 ·rw[if_pos c,if_pos c];refine⟨_,rfl,zj8 hp hn,zey hn,?_,fun p a=>b p ((zg2 hn).mp a).1,yx (zmy hn) (by omega)⟩;rw[zeT hn];exact zfo _ _
 rw[if_neg c,if_neg c];by_cases d:ckI pt n (zbC pt bk at' n bits)≠ck
 ·rw[if_pos d,if_pos d];exact⟨hl,rfl,hp,hn,hs,b,by omega⟩
 rw[if_neg d,if_neg d];have f:∀p∈bk,HdOk pt.fs p.2:=fun p a=>b p (hp.mem_iff.mpr a);have j:HdOk pt.fs (zbC pt bk at' n bits):=by
  rw[i];refine zeX h ha g f ?_;by_cases z:at'=none
  ·exact .inl z
  ·right;cases e:zf9 bk n (zaL pt at').a with
   |false=>rfl|true=>exact absurd ⟨z,e⟩ c
 have H:=zhR (x:=zbC pt bk at' n bits) hn C;refine⟨_,rfl,zj8 (zoV hp) H,zey H,?_,fun p a=>?_,?_⟩
 ·rw[zeT H];exact zfo _ _
 ·rcases yJ.mp ((zg2 H).mp a).1 with z|z
  ·exact b p z
  ·rw[yE.mp z];exact j
 ·refine yx (zmy H) ?_;rw[yj];exact yc _
end
variable{x5:Option D}
section
variable{d:Nat}{pt:Pt}{top:Option Int}{bk:List (Int×List Int)}
theorem zub(h1:m[d]?=aa (.dct (bkL top r)))(s:m[r]?=aa (.dct (hlD bk)))(o:d≠r)(A:bk.length<63)(hn:(ksH bk).Nodup)(h:PtOk pt)(ha:i<pt.fms.length)(B:HdOk pt.fs hd)(w:∀p∈bk,HdOk pt.fs p.2)(u:bits=pcK pt.fs (zaL pt (aa i)).wys hd pt.fs.length) : Run (lrF [aa (.ob d),aa pt.e,aa (.int i),x3,aa (.str ⟨bits.toArray⟩),x5,aa (.int pt.rd.late),x7,aa (.int n),x9,x10,x11,x12] m) fun F m'=>(zf9 bk n (zaL pt (aa i)).a=ac/\F = .rt (znw "far")/\m'[d]?=aa (.dct (bkL (aa (zbQ top n)) r))/\m'[r]?=aa (.dct (hlD (ksP bk (zbQ top n-pt.rd.late))))/\Fr d r m m') ∨ (zf9 bk n (zaL pt (aa i)).a=ag/\m'=m/\∃y10 y11 y12,F = .nx [aa (.ob d),aa pt.e,aa (.int i),x3,aa (.str ⟨bits.toArray⟩),x5,aa (.int pt.rd.late),x7,aa (.int n),aa (zco (zbC pt bk (aa i) n bits)),y10,y11,y12]):=by
 have l:=zdL h.w (at':=aa i) ha;have j:=zcK l.wy B pt.fs.length (yc _);have x:=zdn h.sh.ok l.wy pt.fs.length (yc _);have C:=h.f1;have g:bits.length=(zcG pt.fs (zaL pt (aa i)).wys).sum:=by
  rw[u,j];unfold zeF;rw[yae (by have:=zb2 l.wy;omega)]
 have G:bits.length<=480:=by rw[u,j];omega
 have q:Bin bits:=by rw[u];exact ziN _
 unfold lrF;erw [zrU (k:=r) (i1:=13) (fi:=eOp ixD (zad 0) (eC (.str "kept"))) (fn:=zad 8) (ρ := [aa (.ob d),aa pt.e,aa (.int i),x3,aa (.str ⟨bits.toArray⟩),x5,aa (.int pt.rd.late),x7,aa (.int n),x9,x10,x11,x12]) (n:=n) rfl (zbf h1 (zdM _ _)) s (by omega) (fun _ _=>rfl)];erw [eq_l0];by_cases a:((ksH bk).filter fun k=>decide (k<n))=[]
 ·rw[decide_eq_true a];have c:mxB n (ksH bk)=none:=by unfold mxB;rw[if_pos a]
  have H:zf9 bk n (zaL pt (aa i)).a=ac:=by unfold zf9;rw[c]
  ac_nf;refine Run.bind (ziq (late:=pt.rd.late) (n:=n) (top:=top) h1 s o (by omega) hn) ?_;rintro _ m2 ⟨rfl,e,E,v⟩;ac_nf;exact Run.ok (.inl ⟨H,rfl,e,E,v⟩)
 ·rw[decide_eq_false a];have c:mxB n (ksH bk)=aa (zn1 ((ksH bk).filter fun k=>decide (k<n))):=by unfold mxB;rw[if_neg a]
  erw [max_l a];erw [zea];erw [zg9 ha];erw [show ixD (zaL pt (aa i)).e (.int 0) m = .ok (.int (zaL pt (aa i)).a) m from ix_t0 _ _];ac_nf;generalize t:zn1 ((ksH bk).filter fun k=>decide (k<n))=f at c;by_cases b:((zaL pt (aa i)).a:Int)<n-f
  ·have H:zf9 bk n (zaL pt (aa i)).a=ac:=by unfold zf9;rw[c];exact decide_eq_true b
   rw[if_pos b];ac_nf;refine Run.bind (ziq (late:=pt.rd.late) (n:=n) (top:=top) h1 s o (by omega) hn) ?_;rintro _ m2 ⟨rfl,e,E,v⟩;ac_nf;exact Run.ok (.inl ⟨H,rfl,e,E,v⟩)
  ·have H:zf9 bk n (zaL pt (aa i)).a=ag:=by unfold zf9;rw[c];exact decide_eq_false b
   obtain⟨g1,J,g3⟩:=zdB c;obtain⟨fo,e,E⟩:=zcg g1;have I:=l.a1;rw[if_neg b];erw [max_l a,t];erw [zbf h1 (zdM _ _)];erw [ix_h s e];erw [zlH];erw [zea];erw [zg9 ha];erw [show ixD (zaL pt (aa i)).e (.int 2) m = .ok (.tup ((zaL pt (aa i)).wys.map Wy.e)) m from ix_t2 _ _ _ _];ac_nf;have y:=zo0 (n:=pt.n) (z:=⟨bits.toArray⟩) (fo:=fo) (more:=n-f) (m:=m) h.sh.ok h.f1 l.wy (w _ E) q (by show bits.toArray.size<=sizeLine;rw[yp];exact yah (zbr (by omega))) (by show bits.toArray.size=_;rw[yp];exact g) (by omega) (by omega);rw[show zbJ [shD pt.fs pt.n,.tup ((zaL pt (aa i)).wys.map Wy.e),.str ⟨bits.toArray⟩,zco fo,.int (n-f)] m=_ from y];ac_nf;refine Run.ok (.inr ⟨H,rfl,aa (.lst (((ksH bk).filter fun k=>decide (k<n)).map D.int)),aa (.int f),aa (zco fo),?_⟩);unfold zbC;rw[c];simp only;rw[e,yag];rfl
theorem zpE(h1:m[d]?=aa (.dct (bkL top r)))(g:m[r]?=aa (.dct (hlD bk)))(e:d≠r)(c:bk.length<63)(hn:(ksH bk).Nodup)(h:PtOk pt)(ha:zfE pt at')(o:HdOk pt.fs hd)(u:∀p∈bk,HdOk pt.fs p.2)(f:bits=pcK pt.fs (zaL pt at').wys hd pt.fs.length) : Run ((lrA [aa (.ob d),aa pt.e,aa (onD at'),x3,aa (.str ⟨bits.toArray⟩),aa (.int ck),aa (.int pt.rd.late),aa (zcb top),aa (.int n),x9,x10,x11,x12] m).bind zeG) (Db3 m d r (lrN pt top bk at' n bits ck)):=by
 have v:=zdL h.w ha;have j:=zcK v.wy o pt.fs.length (yc _);have x:=zdn h.sh.ok v.wy pt.fs.length (yc _);have z:=h.f1;have A:bits.length<=480:=by rw[f,j];omega
 have k:Bin bits:=by rw[f];exact ziN _
 have K:zex pt top n=ag->Run (((zan (sIf (tV (eOp inD (zad 8) (eOp ixD (zad 0) (eC (.str "kept")))))
 (zaE (eFn zbg (zac (eC (.str "twice")) (zac (zad 8) zaj))))
 za0)
 (zan (sIf (tV (eOp isD (zad 2) (eC .non)))
 (zaA (eFn zbO (zac (eOp ixD (zad 1) (eC (.int 0))) (zac (zad 4) zaj))) (gN 9)) lrF) lrB)) [aa (.ob d),aa pt.e,aa (onD at'),x3,aa (.str ⟨bits.toArray⟩),aa (.int ck),aa (.int pt.rd.late),aa (zcb top),aa (.int n),x9,x10,x11,x12] m).bind zeG) (Db3 m d r (lrN pt top bk at' n bits ck)):=by
  intro H;have n0:0<=n:=by
   unfold zex at H;rw[ycT,decide_eq_false_iff_not]at H;omega
  unfold lrN;rw[H,if_neg yu];erw [zbf h1 (zdM _ _)];erw [in_h g];by_cases b:n∈ksH bk
  ·obtain⟨y,w,_⟩:=zcg b;rw[if_pos b,w];simp only[ycJ];ac_nf;exact Run.ok ⟨rfl,h1,g,Fr.refl⟩
  rw[if_neg b,vlH_none.mpr b];simp only[yd8];ac_nf;cases at' with
  |none=>
   rw[if_neg (by simp)];have l:=zeX (n:=n) h ha o u (.inl rfl);rw[<- f]at l;simp only[onD];erw [zlH];ac_nf;rw[show zbO [shD pt.fs pt.n,.str ⟨bits.toArray⟩] m = .ok (zco (zbC pt bk none n bits)) m by
    rw[zqE h.sh.ok h.f1 k (by show bits.toArray.size<=sizeLine;rw[yp];exact yah (zbr (by omega))) (by
     show bits.toArray.size=_;rw[yp,f,j];unfold zeF;rw[show (zaL pt none).wys=(fmW pt).wys from rfl,wsW,yae (by simp)])]
    unfold zbC;rw[yg]]
   ac_nf;have B:=zpD (ck:=ck) (x2:=aa .non) (x3:=x3) (x4:=aa (.str ⟨bits.toArray⟩)) (x7:=aa (zcb top)) (x10:=x10) (x11:=x11) (x12:=x12) (pt:=pt) (top:=top) h1 g e c hn b n0 h l;exact B
  |some i=>
   simp only[onD];ac_nf;refine Run.bind (zub (n:=n) (hd:=hd) (x5:=aa (.int ck)) (x3:=x3) (x7:=aa (zcb top)) (x9:=x9) (x10:=x10) (x11:=x11) (x12:=x12) h1 g e c hn h ha o u f) ?_;rintro _ m2 (⟨a,rfl,F,D,C⟩|⟨a,rfl,s,q,Y,rfl⟩)
   ·rw[if_pos ⟨by simp,a⟩];ac_nf;exact Run.ok ⟨rfl,F,D,C⟩
   ·rw[if_neg (by rw[a];simp)];have l:=zeX (n:=n) h ha o u (.inr a);rw[<- f]at l;have B:=zpD (ck:=ck) (x2:=aa (.int i)) (x3:=x3) (x4:=aa (.str ⟨bits.toArray⟩)) (x7:=aa (zcb top)) (x10:=s) (x11:=q) (x12:=Y) (pt:=pt) (top:=top) h1 g e c hn b n0 h l;ac_nf;exact B
 have E:(zoc (tV (eOp ltD (zad 8) (eC (.int 0)))) (zci (tV (eOp zc5 (zad 7) (eC .non))) (tV (eOp ltD (zad 8) (eOp zdO (zad 7) (zad 6)))))) [aa (.ob d),aa pt.e,aa (onD at'),x3,aa (.str ⟨bits.toArray⟩),aa (.int ck),aa (.int pt.rd.late),aa (zcb top),aa (.int n),x9,x10,x11,x12] m = .ok (zex pt top n) m:=by
  apply zav;unfold zex;by_cases c0:n<0
  ·erw [if_pos c0];exact Run.ok ⟨by rw[decide_eq_true c0];rfl,rfl⟩
  ·erw [if_neg c0,decide_eq_false c0,ycK];cases top with
   |none=>
    simp only[zcb];ac_nf;exact Run.ok ⟨rfl,rfl⟩
   |some t=>
    simp only[zcb];ac_nf;exact Run.ok ⟨rfl,rfl⟩
 unfold lrA;show Run (Res.bind (Res.bind (Res.bind ((zoc (tV (eOp ltD (zad 8) (eC (.int 0)))) (zci (tV (eOp zc5 (zad 7) (eC .non))) (tV (eOp ltD (zad 8) (eOp zdO (zad 7) (zad 6)))))) [aa (.ob d),aa pt.e,aa (onD at'),x3,aa (.str ⟨bits.toArray⟩),aa (.int ck),aa (.int pt.rd.late),aa (zcb top),aa (.int n),x9,x10,x11,x12] m) _) _) zeG) _;rw[E];cases H:zex pt top n with
 |true=>
  unfold lrN;rw[if_pos H];exact Run.ok ⟨rfl,h1,g,Fr.refl⟩
 |false=>exact K H
theorem zlE(h1:m[d]?=aa (.dct (bkL top r)))(b:m[r]?=aa (.dct (hlD bk)))(a:d≠r)(H:bk.length<63)(hn:(ksH bk).Nodup)(h:PtOk pt)(ha:zfE pt at')(e:HdOk pt.fs hd)(c:∀p∈bk,HdOk pt.fs p.2)(f:bits=pcK pt.fs (zaL pt at').wys hd pt.fs.length) : Run (zdU [.ob d,pt.e,onD at',.int r0,.str ⟨bits.toArray⟩,.int ck] m) (Db3 m d r (lrV pt top bk at' r0 bits ck)):=by
 unfold zdU;rw[zkl];erw [ix_e3];erw [zpS];erw [zbf h1 (zhr _ _)];ac_nf;unfold lrV;cases at' with
 |none=>
  rw[if_neg (by simp)];simp only[onD];erw [show zbh [.ob d,pt.e,.non,.int r0] m = .ok (.int (zjT pt top none r0)) m from zh1 (at':=none) h1 h ha (.inl rfl)];ac_nf;have A:=zpE (at':=none) (n:=zjT pt top none r0) (ck:=ck) (hd:=hd) (x3:=aa (.int r0)) (x9:=none) (x10:=none) (x11:=none) (x12:=none) h1 b a H hn h ha e c f;simp only[onD]at A;exact A
 |some i=>
  cases top with
  |none=>
   rw[if_pos ⟨by simp,rfl⟩];simp only[onD,zcb];ac_nf;exact Run.ok ⟨rfl,h1,b,Fr.refl⟩
  |some t=>
   rw[if_neg (by simp)];simp only[onD,zcb];erw [show zbh [.ob d,pt.e,.int i,.int r0] m = .ok (.int (zjT pt (aa t) (aa i) r0)) m from zh1 (at':=aa i) h1 h ha (.inr (by simp))];ac_nf;have A:=zpE (at':=aa i) (n:=zjT pt (aa t) (aa i) r0) (ck:=ck) (hd:=hd) (x3:=aa (.int r0)) (x9:=none) (x10:=none) (x11:=none) (x12:=none) h1 b a H hn h ha e c f;simp only[onD,zcb]at A;exact A
end
section
variable{pt:Pt}
theorem zsT(h:l.length<=100000)(h0:0<l.length):slD (.str ⟨l.toArray⟩) none (aa (-1)) m = .ok (.str ⟨(l.take (l.length-1)).toArray⟩) m:=by
 have e:Txt.slice ⟨l.toArray⟩ none (aa (-1))=Txt.slice ⟨l.toArray⟩ none (aa ((l.length-1:Nat):Int)):=by
  unfold Txt.slice;have E:yU none (aa (-1)) 1 l.length=yU none (aa ((l.length-1:Nat):Int)) 1 l.length:=by
   have a:max 0 (min (if (-1:Int)<0 then -1+(l.length:Int) else -1) (l.length:Int))=max 0 (min (if ((l.length-1:Nat):Int)<0 then ((l.length-1:Nat):Int)+l.length else ((l.length-1:Nat):Int)) (l.length:Int)):=by
    rw[if_pos (by decide),if_neg (by omega)];omega
   unfold yU;simp only[gt_iff_lt,Int.zero_lt_one,if_true,a]
  rw[show (⟨l.toArray⟩:ae).length=l.length from yp ..,E]
 have E:=sl_tL (l:=l) (b:=l.length-1) (m:=m) (by omega);rw[zdp (show (⟨l.toArray⟩:ae).cps.size<=sizeLine by rw[zc1];exact yx (by omega:l.length<=1000000) (by decide))]at E ⊢;rw[e,E]
end
section
variable{m3:Sto}{fr:AV}{g:SV}{h:List D->Sto->Res D}{e:Exc}
theorem dropX(Q:fa ρ m = .ok d m1)(hi:zfq cn mn d m1=ac)(q:fr ρ m1 = .ok ds m2)(r:h (d::ds) m2 = .exc e m3):zan (zbU (yMth cn mn h fa fr)) g ρ m = .exc e m3:=by
 show (Res.bind (Res.bind (Res.pu (fa ρ m)) _) _).bind _=_;rw[Q];show (Res.bind (if zfq cn mn d m1=ac then _ else _) _).bind _=_;rw[if_pos hi];show (Res.bind (Res.bind (Res.pu (fr ρ m1)) _) _).bind _=_;rw[q];show (Res.bind (h (d::ds) m2) _).bind _=_;rw[r];rfl
end
theorem zts(o:Option Int):plD (zcb o) (zcb o)=ac:=by
 cases o with
 |none=>rfl|some i=>exact decide_eq_true rfl
structure St34(m:Sto)(p q c k h d r s j:Nat)(pt:Pt)(top:Option Int)(bk:List (Int×List Int))(ps:List (List Int)):Prop where
 st:St33 m p q c k h d r j pt top bk
 ps:m[s]?=aa (.lst (ps.map zco))
 ns:s≠p/\s≠q/\s≠k/\s≠h/\s≠d/\s≠r
theorem tryX0{es:List ae}{x:ae}{f fs:SV}{c:Exc}(q:f ρ m = .exc c m1)(h:(es.contains c.cls&&isX c.cls x)=ac):zna es x f fs ρ m=fs ρ m1:=by
 unfold zna;rw[q];exact if_pos h
variable{ps:List (List Int)}
section
variable{k d:Nat}{pt:Pt}{top:Option Int}{bk:List (Int×List Int)}{n:Nat}
theorem St33.app{x:Sto}(z:St33 m p q c k h d r j pt top bk):St33 (m++x) p q c k h d r j pt top bk:=by
 obtain⟨hl,a,b⟩:=z.rr;exact⟨⟨hl,a.app,b⟩,z.bx.app.re,zc8 z.md,zc8 z.kp,z.ne⟩
theorem St34.box(x:St34 m p q c k h d r s j pt top bk ps)(hp:P3 m p q c' m'):St34 m' p q c' k h d r s j pt top bk ps:=⟨x.st.box hp,hp.kept x.ps x.ns.1 x.ns.2.1,x.ns⟩
theorem St34.app{y:Sto}(x:St34 m p q c k h d r s j pt top bk ps):St34 (m++y) p q c k h d r s j pt top bk ps:=⟨x.st.app,zc8 x.ps,x.ns⟩
theorem St34.more(x:St34 m p q c k h d r s j pt top bk ps)(H:c<=c'):St34 m p q c' k h d r s j pt top bk ps:=⟨⟨x.st.rr,x.st.bx.more H,x.st.md,x.st.kp,x.st.ne⟩,x.ps,x.ns⟩
def no34(l:List Nat):List D:=[.str ⟨(l++[48]).toArray⟩,.str ⟨(l.take (l.length-1)).toArray⟩,.str ⟨([]:List Nat).toArray⟩,.non,.int 7,.lst [.str ⟨l.toArray⟩],.str ⟨(l++[49]).toArray⟩]
theorem no34_x(h:PtOk pt)(c:HdOk pt.fs hd):∀x∈no34 (ltL pt none n hd),za7 [pt.e,x] m = .exc ⟨"NoLetter", []⟩ m:=by
 have hl:=zpB (at':=none) (number:=n) h trivial c;have e:=zj2 h.w (at':=none) trivial;have b:=h.w0;have d:wdN (1+pt.fms.length)+1<=lsz pt none:=by
  unfold lsz;have:(zaL pt none).b=pt.wide:=rfl;omega
 have t:∀{l:List Nat},l.length<=100000 -> ¬ OkZ pt l->za7 [pt.e,.str ⟨l.toArray⟩] m = .exc ⟨"NoLetter", []⟩ m:=fun {l} h1 H=>(partZ h.w h1).2 H;intro x a;simp only[no34,yn,yF,or_false]at a;rcases a with rfl|rfl|rfl|rfl|rfl|rfl|rfl
 ·refine t (by rw[yj,hl];simp;omega) (noZ rfl ?_ (by rw[yj,hl];simp));rw[ycY (by omega)];exact zi5
 ·refine t (by rw[yap];omega) (noZ rfl ?_ (by rw[yap,hl];omega));rw[List.take_take,Nat.min_eq_left (by omega)];exact zi5
 ·refine t (by simp) fun z=>?_;have hs:zd6 pt []=0:=by
   unfold zd6;rw[List.take_nil];rfl
  have:=z.l';rw[hs]at this;have H:([]:List Nat).length=lsz pt none:=this;simp at H;omega
 ·exact ztH rfl
 ·exact ztH rfl
 ·exact ztH rfl
 ·refine t (by rw[yj,hl];simp;omega) (noZ rfl ?_ (by rw[yj,hl];simp));rw[ycY (by omega)];exact zi5
end
theorem gl34(h:ds.length<=1000):zcA ds m = .ok (.lst ds) m:=if_pos (yx h (by decide))
theorem ofsE:yH "" = ⟨([]:List Nat).toArray⟩:=by decide +kernel
section
variable{k d:Nat}{pt:Pt}{top:Option Int}{bk:List (Int×List Int)}{n:Nat}
def zsM:SV:=by walk_at "#y6sVy7w2w2tGy8u)uyw3)trsUx^4Cy9slt5ve)!t5vf)8<"
theorem zhJ:zhk=(zan (zaA (eFn zbg (zac (zcE "Reader" "top" za9 (zad 1) zaj) (zac (zcE "Reader" "kept" zaP (zad 1) zaj) zaj))) (gN 3))
 (zan (zaA (eFn zaJ (zac (zad 0) (zac (eFn zcA (zac (eOp zbb (zad 2) (eC (.str "0"))) (zac (eSl (zad 2) zd1 (zb9 (eUn zn0 (eC (.int 1))))) (zac (eC (.str "")) (zac (eC .non) (zac (eC (.int 7)) (zac (eFn zcA (zac (zad 2) zaj)) (zac (eOp zbb (zad 2) (eC (.str "1"))) zaj)))))))) zaj))) (gN 4)) zsM)):=rfl
theorem zoj{x:D}{hl:List (Int×List Int)}{X:Option D}(rr:RdAt m k h pt top hl)(hn:(ksH hl).Nodup)(hq:za7 [pt.e,x] m = .exc ⟨"NoLetter", []⟩ m)(hi:m[i]?=aa (.dct (hlD hl))) : Run ((zsM [X,aa (.ob k),x2,aa (.tup [zcb top,.ob i]),aa x] m).bind zeG) fun a m'=>a = .bl ac/\∃y,m'=m++y:=by
 unfold zsM;rw[tryX0 (c:=⟨"NoLetter", []⟩) (m1:=m) (dropX (d := .ob k) (ds:=[x]) (m1:=m) (m2:=m) rfl (rr.meth rfl) rfl (readX rr hq)) (by decide)];erw [if_pos (rr.meth rfl)];erw [zoz rr];erw [if_pos (rr.meth rfl)];erw [zlf rr];ac_nf;have hs:zgv (.ob m.length) (.ob i) (m++[.dct (hlD hl)])=ac:=by
  unfold zgv dOf;simp only[zc7 (m:=m) (o := .dct (hlD hl)) rfl,zc8 hi];exact zjA (yc3 hl) hn
 rw[show eqT (.tup [zcb top,.ob m.length]) (.tup [zcb top,.ob i]) (m++[.dct (hlD hl)]) = .ok (.bl ac) (m++[.dct (hlD hl)]) from if_pos (by unfold zou;simp only[zts,hs];rfl)];ac_nf;exact Run.ok ⟨rfl,_,rfl⟩
theorem zsL(x:St34 m p q c k h d r s j pt top bk ps)(ok:PtOk pt)(t:HdOk pt.fs hd)(z:c<2^40) : Run (zcp [.ob p,.ob k,.str ⟨(ltL pt none n hd).toArray⟩] m) fun a m'=>a = .bl ac/\St34 m' p q (c+1) k h d r s j pt top bk ps:=by
 obtain⟨hl,rr,g,o,_⟩:=x.st.rr;have hl1:=zpB (at':=none) (number:=n) ok trivial t;have A:=zj2 ok.w (at':=none) trivial;have nox:=fun m'=>no34_x (n:=n) (m:=m') ok t;unfold no34 at nox;generalize ltL pt none n hd=l at hl1 nox ⊢;have w:l.length<=700:=by omega
 unfold zcp;rw[zhJ];erw [if_pos (rr.meth rfl)];erw [zoz rr];erw [if_pos (rr.meth rfl)];erw [zlf rr];ac_nf;have x1:=x.app (y:=[.dct (hlD hl)]);have R:=rr.app (r:=[.dct (hlD hl)]);have N:(m++[.dct (hlD hl)])[m.length]?=aa (.dct (hlD hl)):=zc7 rfl;have b:=x.st.bx.lt;generalize m++[.dct (hlD hl)]=m1 at x1 R N ⊢;generalize m.length=i at N b ⊢;rw[ofs0,add_str (by simp;omega)];erw [neg_1];erw [zsT (by omega) (by omega)];erw [gl34 (by simp)];erw [ofs1,add_str (by simp;omega)];erw [gl34 (by simp)];erw [ofsE];refine Run.bind (zcf x1.st.bx z (by simp) (by simp)) ?_;rintro v m2 ⟨u,H⟩;have x2:=x1.box H;have e:=R.fr H.fr x.st.ne.kp x.st.ne.kq x.st.ne.hp x.st.ne.hq;have f:=H.kept N (by omega) (by omega);ac_nf;refine Run.mono (zoj e o (nox m2 v u) f) ?_;rintro _ _ ⟨rfl,y,rfl⟩;exact⟨rfl,x2.app⟩
end
variable{N:Nat}
section
variable{k:Nat}{pt:Pt}{top:Option Int}{hl bk:List (Int×List Int)}
def znY(pt:Pt)(at':Option Nat)(N:Nat):Int:=(N:Int)%2^(zaL pt at').b
def znf(pt:Pt)(at':Option Nat)(hd:List Int):List Nat:=pcK pt.fs (zaL pt at').wys hd pt.fs.length
theorem lt34:ltL pt at' N hd=ltB pt at' (dgs (znY pt at' N) (zaL pt at').b++znf pt at' hd) (ckI pt N hd):=by
 unfold ltL ltB;simp only[yX];rfl
theorem LtB34(h:PtOk pt)(ha:zfE pt at')(a:HdOk pt.fs hd):LtB pt at' (dgs (znY pt at' N) (zaL pt at').b++znf pt at' hd) (ckI pt N hd):=by
 have H:=zdL h.w ha;have hl:=zcK H.wy a pt.fs.length (yc _);refine⟨ha,(zeE _ _).app (ziN _),?_,yQ _ (Int.ne_of_gt h.n0),yV _ h.n0⟩;unfold znf;rw[yj,zaD,hl];unfold zeF;rw[yae (by have:=zb2 H.wy;omega)]
theorem read34(x:RdAt m k h pt top hl)(ok:PtOk pt)(ha:zfE pt at')(b:HdOk pt.fs hd)(H:hl.length<63)(hn:(ksH hl).Nodup)(a:∀p∈hl,HdOk pt.fs p.2) : Run (puF zaI [.ob k,.str ⟨(ltL pt at' N hd).toArray⟩] m) (RdB m k h pt (rdV pt top hl at' (znY pt at' N) (znf pt at' hd) (ckI pt N hd))):=by
 have d:zc0 (dgs (znY pt at' N) (zaL pt at').b)=znY pt at' N:=by rw[zeL];exact Int.emod_emod_of_dvd _ (Int.dvd_refl _)
 have R:=zq0 (at':=at') (num:=dgs (znY pt at' N) (zaL pt at').b) (bits:=znf pt at' hd) (ck:=ckI pt N hd) x ok.w (LtB34 ok ha b) (by rw[zaD]) H hn a (fun _ _ c=>zeX ok ha b a c);rw[d]at R;rw[lt34];exact zsZ zs5 R
theorem ztG(h:PtOk pt)(ha:zfE pt at')(H:HdOk pt.fs hd):zcW [pt.e,onD at',.int N,zco hd] m = .ok (.tup [onD at',.int (znY pt at' N),.str ⟨(znf pt at' hd).toArray⟩,.int (ckI pt N hd)]) m:=by
 have a:=zdL h.w ha;have b:=a.b1;apply zav;unfold zcW zh7;cases at' with
 |none=>
  simp only[onD];erw [zpT];erw [zlH];erw [zg6 h H];erw [zcz (by have:=h.w1;omega)];erw [zbm (p2 _)];erw [zlH];erw [zcR h H];ac_nf;exact Run.ok ⟨rfl,rfl⟩
 |some i=>
  simp only[onD];erw [zpT];erw [zea];erw [zg9 ha];erw [show ixD (zaL pt (aa i)).e (.int 2) m = .ok (.tup ((zaL pt (aa i)).wys.map Wy.e)) m from ix_t2 _ _ _ _];erw [zea];erw [zg9 ha];erw [show ixD (zaL pt (aa i)).e (.int 1) m = .ok (.int (zaL pt (aa i)).b) m from ix_t1 _ _ _];erw [zlH];erw [show zaX [shD pt.fs pt.n,.tup ((zaL pt (aa i)).wys.map Wy.e),zco hd] m = .ok (.str ⟨(pcK pt.fs (zaL pt (aa i)).wys hd pt.fs.length).toArray⟩) m from zjI h.sh.ok h.f1 a.wy H];erw [zcz (by omega)];erw [zbm (p2 _)];erw [zlH];erw [zcR h H];ac_nf;exact Run.ok ⟨rfl,rfl⟩
theorem same34(h:PtOk pt)(ha:zfE pt at')(a:HdOk pt.fs hd)(H:∀p∈bk,HdOk pt.fs p.2)(b:bits=znf pt at' hd):zcl [(lrV pt top bk at' r0 bits ck).1,(lrV pt top bk at' r0 bits ck).1] m = .ok (.bl ac) m:=by
 unfold lrV;split
 ·exact zgg
 ·unfold lrN;split
  ·exact zgg
  ·split
   ·exact zsW
   ·split
    ·exact zgg
    ·rename_i c;split
     ·exact zgg
     ·refine zsY ?_;have:=zeX (n:=zjT pt top at' r0) h ha a H (by
       by_cases z:at'=none
       ·exact .inl z
       ·right;cases e:zf9 bk (zjT pt top at' r0) (zaL pt at').a with
        |false=>rfl|true=>exact absurd ⟨z,e⟩ c)
      rw[b];unfold znf;rw[this.len];have:=h.f1;omega
theorem eq_opt{o:Option Int}:eqD (zcb o) (zcb o) m = .ok (.bl ac) m:=by
 cases o with
 |none=>rfl|some i=>simp only[zcb];exact congrArg (fun b=>Res.ok (D.bl b) m) (decide_eq_true rfl)
theorem zuv{x y:Nat}{a b:List (L2.Key×D)}(h1:m[x]?=aa (.dct a))(H:m[y]?=aa (.dct b))(h:zfH a b=ac):eqK (.ob x) (.ob y) m = .ok (.bl ac) m:=by
 unfold eqK zgv dOf;simp only[h1,H,h,if_true]
end
variable{x13:Option D}
section
variable{k d:Nat}{pt:Pt}{top:Option Int}{bk:List (Int×List Int)}
def o34e:SV:=by walk_at "#4x#Ct$sYvevJu_u+CyAsYvfvJu_t^"
def o34d:SV:=by walk_at "#uTuyy<w31t)vV2y=uasLvUW!uQKs's)s'fs's*s3vRy>w_+y?OLt4gs)gfgs*8tS|'"
def o34c:SV:=by walk_at "#tysIvdtFt$sSssu`xdy;]ru]tS"
def o34b:SV:=by walk_at "#2y:uasLvUW[EY|(|)"
def o34a:SV:=by walk_at "#tysIu_vgvLsStIu`s1^v>D"
theorem zhm:zfX=(zan (zaA (eFn zaJ (zac (zad 0) (zac (eFn zcA (zac (eC (.int 0)) (zac (eC (.int 0)) (zac (eC (.int 0)) (zac (eC (.int 1)) (zac (eC (.int 2)) (zac (eC (.int 4)) (zac (eFn zaz (zac (zad 0) (zac (eFn zew (zac (zad 4) zaj)) zaj))) zaj)))))))) zaj))) (gN 5))
 (zan (zaA (eFn zi4 (zac (eC (.int 0)) (zac (eOp zdO (eOp zdO (eFn zew (zac (zad 4) zaj)) (eC (.int 1))) (zad 5)) zaj))) (gN 6))
 (zan (zaA (eFn zaJ (zac (zad 0) (zac (eOp zbb (eFn zcA (zac (eC .non) zaj)) (eOp mulL (eFn zpC (zac (eFn zew (zac (eOp ixD (zad 1) (eC (.int 2))) zaj)) zaj)) (eC (.int 4)))) zaj))) (gN 7))
 (zan o34a o34b)))):=rfl
def oneP(p q c k s j:Nat)(pt:Pt)(d r:Nat)(ps:List (List Int))(a:D)(m':Sto):Prop:=a = .bl ac/\∃(h':Nat)(t:Option Int)(b:List (Int×List Int)),St34 m' p q c k h' d r s (j+1) pt t b ps
theorem zi1(x:St34 m p q c k h d r s j pt top bk ps)(ok:PtOk pt)(ha:zfE pt at')(hN:N<ps.length)(E:∀y∈ps,HdOk pt.fs y)(hj:j<=55) : Run ((o34d [aa (.ob p),aa pt.e,aa (.ob k),aa (.ob d),aa (.ob s),x5,aa (.int N),aa (onD at'),aa (.str ⟨(ltL pt at' N ps[N]).toArray⟩),x9,x10,x11,x12,x13] m).bind zeG) (oneP p q c k s j pt d r ps):=by
 have t:HdOk pt.fs ps[N]:=E _ (yaB hN);obtain⟨hl,rr,H,b,D,f,Y⟩:=x.st.rr;have g:∀p∈bk,HdOk pt.fs p.2:=fun p I=>f p (H.mem_iff.mpr I);have i:∀{m:Sto},m[s]?=aa (.lst (ps.map zco))->ixD (.ob s) (.int N) m = .ok (zco ps[N]) m:=fun e=>ix_ob e (by rw[yz,yh hN];rfl);unfold o34d;erw [if_pos (rr.meth rfl)];ac_nf;obtain⟨o,C1,J,C3,C4,C5,C6⟩:=conn34 (top:=top) (r0:=znY pt at' N) (ck:=ckI pt N ps[N]) (bits:=znf pt at' ps[N]) ok ha t rfl H b D f;have R:=read34 (N:=N) rr ok ha t (by omega) b f;rw[C1]at R;refine Run.bind R ?_;rintro _ U ⟨h',rfl,x3,f3,a⟩;have Z:d<m.length:=(ye.mp x.st.md).1;have W:r<m.length:=(ye.mp x.st.kp).1;have V:s<m.length:=(ye.mp x.ps).1;have X:=x.st.bx.lt;have e:=x.st.ne;obtain⟨s1,s2,T,Q,O,L⟩:=x.ns;have n:Ne36 p q k h' d r:=by
  rcases a with rfl|a
  ·exact e
  ·exact⟨e.kp,e.kq,by omega,by omega,e.dp,e.dq,e.rp,e.rq,e.dk,by omega,e.rk,by omega,e.dr⟩
 have v:s≠h':=by
  rcases a with rfl|a
  ·exact Q
  ·omega
 have G:P3 U p q c U:=x.st.bx.fr2 f3 e.kp e.kq e.hp e.hq;have A:=f3.keep x.st.md e.dk e.dh;have C:=f3.keep x.st.kp e.rk e.rh;have P:=f3.keep x.ps T Q;have hlb:bk.length=hl.length:=H.length_eq.symm;erw [i P];erw [ztG ok ha t];ac_nf;refine Run.bind (zlE (hd:=ps[N]) (at':=at') (r0:=znY pt at' N) (ck:=ckI pt N ps[N]) (bits:=znf pt at' ps[N]) A C e.dr (by omega) ((zb3 H).nodup_iff.mp b) ok ha t g rfl) ?_;have l:∀m',zcl [(lrV pt top bk at' (znY pt at' N) (znf pt at' ps[N]) (ckI pt N ps[N])).1,(lrV pt top bk at' (znY pt at' N) (znf pt at' ps[N]) (ckI pt N ps[N])).1] m' = .ok (.bl ac) m':=fun m'=>same34 ok ha t g rfl;generalize lrV pt top bk at' (znY pt at' N) (znf pt at' ps[N]) (ckI pt N ps[N])=w at x3 J l ⊢;rintro _ B ⟨rfl,M,K,f4⟩;have x4:=x3.fr f4 (Ne.symm e.dk) (Ne.symm e.rk) (Ne.symm n.dh) (Ne.symm n.rh);have F:P3 B p q c B:=G.fr2 f4 e.dp e.dq e.rp e.rq;have z:=f4.keep P O L;erw [l];unfold o34e;erw [if_pos (x4.meth rfl)];erw [zoz x4];erw [zbf M (zhr _ _)];erw [eq_opt];erw [if_pos (x4.meth rfl)];erw [zlf x4];ac_nf;have u:St34 B p q c k h' d r s (j+1) pt w.2.1 w.2.2 ps:=⟨⟨⟨o,x4,J,C3,C4,C5,by omega⟩,F,M,K,n⟩,z,s1,s2,T,v,O,L⟩;have S:=u.app (y:=[.dct (hlD o)]);rw[zbf S.st.md (zdM _ _)];erw [zuv (zc7 rfl) S.st.kp (zjA J C3)];ac_nf;exact Run.ok ⟨rfl,h',_,_,S⟩
theorem zrp(x:St34 m p q c k h d r s j pt top bk ps)(ok:PtOk pt)(ha:zfE pt at')(a:N<ps.length)(H:∀y∈ps,HdOk pt.fs y)(f:j<=55)(n:c+2<2^40) : Run ((o34b [aa (.ob p),aa pt.e,aa (.ob k),aa (.ob d),aa (.ob s),x5,aa (.int N),aa (onD at'),x8,x9,x10,x11,x12,x13] m).bind zeG) (oneP p q (c+2) k s j pt d r ps):=by
 have g:HdOk pt.fs ps[N]:=H _ (yaB a);have I:∀{m:Sto},m[s]?=aa (.lst (ps.map zco))->ixD (.ob s) (.int N) m = .ok (zco ps[N]) m:=fun e=>ix_ob e (by rw[yz,yh a];rfl);unfold o34b;erw [I x.ps];erw [zpI ok ha g];ac_nf;cases at' with
 |some i=>
  have D:=zi1 (at':=aa i) (x5:=x5) (x9:=x9) (x10:=x10) (x11:=x11) (x12:=x12) (x13:=x13) (x.more (c':=c+2) (by omega)) ok ha a H f;unfold o34c;simp only[onD]at D ⊢;ac_nf;exact D
 |none=>
  unfold o34c;simp only[onD];ac_nf;refine Run.bind (zaS x.st.bx (by omega) (by decide) (by decide)) ?_;rintro _ m1 ⟨u,rfl,l,U,b⟩;have x1:=x.box b;ac_nf;by_cases C:u=0
  ·rw[if_pos C];ac_nf;refine Run.bind (zsL x1 ok g (by omega)) ?_;rintro _ m2 ⟨rfl,x2⟩;ac_nf;exact zi1 (at':=none) (x5:=x5) (x9:=x9) (x10:=x10) (x11:=x11) (x12:=x12) (x13:=x13) x2 ok ha a H f
  ·rw[if_neg C];ac_nf;exact zi1 (at':=none) (x5:=x5) (x9:=x9) (x10:=x10) (x11:=x11) (x12:=x12) (x13:=x13) (x1.more (by omega)) ok ha a H f
end
theorem mulL34{a:List D}(h:0<=n/\n<=100000/\a.length*n.toNat<=sizeLine):mulL (.lst a) (.int n) m = .ok (.lst (yd n.toNat a).flatten) m:=if_pos h
section
variable{k d:Nat}{pt:Pt}{top:Option Int}{bk:List (Int×List Int)}
theorem at34{n:Nat}{v:D}(h:v∈[D.non]++(yd 4 (zcc 0 n)).flatten):∃at':Option Nat,v=onD at'/\(∀i,at'=aa i->i<n):=by
 rcases yJ.mp h with h|h
 ·exact⟨none,yE.mp h,fun i hi=>(nomatch hi)⟩
 ·obtain⟨l,hl,a⟩:=List.mem_flatten.mp h;rw[(ybD.mp hl).2]at a;obtain⟨i,hi⟩:=ybB.mp a;have H:=(ye.mp hi).1;rw[zaU]at H;exact⟨aa i,zlW hi,fun I e=>by cases e;exact H⟩
theorem zrq(x:St34 m p q c k h d r s j pt top bk ps)(ha:zfE pt at')(b:c+1<2^40) : Run (o34a [aa (.ob p),aa pt.e,aa (.ob k),aa (.ob d),aa (.ob s),x5,aa (.int N),aa (onD at'),x8,x9,x10,x11,x12,x13] m) fun f m'=>∃a2:Option Nat,zfE pt a2/\f = .nx [aa (.ob p),aa pt.e,aa (.ob k),aa (.ob d),aa (.ob s),x5,aa (.int N),aa (onD a2),x8,x9,x10,x11,x12,x13]/\St34 m' p q (c+1) k h d r s j pt top bk ps:=by
 unfold o34a;erw [zbf x.st.md (zhr _ _)];cases top with
 |some t=>
  simp only[zcb];ac_nf;exact Run.ok ⟨at',ha,rfl,x.more (by omega)⟩
 |none=>
  simp only[zcb];ac_nf;refine Run.bind (zaS x.st.bx (by omega) (by decide) (by decide)) ?_;rintro _ m1 ⟨u,rfl,a,U,H⟩;have x1:=x.box H;ac_nf;by_cases C:u>0
  ·rw[if_pos C];ac_nf;exact Run.ok ⟨none,trivial,rfl,x1⟩
  ·rw[if_neg C];ac_nf;exact Run.ok ⟨at',ha,rfl,x1⟩
theorem zlj(x:St34 m p q c k h d r s j pt top bk ps)(ok:PtOk pt)(h0:0<ps.length)(h1:ps.length<=1000)(b:∀y∈ps,HdOk pt.fs y)(o:j<=55)(F:c+10<2^40) : Run (zbZ [.ob p,pt.e,.ob k,.ob d,.ob s] m) (oneP p q (c+6) k s j pt d r ps):=by
 unfold zbZ;rw[zhm];erw [zsf x.ps,yg];ac_nf;refine Run.bind (zaS x.st.bx (by omega) (by omega) (by omega)) ?_;rintro _ m1 ⟨u,rfl,A,U,g⟩;have x1:=x.box g;erw [gl34 (by simp)];ac_nf;refine Run.bind (zcf x1.st.bx (by omega) (by simp) (by simp)) ?_;rintro v m2 ⟨a,f⟩;have x2:=x1.box f;obtain⟨y,rfl,Y⟩:∃y:Int,v = .int y/\0<=y:=by
  simp only[yn,yF,or_false]at a;rcases a with rfl|rfl|rfl|rfl|rfl|rfl|rfl <;> exact⟨_,rfl,by omega⟩
 erw [zsf x2.ps,yg];ac_nf;obtain⟨N,E,z⟩:∃N:Nat,(if (ps.length:Int)-1-y>0 then (ps.length:Int)-1-y else 0)=(N:Int)/\N<ps.length:=by
  split
  ·exact⟨((ps.length:Int)-1-y).toNat,by omega,by omega⟩
  ·exact⟨0,rfl,h0⟩
 rw[E,gl34 (by simp)];erw [zea];ac_nf;have w:=ok.fml;rw[yg,show zpC [.int (pt.fms.length:Nat)] m2 = .ok (.lst (zcc 0 (pt.fms.length:Int).toNat)) m2 from if_pos ⟨by omega,by omega⟩,yax];erw [mulL34 ⟨by decide,by decide,by rw[zaU];exact yah (zbr (by show pt.fms.length*4<1000;omega))⟩];erw [show (4:Int).toNat=4 from rfl];have H:((yd 4 (zcc 0 pt.fms.length)).flatten).length=4*pt.fms.length:=by
  rw[List.length_flatten,yd5,zaU,List.sum_replicate_nat]
 rw[add_ll (by rw[H];show 1+4*pt.fms.length<=1000;omega)];ac_nf;refine Run.bind (zcf x2.st.bx (by omega) (by simp) (by rw[yt];have:=H;rw[show yd 4 (zcc 0 pt.fms.length)=[zcc 0 pt.fms.length,zcc 0 pt.fms.length,zcc 0 pt.fms.length,zcc 0 pt.fms.length] from rfl]at this;omega)) ?_;rintro v D ⟨a,e⟩;have x3:=x2.box e;obtain⟨at',rfl,l⟩:=at34 a;have ha:zfE pt at':=by
  cases at' with
  |none=>trivial|some i=>exact l i rfl
 ac_nf;refine Run.bind (zrq x3 ha (by omega)) ?_;rintro _ C ⟨a2,n,rfl,x4⟩;ac_nf;refine Run.mono (zrp x4 ok n z b o (by omega)) ?_;rintro _ M ⟨rfl,h',t,B,x5⟩;exact⟨rfl,h',t,B,x5.more (by omega)⟩
end
def f34:SV:=by walk_at "#sftQ%wjL0yBu`xeyCyDc!s1|*MFD"
def a34:SV:=by walk_at "#uIuzuR+yFLOsrKvMtv8"
def g34:SV:=by walk_at "#u*t2+usLu:s6s6s6dx]tI0F8[f|+"
def n34:SV:=by walk_at "#Y|,vRyEuau^t4!tS|-"
theorem znM:zp5=(zan (zaA (eFn zfw (zac (zad 0) zaj)) (gN 1))
 (zan (zgI (zmX zle (zac (eC (.int 3)) zaj)) (gN 2)
 (zan (zaA (eFn zdb (zac (zad 1) (zac (eFn zaJ (zac (zad 1) (zac (eFn zcA (zac (eC (.int 4)) (zac (eC (.int 4)) (zac (eC (.int 12)) zaj)))) zaj))) zaj))) (gT 4 (zaC (gN 3) (zaC (gN 4) (zaC (gN 5) (zaC (gN 6) zc6))))))
 (zan (zaA (eFn zbg (zac (zad 3) (zac (zad 4) (zac (eOp zbb (eSlA (zad 5) zd1 (zb9 (eC (.int 4)))) (eFn zbg (zac (eFn zbT (zac (zad 1) (zac (zad 3) zaj))) zaj))) (zac (zad 6) zaj))))) (gN 7))
 (zan (zov 8 9 (zac (eFn (mkM "Reader" zbX) (zac (zad 7) zaj)) (zac d33 zaj)))
 (zan (zaA (eFn zkg (zac (eFn zb1 (zac (zad 1) (zac (zad 3) zaj))) zaj)) (gN 10))
 (zgI (zmX zle (zac (eFn zaJ (zac (zad 1) (zac (eFn zcA (zac (eC (.int 8)) (zac (eC (.int 20)) (zac (eC (.int 40)) zaj)))) zaj))) zaj)) (gN 11) n34))))))
 (zaE (eC (.bl ac))))):=rfl
section
variable{k d:Nat}{pt:Pt}{top:Option Int}{bk:List (Int×List Int)}{sc d4 d5:D}
structure Ps34(pt:Pt)(ps:List (List Int))(j:Nat):Prop where
 h0:0<ps.length
 h1:ps.length<=1+9*j
 ok:∀y∈ps,HdOk pt.fs y
theorem zus(x:St34 m p q c k h d r s j pt top bk ps)(A:c+1<2^40) : Run (f34 [aa sc,aa (.ob p),aa d2,aa (shD pt.fs pt.n),aa d4,aa d5,aa d6,aa pt.e,aa (.ob k),aa (.ob d),aa (.ob s),x11,x12] m) fun F m'=>∃(h' d' R:Nat)(t:Option Int)(b:List (Int×List Int)),F = .nx [aa sc,aa (.ob p),aa d2,aa (shD pt.fs pt.n),aa d4,aa d5,aa d6,aa pt.e,aa (.ob k),aa (.ob d'),aa (.ob s),x11,x12]/\St34 m' p q (c+1) k h' d' R s j pt t b ps:=by
 unfold f34;ac_nf;refine Run.bind (zaS x.st.bx (by omega) (by decide) (by decide)) ?_;rintro _ m1 ⟨z,rfl,u,Z,a⟩;have x1:=x.box a;ac_nf;by_cases g:z=0
 ·rw[if_pos g];obtain⟨hl,rr,_⟩:=x1.st.rr;erw [if_pos (rr.meth rfl)];ac_nf;refine Run.bind (znN rr) ?_;rintro _ m2 ⟨rfl,y,f⟩;have e:=x1.st.ne;obtain⟨s1,s2,S,i,w,v⟩:=x.ns;have H:P3 m2 p q (c+1) m2:=x1.st.bx.fr2 f e.kp e.kq e.hp e.hq;have o:=x1.st.bx.lt;have P:=f.keep x1.ps S i;have n:s<m1.length:=(ye.mp x1.ps).1;have l:s<m2.length:=(ye.mp P).1;erw [d33_w];ac_nf;exact Run.ok ⟨_,_,_,_,_,rfl,St33.new (h':=0) y H ⟨e.kp,e.kq⟩ ⟨by omega,by omega⟩,zc8 (zc8 P),s1,s2,S,by omega,by omega,by omega⟩
 ·rw[if_neg g];exact Run.ok ⟨_,_,_,_,_,rfl,x1⟩
theorem zuF(x:St34 m p q c k h d r s j pt top bk ps)(ok:PtOk pt)(o:c+40<2^40)(a:0<ps.length)(b:∀y∈ps,HdOk pt.fs y)(hl:ps.length<=900) : Run (a34 [aa sc,aa (.ob p),aa d2,aa (shD pt.fs pt.n),aa d4,aa d5,aa d6,aa pt.e,aa (.ob k),aa (.ob d),aa (.ob s),x11,x12] m) fun F m'=>∃H,HdOk pt.fs H/\F = .nx [aa sc,aa (.ob p),aa d2,aa (shD pt.fs pt.n),aa d4,aa d5,aa d6,aa pt.e,aa (.ob k),aa (.ob d),aa (.ob s),x11,x12]/\St34 m' p q (c+40) k h d r s j pt top bk (ps++[H]):=by
 obtain⟨Q,y,rfl⟩:∃Q y,ps=Q++[y]:=⟨ps.dropLast,ps.getLast (by intro z;rw[z]at a;simp at a),(List.dropLast_concat_getLast _).symm⟩;unfold a34;erw [if_pos (zmz x.ps)];erw [neg_1];erw [zuj (xs:=Q.map zco) (d:=zco y) (by rw[x.ps,yN];rfl)];ac_nf;refine Run.bind (zjX (calm:=8) x.st.bx (by omega) ok.sh.ok ok.f1 (b y (by simp)) (by decide) (by decide)) ?_;rintro _ m1 ⟨H,rfl,n,f⟩;have x1:=x.box f;erw [zmV x1.ps (by rw[yg];exact zbr (by omega))];ac_nf;obtain⟨s1,s2,l,i,g,S⟩:=x.ns;have f2:Fr s s m1 (m1.set s (.lst ((Q++[y]).map zco++[zco H]))):=Fr.set;obtain⟨hl2,rr,R⟩:=x1.st.rr;have e:=x1.st.ne;refine Run.ok ⟨H,n,rfl,⟨⟨hl2,rr.fr f2 (Ne.symm l) (Ne.symm l) (Ne.symm i) (Ne.symm i),R⟩,x1.st.bx.fr2 f2 s1 s2 s1 s2,f2.keep x1.st.md (Ne.symm g) (Ne.symm g),f2.keep x1.st.kp (Ne.symm S) (Ne.symm S),e⟩,?_,x.ns⟩;rw[zbw x1.ps,yN (l₁ := Q++[y])];rfl
theorem zun(x:St34 m p q c k h d r s (j+1) pt top bk ps)(ok:PtOk pt)(P:Ps34 pt ps j)(t:j<=45)(u:c+400<2^40) : Run (g34 [aa sc,aa (.ob p),aa d2,aa (shD pt.fs pt.n),aa d4,aa d5,aa d6,aa pt.e,aa (.ob k),aa (.ob d),aa (.ob s),x11,x12] m) fun F m'=>∃(a:List (List Int))(Y:Option D),Ps34 pt a (j+1)/\F = .nx [aa sc,aa (.ob p),aa d2,aa (shD pt.fs pt.n),aa d4,aa d5,aa d6,aa pt.e,aa (.ob k),aa (.ob d),aa (.ob s),x11,Y]/\St34 m' p q (c+400) k h d r s (j+1) pt top bk a:=by
 unfold g34;erw [gl34 (by simp)];ac_nf;refine Run.bind (zpk [1,1,1,0,2,3,9] x.st.bx (by omega) (by simp) (by simp)) ?_;rintro _ m1 ⟨N,o,rfl,H⟩;have x1:=x.box H;have n:N<=9:=by
  simp only[yn,yF,or_false]at o;omega
 erw [zfI (by omega) (by omega)];ac_nf;have h1:=P.h1;refine Run.mono (zaT (fun i ρ m'=>∃(a:List (List Int))(Y:Option D),ρ = [aa sc,aa (.ob p),aa d2,aa (shD pt.fs pt.n),aa d4,aa d5,aa d6,aa pt.e,aa (.ob k),aa (.ob d),aa (.ob s),x11,Y]/\a.length=ps.length+i/\(∀y∈a,HdOk pt.fs y)/\St34 m' p q (c+1+40*i) k h d r s (j+1) pt top bk a) _ 0 ⟨ps,_,rfl,rfl,P.ok,x1⟩ ?_) ?_
 ·rintro i dd ρ m2 e ⟨a,Y,rfl,hl,hok,x2⟩;have hi:=(ye.mp e).1;rw[zaU]at hi;rw[yq]at hl x2 ⊢;have b:=P.h0;ac_nf;refine Run.mono (zuF x2 ok (by omega) (by omega) hok (by omega)) ?_;rintro _ M ⟨f,l,rfl,x3⟩;refine⟨_,rfl,a++[f],_,rfl,by rw[yj,hl];rfl,fun y g=>?_,x3.more (by omega)⟩;rcases yJ.mp g with z|z
  ·exact hok y z
  ·rw[yE.mp z];exact l
 ·rintro _ m2 ⟨ρ,rfl,a,Y,rfl,hl,hok,x2⟩;rw[zaU,yq]at hl x2;have b:=P.h0;exact⟨a,Y,⟨by omega,by omega,hok⟩,rfl,x2.more (by omega)⟩
theorem zt1(x:St34 m p q c k h d r s j pt top bk ps)(ok:PtOk pt)(P:Ps34 pt ps j)(H:j<=45)(i:c+1000<2^40) : Run (n34 [aa sc,aa (.ob p),aa d2,aa (shD pt.fs pt.n),aa d4,aa d5,aa d6,aa pt.e,aa (.ob k),aa (.ob d),aa (.ob s),x11,x12] m) fun f m'=>∃(h' d' R:Nat)(t:Option Int)(b:List (Int×List Int))(a:List (List Int))(y:Option D),f = .nx [aa sc,aa (.ob p),aa d2,aa (shD pt.fs pt.n),aa d4,aa d5,aa d6,aa pt.e,aa (.ob k),aa (.ob d'),aa (.ob s),x11,y]/\Ps34 pt a (j+1)/\St34 m' p q (c+500) k h' d' R s (j+1) pt t b a:=by
 have h1:=P.h1;unfold n34;ac_nf;refine Run.bind (zus x (by omega)) ?_;rintro _ m1 ⟨h',d',R,t,b,rfl,x1⟩;ac_nf;refine Run.bind (zlj x1 ok P.h0 (by omega) P.ok (by omega) (by omega)) ?_;rintro _ m2 ⟨rfl,e,T,B,x2⟩;ac_nf;refine Run.mono (zun x2 ok P H (by omega)) ?_;rintro _ M ⟨a,y,g,rfl,x3⟩;exact⟨e,d',R,T,B,a,y,rfl,g,x3.more (by omega)⟩
end
theorem zlD(hn:ns.length<=63):Run (zmG [.scr (ns.map D.int)] []) fun a _=>a = .bl ac:=by
 unfold zmG;rw[znM];ac_nf;refine Run.bind (zuB hn) ?_;rintro _ m1 ⟨p,q,rfl,J⟩;erw [zfI (by decide) (by decide)];ac_nf;refine Run.bind (zaT (fun k ρ m'=>∃(x2 x3 x4 x5 x6 x7 X x9 x10 x11 x12:Option D),ρ = [aa (.scr (ns.map D.int)),aa (.ob p),x2,x3,x4,x5,x6,x7,X,x9,x10,x11,x12]/\P3 m' p q (100000*k) m') (zcc 0 (3:Int).toNat) 0 ⟨_,_,_,_,_,_,_,_,_,_,_,rfl,J.re⟩ ?_) ?_
 ·rintro i d ρ m2 hd ⟨x2,x3,x4,x5,x6,x7,X,x9,x10,x11,x12,rfl,U⟩;have hi:=(ye.mp hd).1;rw[zaU]at hi;have hi3:i<3:=hi;rw[yq]at U ⊢;ac_nf;refine Run.bind (zpk [4,4,12] U (by omega) (by simp) (by simp)) ?_;rintro _ m2b ⟨most,g,rfl,u⟩;have hm12:0<most/\most<=12:=by
   simp only[yn,yF,or_false]at g;omega
  ac_nf;refine Run.bind (zrl (most:=most) u.re (by omega) hm12.1 hm12.2) ?_;rintro _ Z ⟨b,rfl,H,I⟩;unfold Pt.e;erw [slA_t,show (4:Int)=((4:Nat):Int) from rfl,zsv,<- List.map_take];ac_nf;refine Run.bind (zks I.re (by omega) H.sh.ok H.f1) ?_;rintro _ m ⟨fm,rfl,O,o⟩;erw [zuE (by rw[yg,yap];exact yah (zbr (by simp;omega)))];erw [zn9 (by simp)];obtain⟨pt,E,e⟩:∃pt:Pt,pt=⟨b.fs,b.n,b.wide,b.fms.take 4++[fm],b.rd⟩/\PtOk pt:=⟨_,rfl,⟨H.n0,H.n1,H.f0,H.f1,H.sh,H.w0,H.w1,fun f hf=>by
   rcases yJ.mp hf with z|z
   ·exact H.fm f (ybZ z)
   ·rw[yE.mp z];exact O,by rw[yj,yap];show min 4 _+1<=12;omega,H.rd⟩⟩
  have R:D.tup [shD b.fs b.n,.int b.wide,.tup ((b.fms.take 4).map Fm.e++[fm.e]),b.rd.e]=pt.e:=by
   rw[E];unfold Pt.e;rw[yN];rfl
  have Q:shD b.fs b.n=shD pt.fs pt.n:=by rw[E]
  rw[R,Q];generalize D.int (b.wide:Int)=d4;generalize D.tup (b.fms.map Fm.e)=d5;generalize b.rd.e=d6;ac_nf;refine Run.bind (zs3 pt m) ?_;rintro _ m5 ⟨rfl,V,x,rfl⟩;have G:P3 (m++x) p q (100000*i+1+1000+62) (m++x):=((o.re).app).re;have K:=o.re.lt;erw [d33_w];have x5:=St33.new (h':=0) (j:=0) V G ⟨by omega,by omega⟩ ⟨by omega,by omega⟩;have v:(m++x).length+2=(m++x++[MO.dct (hlD [])]++[MO.dct (bkL none (m++x).length)]).length:=by simp[Nat.add_assoc]
  have A:=V.lt;generalize m++x++[.dct (hlD [])]++[.dct (bkL none (m++x).length)]=m6 at x5 v ⊢;generalize (m++x).length=r at x5 v A ⊢;generalize m.length=k at x5 K A ⊢;ac_nf;refine Run.bind (zl0 x5.bx (by omega) e.sh.ok e.f1) ?_;rintro _ M ⟨c,rfl,L,n⟩;have x7:=x5.box n;have hl7:=n.fr.len;erw [new_1];have X:St34 (M++[.lst [zco c]]) p q (100000*i+1+1000+62+30) k (k+1) (r+1) r M.length 0 pt none [] [c]:=⟨x7.app,zc7 rfl,by omega,by omega,by omega,by omega,by omega,by omega⟩;generalize M++[.lst [zco c]]=m8 at X ⊢;generalize M.length=s at X ⊢;generalize k+1=h at X ⊢;generalize r+1=dd at X ⊢;ac_nf;refine Run.bind (zpk [8,20,40] X.st.bx (by omega) (by simp) (by simp)) ?_;rintro _ m9 ⟨N,hN,rfl,F⟩;have x9:=X.box F;have hN':N<=40:=by
   simp only[yn,yF,or_false]at hN;omega
  erw [zfI (by omega) (by omega)];ac_nf;refine Run.mono (zaT (fun j ρ m'=>∃(h dd r:Nat)(top:Option Int)(bk:List (Int×List Int))(ps:List (List Int))(x11 x12:Option D),ρ = [aa (.scr (ns.map D.int)),aa (.ob p),aa d,aa (shD pt.fs pt.n),aa d4,aa d5,aa d6,aa pt.e,aa (.ob k),aa (.ob dd),aa (.ob s),x11,x12]/\Ps34 pt ps j/\St34 m' p q (100000*i+1094+500*j) k h dd r s j pt top bk ps) _ 0 ⟨h,dd,r,none,[],[c],_,_,rfl,⟨by simp,by simp,fun y hy=>by rw[yE.mp hy];exact L⟩,x9⟩ ?_) ?_
  ·rintro j d' ρ C w ⟨h,dd,r,top,bk,ps,x11,x12,rfl,P,x10⟩;have hj:=(ye.mp w).1;rw[zaU]at hj;rw[yq]at P x10 ⊢;ac_nf;refine Run.mono (zt1 x10 e P (by omega) (by omega)) ?_;rintro _ m11 ⟨h',S,W,t,T,B,Y,rfl,P',l⟩;exact⟨_,rfl,h',S,W,t,T,B,_,_,rfl,P',l⟩
  ·rintro _ C ⟨ρ,rfl,h,dd,r,top,bk,ps,x11,x12,rfl,P,x10⟩;rw[zaU]at x10;exact⟨_,rfl,_,_,_,_,_,_,_,_,_,_,_,rfl,x10.st.bx.more (by omega)⟩
 ·rintro _ Z ⟨ρ,rfl,x2,x3,x4,x5,x6,x7,X,x9,x10,x11,x12,rfl,_⟩;ac_nf;exact Run.ok rfl
end MD
namespace K34
open PySem PyProof.Rows L2 MD
structure Txt(mg:ae->Option af):Prop where
 ValueError:mg "ValueError" = none
 sum:mg "sum" = none
 enumerate:mg "enumerate" = none
 max:mg "max" = none
 range:mg "range" = none
 tuple:mg "tuple" = none
 list:mg "list" = none
 isi:mg "isinstance" = none
 str:mg "str" = none
 len:mg "len" = none
 dict:mg "dict" = none
 min:mg "min" = none
 int:mg "int" = none
 all:mg "all" = none
 zip:mg "zip" = none
 sorted:mg "sorted" = none
 abs:mg "abs" = none
 bool:mg "bool" = none
structure TxC(K:yb)(cl:ae->ad):Prop where
 cReader:Cls K (cl "Reader")
 nReader_held:NoAttr K (cl "Reader") "held"
 nReader_highest:NoAttr K (cl "Reader") "highest"
 nReader_pact:NoAttr K (cl "Reader") "pact"
set_option maxHeartbeats 16000000
section
variable(P:aq)(w:al){K:yb}{mg:ae->Option af}(base:au){cl:ae->ad}{f:ad}{fd:aF}
theorem scAreBits:FnScope ["thing", "sign"] ["thing"] (zah ziF):=sco
theorem znu(F:Fun K "are_bits" "are_bits" ziF f fd)(b:Binds K fd ["thing"] [])(m:mg "are_bits" = aa (.ref f))(T:Txt mg)(TC:TxC K cl)(TX:TxE K cl ["HeadError", "NoLetter"] ["NoLetter"]):FnX P w K mg base cl "are_bits" 1 1 zb4 :=
 by walk_at "#e|.smx,x-|/uuy#sha|0ayGyHP7v#kubPsJA|1$uct}ud-sMt~ud-wgv#u!v#"
theorem scNumberOf:FnScope ["bits", "number", "sign"] ["bits"] (zah zgA):=sco
theorem zln(F:Fun K "number_of" "number_of" zgA f fd)(b:Binds K fd ["bits"] [])(m:mg "number_of" = aa (.ref f))(T:Txt mg)(TC:TxC K cl)(TX:TxE K cl ["HeadError", "NoLetter"] ["NoLetter"]):FnX P w K mg base cl "number_of" 1 1 za1 :=
 by walk_at "#e|2u#x.u$ubPsJ>x.$vhx.i`s_u/x/x0ax1x2sDtU-"
theorem scNumbersOf:FnScope ["bits", "widths", "numbers", "begin", "width"] ["bits", "widths"] (zah zfh):=sco
theorem zjO(F:Fun K "numbers_of" "numbers_of" zfh f fd)(b:Binds K fd ["bits", "widths"] [])(m:mg "numbers_of" = aa (.ref f))(T:Txt mg)(TC:TxC K cl)(TX:TxE K cl ["HeadError", "NoLetter"] ["NoLetter"])(hNumberOf:FnX P w K mg base cl "number_of" 1 1 za1):FnX P w K mg base cl "numbers_of" 2 2 zbY :=
 by walk_at "#|3A|4s#w4$x3#suw4u$ub-sJ/w4$qtew5w6x4x5x6w7x7.T|5HtfPt<Bt<bBV?s!9w4iBV7."
theorem scWidthFor:FnScope ["many", "width", "room"] ["many"] (zah zgx):=sco
theorem zll(F:Fun K "width_for" "width_for" zgx f fd)(b:Binds K fd ["many"] [])(m:mg "width_for" = aa (.ref f))(T:Txt mg)(TC:TxC K cl)(TX:TxE K cl ["HeadError", "NoLetter"] ["NoLetter"]):FnX P w K mg base cl "width_for" 1 1 zcv :=
 by walk_at "#e|6u#w8u$s#w8u$qx8uuu0w#s`.Ps&s#w8$`.&vhw8is_7-"
theorem zqS:FnScope ["number", "width"] ["number", "width"] (zah zk7):=sco
theorem zpd(F:Fun K "rest_of" "rest_of" zk7 f fd)(b:Binds K fd ["number", "width"] [])(m:mg "rest_of" = aa (.ref f))(T:Txt mg)(TC:TxC K cl)(TX:TxE K cl ["HeadError", "NoLetter"] ["NoLetter"]):FnX P w K mg base cl "rest_of" 1 2 zcL :=
 by walk_at "#e|77nPs$-"
theorem zm8:FnScope ["least", "rest", "width"] ["least", "rest", "width"] (zah zgw):=sco
theorem zlk(F:Fun K "windowed" "windowed" zgw f fd)(b:Binds K fd ["least", "rest", "width"] [])(m:mg "windowed" = aa (.ref f))(T:Txt mg)(TC:TxC K cl)(TX:TxE K cl ["HeadError", "NoLetter"] ["NoLetter"])(hRestOf:FnX P w K mg base cl "rest_of" 1 2 zcL):FnX P w K mg base cl "windowed" 2 3 zbo :=
 by walk_at "#sv|87bP;w9Hs,-PsD#"
theorem zqU:FnScope ["w", "base", "below", "rest", "width"] ["w", "base", "below", "rest", "width"] (zah zld):=sco
theorem zpj(F:Fun K "around" "around" zld f fd)(b:Binds K fd ["w", "base", "below", "rest", "width"] [])(m:mg "around" = aa (.ref f))(T:Txt mg)(TC:TxC K cl)(TX:TxE K cl ["HeadError", "NoLetter"] ["NoLetter"])(hRestOf:FnX P w K mg base cl "rest_of" 1 2 zcL)(hWindowed:FnX P w K mg base cl "windowed" 2 3 zbo):FnX P w K mg base cl "around" 3 5 zho :=
 by walk_at "#sw|9viw9sHT|:Hs,-.sEt6Rp#"
theorem zm9:FnScope ["shape"] ["shape"] (zah zgK):=sco
theorem zlw(F:Fun K "breadths" "breadths" zgK f fd)(b:Binds K fd ["shape"] [])(m:mg "breadths" = aa (.ref f))(T:Txt mg)(TC:TxC K cl)(TX:TxE K cl ["HeadError", "NoLetter"] ["NoLetter"]):FnX P w K mg base cl "breadths" 1 1 zcw :=
 by walk_at "#e|;7xfxmt=sxyIsau.s(syAsisVt=yIvjs^"
theorem scExpected:FnScope ["shape", "place", "former", "ahead", "more", "breadth", "kind", "value", "gone"] ["shape", "place", "former", "ahead", "more"] (zah zgJ):=sco
theorem zlv(F:Fun K "expected" "expected" zgJ f fd)(b:Binds K fd ["shape", "place", "former", "ahead", "more"] [])(m:mg "expected" = aa (.ref f))(T:Txt mg)(TC:TxC K cl)(TX:TxE K cl ["HeadError", "NoLetter"] ["NoLetter"])(hRestOf:FnX P w K mg base cl "rest_of" 1 2 zcL)(hTurned:FnX P w K mg base cl "turned" 1 3 zhd):FnX P w K mg base cl "expected" 2 5 zdK :=
 by walk_at "#sv|<vktftV-t<&u1tW3w:sF*w:vl:w:$sz-t,s{wg;w9HbtX`s{Vues;t,s{wg;|=Hs{ufu<s;t,s{sMNEw:$s,tYs{szs{viw9HbtX`s{sbues;7tX"
theorem zqQ:FnScope ["row", "value", "more"] ["row", "value", "more"] (zah zk5):=sco
theorem zpb(F:Fun K "turned" "turned" zk5 f fd)(b:Binds K fd ["row", "value", "more"] [])(m:mg "turned" = aa (.ref f))(T:Txt mg)(TC:TxC K cl)(TX:TxE K cl ["HeadError", "NoLetter"] ["NoLetter"]):FnX P w K mg base cl "turned" 1 3 zhd :=
 by walk_at "#e|>s4|?sH|A-P,7-u!wUt7yJPvm.s|Rp#"
theorem zos:FnScope ["shape", "number", "head"] ["shape", "number", "head"] (zah ziE):=sco
theorem znt(F:Fun K "check_of" "check_of" ziE f fd)(b:Binds K fd ["shape", "number", "head"] [])(m:mg "check_of" = aa (.ref f))(T:Txt mg)(TC:TxC K cl)(TX:TxE K cl ["HeadError", "NoLetter"] ["NoLetter"]):FnX P w K mg base cl "check_of" 1 3 zdc :=
 by walk_at "#e|B7t7-sTyK,yLayMyNvntct=t'x9wksVx:x;savo.t#tWvpx<t=t'x9x:x;sF/six<t=t'x9x:x;v3t#xg`bB&V#s("
theorem zoq:FnScope ["way", "breadth"] ["way", "breadth"] (zah ziv):=sco
theorem znj(F:Fun K "width_of" "width_of" ziv f fd)(b:Binds K fd ["way", "breadth"] [])(m:mg "width_of" = aa (.ref f))(T:Txt mg)(TC:TxC K cl)(TX:TxE K cl ["HeadError", "NoLetter"] ["NoLetter"]):FnX P w K mg base cl "width_of" 1 2 zcj :=
 by walk_at "#e|Cvq&kvqs(u!-"
theorem zqP:FnScope ["shape", "form"] ["shape", "form"] (zah zk4):=sco
theorem zpa(F:Fun K "widths" "widths" zk4 f fd)(b:Binds K fd ["shape", "form"] [])(m:mg "widths" = aa (.ref f))(T:Txt mg)(TC:TxC K cl)(TX:TxE K cl ["HeadError", "NoLetter"] ["NoLetter"])(hBreadths:FnX P w K mg base cl "breadths" 1 1 zcw)(hWidthOf:FnX P w K mg base cl "width_of" 1 2 zcj):FnX P w K mg base cl "widths" 2 2 zeA :=
 by walk_at "#sv|D7xfsVt=x=wksVx>x?sa|Ea|Fs^;yOtj#t#tW>siu2t=x=x>x?sFvpu2t=x=x>x?v3t#xg;|GsA>sE#"
theorem zqR:FnScope ["shape", "form"] ["shape", "form"] (zah zk6):=sco
theorem zpc(F:Fun K "size_of" "size_of" zk6 f fd)(b:Binds K fd ["shape", "form"] [])(m:mg "size_of" = aa (.ref f))(T:Txt mg)(TC:TxC K cl)(TX:TxE K cl ["HeadError", "NoLetter"] ["NoLetter"])(hWidths:FnX P w K mg base cl "widths" 2 2 zeA):FnX P w K mg base cl "size_of" 3 2 zfu :=
 by walk_at "#sw|H7sTyK,yLayMyNTyPtZ?"
theorem scOpened:FnScope ["shape", "form", "bits", "former", "more", "head", "place", "rest", "base"] ["shape", "form", "bits", "former", "more"] (zah zk9):=sco
theorem zpf(F:Fun K "opened" "opened" zk9 f fd)(b:Binds K fd ["shape", "form", "bits", "former", "more"] [])(m:mg "opened" = aa (.ref f))(T:Txt mg)(TC:TxC K cl)(TX:TxE K cl ["HeadError", "NoLetter"] ["NoLetter"])(hExpected:FnX P w K mg base cl "expected" 2 5 zdK)(hNumbersOf:FnX P w K mg base cl "numbers_of" 2 2 zbY)(hValueTold:FnX P w K mg base cl "value_told" 4 4 zcS)(hWidths:FnX P w K mg base cl "widths" 2 2 zeA):FnX P w K mg base cl "opened" 5 5 zhh :=
 by walk_at "#sg/|IN3v$$s>#tHvo;yQsA>TyPtZ?tW*v$sF:v$vlEv$s.|JsN*sEuet6s!3v$iscs>T|KHvrs%s}tVs%&s~uf?7sc"
theorem zk1:FnScope ["way", "breadth", "base", "rest"] ["way", "breadth", "base", "rest"] (zah zfd):=sco
theorem zjK(F:Fun K "value_told" "value_told" zfd f fd)(b:Binds K fd ["way", "breadth", "base", "rest"] [])(m:mg "value_told" = aa (.ref f))(T:Txt mg)(TC:TxC K cl)(TX:TxE K cl ["HeadError", "NoLetter"] ["NoLetter"])(hAround:FnX P w K mg base cl "around" 3 5 zho):FnX P w K mg base cl "value_told" 4 4 zcS :=
 by walk_at "#sg9|Lvq.kvq;|MsAAsDvssEvss;7B"
theorem zqT:FnScope ["pact", "at"] ["pact", "at"] (zah zlc):=sco
theorem zpi(F:Fun K "form_at" "form_at" zlc f fd)(b:Binds K fd ["pact", "at"] [])(m:mg "form_at" = aa (.ref f))(T:Txt mg)(TC:TxC K cl)(TX:TxE K cl ["HeadError", "NoLetter"] ["NoLetter"]):FnX P w K mg base cl "form_at" 1 2 zba :=
 by walk_at "#e|Ns4sdvttls?vs(`s>(s>u9?s|s}s(ugu!tV-"
theorem zk2:FnScope ["pact"] ["pact"] (zah zff):=sco
theorem zjM(F:Fun K "sort_width" "sort_width" zff f fd)(b:Binds K fd ["pact"] [])(m:mg "sort_width" = aa (.ref f))(T:Txt mg)(TC:TxC K cl)(TX:TxE K cl ["HeadError", "NoLetter"] ["NoLetter"])(hWidthFor:FnX P w K mg base cl "width_for" 1 1 zcv):FnX P w K mg base cl "sort_width" 2 1 za8 :=
 by walk_at "#sv|OviyRHuhs|vs?"
theorem zjz:FnScope ["pact"] ["pact"] (zah zer):=sco
theorem ziY(F:Fun K "check_width" "check_width" zer f fd)(b:Binds K fd ["pact"] [])(m:mg "check_width" = aa (.ref f))(T:Txt mg)(TC:TxC K cl)(TX:TxE K cl ["HeadError", "NoLetter"] ["NoLetter"])(hWidthFor:FnX P w K mg base cl "width_for" 1 1 zcv):FnX P w K mg base cl "check_width" 2 1 zbq :=
 by walk_at "#sv|PviyRHtVui"
theorem scLetterSize:FnScope ["pact", "at", "form"] ["pact", "at"] (zah zem):=sco
theorem ziU(F:Fun K "letter_size" "letter_size" zem f fd)(b:Binds K fd ["pact", "at"] [])(m:mg "letter_size" = aa (.ref f))(T:Txt mg)(TC:TxC K cl)(TX:TxE K cl ["HeadError", "NoLetter"] ["NoLetter"])(hCheckWidth:FnX P w K mg base cl "check_width" 2 1 zbq)(hFormAt:FnX P w K mg base cl "form_at" 1 2 zba)(hSizeOf:FnX P w K mg base cl "size_of" 3 2 zfu)(hSortWidth:FnX P w K mg base cl "sort_width" 2 1 za8):FnX P w K mg base cl "letter_size" 4 2 zbH :=
 by walk_at "#sg9|Qs#|Rs.yStZtUbbb;|Stj#sz&;|THs(sD#;|Utj#"
theorem scSortTold:FnScope ["pact", "bits", "sort"] ["pact", "bits"] (zah zgy):=sco
theorem zlm(F:Fun K "sort_told" "sort_told" zgy f fd)(b:Binds K fd ["pact", "bits"] [])(m:mg "sort_told" = aa (.ref f))(T:Txt mg)(d:TxC K cl)(t:TxE K cl ["HeadError", "NoLetter"] ["NoLetter"])(c:FnX P w K mg base cl "number_of" 1 1 za1)(a:FnX P w K mg base cl "sort_width" 2 1 za8):FnE P w K mg base cl "sort_told" 3 2 zbW :=
 have h:=FnE.mk' (P:=P) (w:=w) (base:=base) (cl:=cl) (k:=2) F b m scSortTold rfl fun cdv A outer s H E hr=>
  (zaR (zdX rfl (zal (i:=2) scSortTold.nd rfl (yD rfl) (qfn c hr (zaa (zf3 (zab 1) zcJ (zbx (qfn a hr (zaa (zab 0) zaf)))) zaf))))
  (zaR (zqD rfl (zat zo8 zpl (zab 2) (zaF zaY zcx (by rfl) T.len ybG (zaa (qxi hr (zab 0) zae) zaf)) (zaq _))
  (zee (YB.ys (zgb rfl rfl t (.head _) rfl (zaa zap zaf) (aCons_len aNil_len))))
  zik)
  (zee (zdX rfl (zam (ztb (zat (zbd hr.units) zb8 (zab 2) zae (zaq _)) zaQ (zak zbz zbA (zab 2) zae)))))))
 h
theorem scParted:FnScope ["pact", "letter", "at", "begin", "behind", "last", "check"] ["pact", "letter"] (zah zk8):=sco
theorem zpe(F:Fun K "parted" "parted" zk8 f fd)(b:Binds K fd ["pact", "letter"] [])(m:mg "parted" = aa (.ref f))(T:Txt mg)(n:TxC K cl)(t:TxE K cl ["HeadError", "NoLetter"] ["NoLetter"])(j:FnX P w K mg base cl "are_bits" 1 1 zb4)(d:FnX P w K mg base cl "check_width" 2 1 zbq)(l:FnX P w K mg base cl "form_at" 1 2 zba)(c:FnX P w K mg base cl "letter_size" 4 2 zbH)(a:FnX P w K mg base cl "number_of" 1 1 za1)(g:FnE P w K mg base cl "sort_told" 3 2 zbW)(e:FnX P w K mg base cl "sort_width" 2 1 za8):FnE P w K mg base cl "parted" 5 2 za7 :=
 have h:=FnE.mk' (P:=P) (w:=w) (base:=base) (cl:=cl) (k:=4) F b m scParted rfl fun cdv A outer s H E hr=>
  (zaR (zqD rfl (zhX (zd8 (qfn j hr (zaa (zab 1) zaf))))
  (zee (YB.ys (zgb rfl rfl t (.head _) rfl (zaa zap zaf) (aCons_len aNil_len))))
  zik)
  (zaR (YB.ys (yb_set (i:=2) scParted.nd rfl (yD rfl) (ye_fn rfl g rfl (hr.mono (by decide)) rfl (zaa (zab 0) (zaa (zab 1) zaf)) (aCons_len (aCons_len aNil_len)))))
  (zaR (zqD rfl (zat (zeJ hr.units) ziZ (zaF zaY zcx (by rfl) T.len ybG (zaa (zab 1) zaf)) (qfn c hr (zaa (zab 0) (zaa (zab 2) zaf))) (zaq _))
  (zee (YB.ys (zgb rfl rfl t (.head _) rfl (zaa zap zaf) (aCons_len aNil_len))))
  zik)
  (zaR (zdX rfl (zal (i:=3) scParted.nd rfl (yD rfl) (qfn e hr (zaa (zab 0) zaf))))
  (zaR (zdX rfl (zal (i:=4) scParted.nd rfl (yD rfl) (zak zas zaB (zab 3) (qxi hr (qfn l hr (zaa (zab 0) (zaa (zab 2) zaf))) zae))))
  (zaR (zdX rfl (zal (i:=5) scParted.nd rfl (yD rfl) (zak zbz zbA (zaF zaY zcx (by rfl) T.len ybG (zaa (zab 1) zaf)) (qfn d hr (zaa (zab 0) zaf)))))
  (zaR (zdX rfl (zal (i:=6) scParted.nd rfl (yD rfl) (qfn a hr (zaa (zf3 (zab 1) (zbx (zab 5)) zcJ) zaf))))
  (zaR (zqD rfl (zat ztM ztW (zab 6) (qxi hr (qxi hr (zab 0) zae) zae) (zaq _))
  (zee (YB.ys (zgb rfl rfl t (.head _) rfl (zaa zap zaf) (aCons_len aNil_len))))
  zik)
  (zee (zdX rfl (zam (zaG (zaa (zab 2) (zaa (qfn a hr (zaa (zf3 (zab 1) (zbx (zab 3)) (zbx (zab 4))) zaf)) (zaa (zf3 (zab 1) (zbx (zab 4)) (zbx (zab 5))) (zaa (zab 6) zaf))))))))))))))))
 h
theorem scThoseKept:FnScope ["held", "bound", "least"] ["held", "bound"] (zah zfe):=sco
theorem zjL(F:Fun K "those_kept" "those_kept" zfe f fd)(b:Binds K fd ["held", "bound"] [])(m:mg "those_kept" = aa (.ref f))(T:Txt mg)(TC:TxC K cl)(TX:TxE K cl ["HeadError", "NoLetter"] ["NoLetter"]):FnX P w K mg base cl "those_kept" 1 2 zbM :=
 by walk_at "#e|Vs#|WvuxA,u%xBu=tcutw;t;sxt'saPsyvpu2utw;t;t'vvs`B-vwB-7|Xu=tcutw;t;sxt'sau.sT|Y,|Za|[|]Rp#syvpu2utw;t;t'vvs2yTyUB.vwBt#wUB"
theorem zjw:FnScope ["self", "pact"] ["self", "pact"] (zah zel):=sco
theorem ziT(F:Fun K "__init__" "Reader.__init__" zel f fd)(b:Binds K fd ["self", "pact"] [])(M:mg "Reader" = aa (.ref (cl "Reader")))(m:Mk K (cl "Reader") f)(T:Txt mg)(t:TxC K cl)(a:TxE K cl ["HeadError", "NoLetter"] ["NoLetter"]):FnC P w K mg base cl "Reader" 1 2 zbX :=
 have h:=FnC.mk' (P:=P) (w:=w) (base:=base) (cl:=cl) (k:=0) F b M m zjw rfl fun cdv A outer s H E hr=>
  (zag (zgM (zab 0) (zab 1) t.cReader t.nReader_pact)
  (zag (zgM (zab 0) zaQ t.cReader t.nReader_highest)
  (zai (zgM (zab 0) zgi t.cReader t.nReader_held))))
 h
theorem scReaderRead:FnScope ["self", "letter", "at", "number", "bits", "check", "head"] ["self", "letter"] (zah zej):=sco
theorem ziR(F:Fun K "read" "Reader.read" zej f fd)(b:Binds K fd ["self", "letter"] [])(m:Meth K (cl "Reader") "read" f)(T:Txt mg)(t:TxC K cl)(q:TxE K cl ["HeadError", "NoLetter"] ["NoLetter"])(c:FnM P w K mg base cl "Reader" "head_told" 6 4 zaW)(g:FnM P w K mg base cl "Reader" "is_far" 2 3 zbp)(d:FnM P w K mg base cl "Reader" "is_late" 2 2 zbi)(e:FnM P w K mg base cl "Reader" "least" 1 1 zaH)(a:FnM P w K mg base cl "Reader" "rise" 2 2 za5)(o:FnX P w K mg base cl "check_of" 1 3 zdc)(j:FnX P w K mg base cl "form_at" 1 2 zba)(p:FnE P w K mg base cl "parted" 5 2 za7)(l:FnX P w K mg base cl "windowed" 2 3 zbo):FnEM P w K mg base cl "Reader" "read" 7 2 zaI :=
 have h:=FnEM.mk' (P:=P) (w:=w) (base:=base) (cl:=cl) (k:=6) F b m scReaderRead rfl fun cdv A outer s H E hr=>
  (zaR (YB.ys (yb_asg rfl (ye_fn rfl p rfl (hr.mono (by decide)) rfl (zaa (zbL (zab 0) t.cReader t.nReader_pact) (zaa (zab 1) zaf)) (aCons_len (aCons_len aNil_len))) (zcP (n:=4) rfl (zay (zar (i:=2) scReaderRead.nd rfl (yD rfl)) (zay (zar (i:=3) scReaderRead.nd rfl (yD rfl)) (zay (zar (i:=4) scReaderRead.nd rfl (yD rfl)) (zay (zar (i:=5) scReaderRead.nd rfl (yD rfl)) zbV)))))))
  (zaR (zdX rfl (zaN (zat zc4 zet (zab 2) zaQ (zaq _))
  (zag (zaN (zat zcC zeK (zbL (zab 0) t.cReader t.nReader_highest) zaQ (zaq _))
  (zai (zam (zaG (zaa zap (zaa zap zaf)))))
  zax)
  (zai (zal (i:=3) scReaderRead.nd rfl (yD rfl) (qfn l hr (zaa (zdz e (zab 0) t.cReader rfl (hr.mono (by decide))) (zaa (zab 3) (zaa (qxi hr (qfn j hr (zaa (zbL (zab 0) t.cReader t.nReader_pact) (zaa (zab 2) zaf))) zae) zaf)))))))
  zax))
  (zaR (zdX rfl (zaN (zd8 (zfK d (zab 0) t.cReader rfl (hr.mono (by decide)) (zaa (zab 3) zaf) (aCons_len aNil_len)))
  (zai (zam (zaG (zaa zap (zaa zap zaf)))))
  zax))
  (zaR (zdX rfl (zaN (zat (zo7 hr) ztV (zab 3) (zbL (zab 0) t.cReader t.nReader_held) rfl)
  (zai (zam (zaG (zaa zap (zaa (zab 3) zaf)))))
  zax))
  (zaR (zdX rfl (zaN (zbS (zdv (zat zc4 zet (zab 2) zaQ (zaq _)) (zcI (zd8 (zfK g (zab 0) t.cReader rfl (hr.mono (by decide)) (zaa (zab 3) (zaa (qxi hr (qfn j hr (zaa (zbL (zab 0) t.cReader t.nReader_pact) (zaa (zab 2) zaf))) zae) zaf)) (aCons_len (aCons_len aNil_len)))))))
  (zag (zcs (zfK a (zab 0) t.cReader rfl (hr.mono (by decide)) (zaa (zab 3) zaf) (aCons_len aNil_len)))
  (zai (zam (zaG (zaa zap (zaa zap zaf))))))
  zax))
  (zaR (zdX rfl (zal (i:=6) scReaderRead.nd rfl (yD rfl) (zfK c (zab 0) t.cReader rfl (hr.mono (by decide)) (zaa (zab 2) (zaa (zab 3) (zaa (zab 4) zaf))) (aCons_len (aCons_len (aCons_len aNil_len))))))
  (zaR (zdX rfl (zaN (zat (zeJ hr.units) ziZ (qfn o hr (zaa (qxi hr (zbL (zab 0) t.cReader t.nReader_pact) zae) (zaa (zab 3) (zaa (zab 6) zaf)))) (zab 5) (zaq _))
  (zai (zam (zaG (zaa zap (zaa zap zaf)))))
  zax))
  (zaR (zdX rfl (ziI (zlL hr) (zbL (zab 0) t.cReader t.nReader_held) (zab 3) (zab 6) rfl))
  (zaR (zdX rfl (zcs (zfK a (zab 0) t.cReader rfl (hr.mono (by decide)) (zaa (zab 3) zaf) (aCons_len aNil_len))))
  (zee (zdX rfl (zam (zaG (zaa zap (zaa (zab 3) (zaa (zab 6) zaf))))))))))))))))
 h
theorem zhx:FnScope ["self"] ["self"] (zah zc3):=sco
theorem zgV(F:Fun K "forget" "Reader.forget" zc3 f fd)(b:Binds K fd ["self"] [])(m:Meth K (cl "Reader") "forget" f)(T:Txt mg)(TC:TxC K cl)(TX:TxE K cl ["HeadError", "NoLetter"] ["NoLetter"]):FnM P w K mg base cl "Reader" "forget" 1 1 zbt :=
 by walk_at "#tgp|^qw<Pt8t9u3s=w<P|_t9v%"
theorem zk3:FnScope ["self"] ["self"] (zah zfg):=sco
theorem zjN(F:Fun K "top" "Reader.top" zfg f fd)(b:Binds K fd ["self"] [])(m:Meth K (cl "Reader") "top" f)(T:Txt mg)(t:TxC K cl)(a:TxE K cl ["HeadError", "NoLetter"] ["NoLetter"]):FnHM P w K mg base cl "Reader" "top" 1 1 za9 :=
 have h:=FnHM.mk' (P:=P) (w:=w) (base:=base) (cl:=cl) (k:=0) F b m zk3 rfl fun cdv A outer s H E hr=>
  (zai (zam (zbL (zab 0) t.cReader t.nReader_highest)))
 h
theorem zjv:FnScope ["self"] ["self"] (zah zek):=sco
theorem ziS(F:Fun K "kept" "Reader.kept" zek f fd)(b:Binds K fd ["self"] [])(m:Meth K (cl "Reader") "kept" f)(T:Txt mg)(t:TxC K cl)(a:TxE K cl ["HeadError", "NoLetter"] ["NoLetter"]):FnHM P w K mg base cl "Reader" "kept" 1 1 zaP :=
 have h:=FnHM.mk' (P:=P) (w:=w) (base:=base) (cl:=cl) (k:=0) F b m zjv rfl fun cdv A outer s H E hr=>
  (zai (zam (zbk znS fd_dct (by rfl) T.dict boot_dict (zaa (zbL (zab 0) t.cReader t.nReader_held) zaf))))
 h
theorem zit:FnScope ["self"] ["self"] (zah zdq):=sco
theorem zhA(F:Fun K "least" "Reader.least" zdq f fd)(b:Binds K fd ["self"] [])(m:Meth K (cl "Reader") "least" f)(T:Txt mg)(TC:TxC K cl)(TX:TxE K cl ["HeadError", "NoLetter"] ["NoLetter"]):FnM P w K mg base cl "Reader" "least" 1 1 zaH :=
 by walk_at "#tgp|`7s,seu3hhsew=v."
theorem zhw:FnScope ["self", "number"] ["self", "number"] (zah zc2):=sco
theorem zgU(F:Fun K "is_late" "Reader.is_late" zc2 f fd)(b:Binds K fd ["self", "number"] [])(m:Meth K (cl "Reader") "is_late" f)(T:Txt mg)(TC:TxC K cl)(TX:TxE K cl ["HeadError", "NoLetter"] ["NoLetter"])(hReaderLeast:FnM P w K mg base cl "Reader" "least" 1 1 zaH):FnM P w K mg base cl "Reader" "is_late" 2 2 zbi :=
 by walk_at "#tgA|a7yVt(u;-s/w>yWt(vxseu3sOw>t(u;-w?yXv,u&s&"
theorem zgt:FnScope ["self", "number"] ["self", "number"] (zah zcH):=sco
theorem zf5(F:Fun K "nearest" "Reader.nearest" zcH f fd)(b:Binds K fd ["self", "number"] [])(m:Meth K (cl "Reader") "nearest" f)(T:Txt mg)(TC:TxC K cl)(TX:TxE K cl ["HeadError", "NoLetter"] ["NoLetter"]):FnM P w K mg base cl "Reader" "nearest" 1 2 za6 :=
 by walk_at "#tgp|b7xA,u%xBu=sVyYt'sxyZsasev%sy>sitcyYt'yZvvs`.-vw.t8"
theorem scReaderIsFar:FnScope ["self", "number", "reach", "former"] ["self", "number", "reach"] (zah zdr):=sco
theorem zhB(F:Fun K "is_far" "Reader.is_far" zdr f fd)(b:Binds K fd ["self", "number", "reach"] [])(m:Meth K (cl "Reader") "is_far" f)(T:Txt mg)(TC:TxC K cl)(TX:TxE K cl ["HeadError", "NoLetter"] ["NoLetter"])(hReaderNearest:FnM P w K mg base cl "Reader" "nearest" 1 2 za6):FnM P w K mg base cl "Reader" "is_far" 2 3 zbp :=
 by walk_at "#tgA|csu|d$xCy[v,u&vmxDxE7yVt(sdBsOw>t(wAwBs,-B.s&"
theorem scReaderHeadTold:FnScope ["self", "at", "number", "bits", "former"] ["self", "at", "number", "bits"] (zah zcr):=sco
theorem zfn(F:Fun K "head_told" "Reader.head_told" zcr f fd)(b:Binds K fd ["self", "at", "number", "bits"] [])(m:Meth K (cl "Reader") "head_told" f)(T:Txt mg)(TC:TxC K cl)(TX:TxE K cl ["HeadError", "NoLetter"] ["NoLetter"])(hReaderNearest:FnM P w K mg base cl "Reader" "nearest" 1 2 za6)(hBreadths:FnX P w K mg base cl "breadths" 1 1 zcw)(hFormAt:FnX P w K mg base cl "form_at" 1 2 zba)(hNumbersOf:FnX P w K mg base cl "numbers_of" 2 2 zbY)(hOpened:FnX P w K mg base cl "opened" 5 5 zhh):FnM P w K mg base cl "Reader" "head_told" 6 4 zaW :=
 by walk_at "#tg3|es4sdvt7ujTyQsA9TyOHhsew=ugs;t[|f$xCy[v,u&sD#xDxEvi|gHhsew=&TySHsew=vmsEs}sev%Vvy.V#"
theorem zju:FnScope ["self", "number"] ["self", "number"] (zah zei):=sco
theorem ziQ(F:Fun K "rise" "Reader.rise" zei f fd)(b:Binds K fd ["self", "number"] [])(m:Meth K (cl "Reader") "rise" f)(T:Txt mg)(TC:TxC K cl)(TX:TxE K cl ["HeadError", "NoLetter"] ["NoLetter"])(hReaderLeast:FnM P w K mg base cl "Reader" "least" 1 1 zaH)(hThoseKept:FnX P w K mg base cl "those_kept" 1 2 zbM):FnM P w K mg base cl "Reader" "rise" 2 2 za5 :=
 by walk_at "#tgA|hqw<Py]s2sdseu3sO-sTy^,y_u%wC(seu3vmt9u3s=w<P;|iHsev%(w?yXv,u&#t9v%"
theorem scLawBox:FnScope ["_law_script", "_law_seed", "_law_own", "_law_far", "_law_cell"] ["_law_script"] (zah zlb):=sco
theorem zph(F:Fun K "_law_box" "_law_box" zlb f fd)(b:Binds K fd ["_law_script"] [])(m:mg "_law_box" = aa (.ref f))(T:Txt mg)(TC:TxC K cl)(TX:TxE K cl ["HeadError", "NoLetter"] ["NoLetter"]):FnX P w K mg base cl "_law_box" 1 1 zfw :=
 by walk_at "#e|ju#v&u$s#v&$x3#suv&$s0wDwEs0wDwEs0wDwEs0wDwEu'u'u'u'u'ubtfPu1t<&sJ/v&$u#v&$t7b`s_nVu'v.ucs2yTyUsTy`yaaybyct6z4&s/s=tew5w6x4x5x6w7x7.(nsTy`yaaybyct6Bs;7|kxF.xF-xF&|l|msh"
theorem scLawNext:FnScope ["_law_box_here", "_law_many", "_law_digit", "_law_turn", "_law_mixed"] ["_law_box_here", "_law_many"] (zah ziA):=sco
theorem znp(F:Fun K "_law_next" "_law_next" ziA f fd)(b:Binds K fd ["_law_box_here", "_law_many"] [])(m:mg "_law_next" = aa (.ref f))(T:Txt mg)(TC:TxC K cl)(TX:TxE K cl ["HeadError", "NoLetter"] ["NoLetter"]):FnX P w K mg base cl "_law_next" 1 2 zaz :=
 by walk_at "#e|nqx8uuu0w#t}udou,#s&t~sphvzs/s=tew5w6|o|p|qw7|rowYs4udou,#s&s#v'$nhvz-vks0xGxHhvz-|svz7.kqxIxJsHPt!bvz,suv'$ot[v'ibo``BB&`B&t[v'$n`Vv.t[v'$n`VbnVv.&7ns0xGxHV&-"
theorem zsV:FnScope ["_law_box_here", "_law_some"] ["_law_box_here", "_law_some"] (zah zow):=sco
theorem zrn(F:Fun K "_law_of" "_law_of" zow f fd)(b:Binds K fd ["_law_box_here", "_law_some"] [])(m:mg "_law_of" = aa (.ref f))(T:Txt mg)(TC:TxC K cl)(TX:TxE K cl ["HeadError", "NoLetter"] ["NoLetter"])(hLawNext:FnX P w K mg base cl "_law_next" 1 2 zaz):FnX P w K mg base cl "_law_of" 2 2 zaJ :=
 by walk_at "#sv|t7tkv1tEs|v4?"
theorem scLawValue:FnScope ["_law_box_here", "_law_breadth", "_law_some"] ["_law_box_here", "_law_breadth"] (zah zgD):=sco
theorem zlq(F:Fun K "_law_value" "_law_value" zgD f fd)(b:Binds K fd ["_law_box_here", "_law_breadth"] [])(m:mg "_law_value" = aa (.ref f))(T:Txt mg)(TC:TxC K cl)(TX:TxE K cl ["HeadError", "NoLetter"] ["NoLetter"])(hLawNext:FnX P w K mg base cl "_law_next" 1 2 zaz):FnX P w K mg base cl "_law_value" 2 2 zbu :=
 by walk_at "#sv|us#|v$xWvys$s_uktEs$-?7nszuls$-"
theorem scLawKind:FnScope ["_law_box_here", "_law_place", "_law_breadth", "_law_way_here", "_law_many", "_law_first", "_law_step", "_law_times"] ["_law_box_here", "_law_place", "_law_breadth"] (zah ziB):=sco
theorem znq(F:Fun K "_law_kind" "_law_kind" ziB f fd)(b:Binds K fd ["_law_box_here", "_law_place", "_law_breadth"] [])(m:mg "_law_kind" = aa (.ref f))(T:Txt mg)(TC:TxC K cl)(TX:TxE K cl ["HeadError", "NoLetter"] ["NoLetter"])(hLawNext:FnX P w K mg base cl "_law_next" 1 2 zaz)(hLawOf:FnX P w K mg base cl "_law_of" 2 2 zaJ)(hLawValue:FnX P w K mg base cl "_law_value" 2 2 zbu):FnX P w K mg base cl "_law_kind" 3 3 zdJ :=
 by walk_at "#sw|wsuv(s.w!was4u;Bs/s<s;s4u;Bs/s<TxKsN>?kt,Bs/t[v($sT|x,|ya|z|{(uhul(s$.#vks>uktEs$.#(b`&uluitW3v(z;w[*v(vuxos<(ujvn||t>ydyeyfygyhyiyjsxwFsav{t6syEsi|}t>ydyeyfygyhyiyjwFvjt7sc`s%sbs$.?ksmx`s`Bs/t~wAwB-s/N:v($xW(wGwHwI&u7(wGwHwI&vyuluis<uktZ#TxksN:?ks<#"
theorem scLawShape:FnScope ["_law_box_here", "_law_most", "_law_letters", "_law_first", "_law_fields", "_law_place", "_law_breadth", "_law_name"] ["_law_box_here", "_law_most"] (zah zgF):=sco
theorem zls(F:Fun K "_law_shape" "_law_shape" zgF f fd)(b:Binds K fd ["_law_box_here", "_law_most"] [])(m:mg "_law_shape" = aa (.ref f))(T:Txt mg)(TC:TxC K cl)(TX:TxE K cl ["HeadError", "NoLetter"] ["NoLetter"])(hLawKind:FnX P w K mg base cl "_law_kind" 3 3 zdJ)(hLawNext:FnX P w K mg base cl "_law_next" 1 2 zaz)(hLawOf:FnX P w K mg base cl "_law_of" 2 2 zaJ):FnX P w K mg base cl "_law_shape" 4 2 zcV :=
 by walk_at "#sg9|~s#v)$t!v|9t?/,v)umukwa(x3?,tHv{(uhv1tZ?sJ3v)$N*v)s.wbu7?N:v)$`szt7B`&QxUuht7BQxUs=tew5w6x4x5x6w7x7V(s>uft]T}!sN3t]untl(ujt6uos?(u'un"
theorem scLawWay:FnScope ["_law_box_here", "_law_breadth", "_law_way_here", "_law_width_here"] ["_law_box_here", "_law_breadth"] (zah zla):=sco
theorem zpg(F:Fun K "_law_way" "_law_way" zla f fd)(b:Binds K fd ["_law_box_here", "_law_breadth"] [])(m:mg "_law_way" = aa (.ref f))(T:Txt mg)(TC:TxC K cl)(TX:TxE K cl ["HeadError", "NoLetter"] ["NoLetter"])(hLawNext:FnX P w K mg base cl "_law_next" 1 2 zaz)(hLawValue:FnX P w K mg base cl "_law_value" 2 2 zbu):FnX P w K mg base cl "_law_way" 3 2 ze0 :=
 by walk_at "#sw}#s#yks.w!was4u;.s/s<s;t,.s/s<s;suyki&v1tZ#s<sETxKsN9?"
theorem scLawForm:FnScope ["_law_box_here", "_law_shape_here", "_law_ways"] ["_law_box_here", "_law_shape_here"] (zah ziC):=sco
theorem znr(F:Fun K "_law_form" "_law_form" ziC f fd)(b:Binds K fd ["_law_box_here", "_law_shape_here"] [])(m:mg "_law_form" = aa (.ref f))(T:Txt mg)(TC:TxC K cl)(TX:TxE K cl ["HeadError", "NoLetter"] ["NoLetter"])(hLawOf:FnX P w K mg base cl "_law_of" 2 2 zaJ)(hLawWay:FnX P w K mg base cl "_law_way" 3 2 ze0):FnX P w K mg base cl "_law_form" 4 2 zbT :=
 by walk_at "#sg9}$s#}%$ujvntct>u4ylsxwJsau.s^syvpu2t>u4ylwJvj;}&tEtYugtluos??uou7s??sD#"
theorem scLawRoad:FnScope ["_law_box_here", "_law_skips", "_law_gap"] ["_law_box_here"] (zah zix):=sco
theorem znm(F:Fun K "_law_road" "_law_road" zix f fd)(b:Binds K fd ["_law_box_here"] [])(m:mg "_law_road" = aa (.ref f))(T:Txt mg)(TC:TxC K cl)(TX:TxE K cl ["HeadError", "NoLetter"] ["NoLetter"])(hLawOf:FnX P w K mg base cl "_law_of" 2 2 zaJ):FnX P w K mg base cl "_law_road" 3 1 ze1 :=
 by walk_at "#sw}'u#yms.wbs??s#ymi-;x[s??tlv4sDuo?uos?un"
theorem scLawPact:FnScope ["_law_box_here", "_law_most", "_law_shape_here", "_law_forms"] ["_law_box_here", "_law_most"] (zah ziz):=sco
theorem zno(F:Fun K "_law_pact" "_law_pact" ziz f fd)(b:Binds K fd ["_law_box_here", "_law_most"] [])(m:mg "_law_pact" = aa (.ref f))(T:Txt mg)(TC:TxC K cl)(TX:TxE K cl ["HeadError", "NoLetter"] ["NoLetter"])(hLawForm:FnX P w K mg base cl "_law_form" 4 2 zbT)(hLawOf:FnX P w K mg base cl "_law_of" 2 2 zaJ)(hLawRoad:FnX P w K mg base cl "_law_road" 3 1 ze1)(hLawShape:FnX P w K mg base cl "_law_shape" 4 2 zcV):FnX P w K mg base cl "_law_pact" 5 2 zdb :=
 by walk_at "#sg/}(s#ynvu;})tZ#suyn$ujvnu2t>you4ypsxwFsav{uounsy/six<t>you4ypwFvj;}*sN>?tlsDTx[?sET}+tj?"
theorem zjy:FnScope ["_law_box_here", "_law_shape_here"] ["_law_box_here", "_law_shape_here"] (zah zep):=sco
theorem ziX(F:Fun K "_law_any_head" "_law_any_head" zep f fd)(b:Binds K fd ["_law_box_here", "_law_shape_here"] [])(m:mg "_law_any_head" = aa (.ref f))(T:Txt mg)(TC:TxC K cl)(TX:TxE K cl ["HeadError", "NoLetter"] ["NoLetter"])(hLawValue:FnX P w K mg base cl "_law_value" 2 2 zbu):FnX P w K mg base cl "_law_any_head" 3 2 zb1 :=
 by walk_at "#sw},7ujvnsVt>u4sxwJsau.s^sy>sitct>u4wJvj;xKtEszug"
theorem scLawExpected:FnScope ["_law_shape_here", "_law_place", "_law_former", "_law_ahead", "_law_more", "_law_kind_here", "_law_was"] ["_law_shape_here", "_law_place", "_law_former", "_law_ahead", "_law_more"] (zah zdu):=sco
theorem zhE(F:Fun K "_law_expected" "_law_expected" zdu f fd)(b:Binds K fd ["_law_shape_here", "_law_place", "_law_former", "_law_ahead", "_law_more"] [])(m:mg "_law_expected" = aa (.ref f))(T:Txt mg)(TC:TxC K cl)(TX:TxE K cl ["HeadError", "NoLetter"] ["NoLetter"]):FnX P w K mg base cl "_law_expected" 1 5 zaV :=
 by walk_at "#e}-v|3t?*,wKums}tVs_(sz-upt,sGsMs!*wKis%`sGVuct}spsGsMt~yqsHyrs%sG,s!*wK$hsGt7yJsGt]#Vs|(sG#ucs2spsGsMs!*wKis%`sGs,tYsGszsGu!ns%s$htVs_"
theorem scLawNextHead:FnScope ["_law_box_here", "_law_shape_here", "_law_former", "_law_calm", "_law_head", "_law_place", "_law_field", "_law_value_here"] ["_law_box_here", "_law_shape_here", "_law_former", "_law_calm"] (zah zdt):=sco
theorem zhD(F:Fun K "_law_next_head" "_law_next_head" zdt f fd)(b:Binds K fd ["_law_box_here", "_law_shape_here", "_law_former", "_law_calm"] [])(m:mg "_law_next_head" = aa (.ref f))(T:Txt mg)(TC:TxC K cl)(TX:TxE K cl ["HeadError", "NoLetter"] ["NoLetter"])(hLawExpected:FnX P w K mg base cl "_law_expected" 1 5 zaV)(hLawNext:FnX P w K mg base cl "_law_next" 1 2 zaz)(hLawOf:FnX P w K mg base cl "_law_of" 2 2 zaJ):FnX P w K mg base cl "_law_next_head" 3 4 zbP :=
 by walk_at "#sw}.t[u5$s>#tHvos^tW3u5sF*u5vl:u5s.yssAAuesDu<wYt,v1sN9#s/s!:u5$t7tX;xXu,s?(wGwHwI&s?(wGwHwI&uktEs$s{uns$s{ks!/u5iVs>uftUV"
theorem scLawBits:FnScope ["_law_number_here", "_law_width_here", "_law_found", "_law_k"] ["_law_number_here", "_law_width_here"] (zah ziD):=sco
theorem zns(F:Fun K "_law_bits" "_law_bits" ziD f fd)(b:Binds K fd ["_law_number_here", "_law_width_here"] [])(m:mg "_law_bits" = aa (.ref f))(T:Txt mg)(TC:TxC K cl)(TX:TxE K cl ["HeadError", "NoLetter"] ["NoLetter"]):FnX P w K mg base cl "_law_bits" 1 2 zcm :=
 by walk_at "#e}/s#wL$t!tHv{vmsJ9wL$s#wLiu/}0}1ayGyH(nPui.s!pwL$s0xGxHP&7."
theorem scLawWidth:FnScope ["_law_many", "_law_width_here"] ["_law_many"] (zah zgB):=sco
theorem zlo(F:Fun K "_law_width" "_law_width" zgB f fd)(b:Binds K fd ["_law_many"] [])(m:mg "_law_width" = aa (.ref f))(T:Txt mg)(TC:TxC K cl)(TX:TxE K cl ["HeadError", "NoLetter"] ["NoLetter"]):FnX P w K mg base cl "_law_width" 1 1 zbN :=
 by walk_at "#e}2u#ytu$qx8uuu0w#s`s$-Ps&vhytis_7-"
theorem scLawCheck:FnScope ["_law_shape_here", "_law_number_here", "_law_head", "_law_total", "_law_place"] ["_law_shape_here", "_law_number_here", "_law_head"] (zah zgH):=sco
theorem zlu(F:Fun K "_law_check" "_law_check" zgH f fd)(b:Binds K fd ["_law_shape_here", "_law_number_here", "_law_head"] [])(m:mg "_law_check" = aa (.ref f))(T:Txt mg)(TC:TxC K cl)(TX:TxE K cl ["HeadError", "NoLetter"] ["NoLetter"]):FnX P w K mg base cl "_law_check" 1 3 zbD :=
 by walk_at "#e}3suxL$-tHv{(s|sD?sJ/xL$s!9xLiB`bV&szV7nBs("
theorem scLawNumber:FnScope ["_law_bits_here", "_law_number_here", "_law_sign"] ["_law_bits_here"] (zah zfk):=sco
theorem zjR(F:Fun K "_law_number" "_law_number" zfk f fd)(b:Binds K fd ["_law_bits_here"] [])(m:mg "_law_number" = aa (.ref f))(T:Txt mg)(TC:TxC K cl)(TX:TxE K cl ["HeadError", "NoLetter"] ["NoLetter"]):FnX P w K mg base cl "_law_number" 1 1 zb0 :=
 by walk_at "#e}4u#xMu$ubPsJ>xM$vhxMi`&-u/x/x0ax1x2(t(sp.sMtU-"
theorem zjx:FnScope ["_law_way_here", "_law_breadth"] ["_law_way_here", "_law_breadth"] (zah zen):=sco
theorem ziV(F:Fun K "_law_width_of" "_law_width_of" zen f fd)(b:Binds K fd ["_law_way_here", "_law_breadth"] [])(m:mg "_law_width_of" = aa (.ref f))(T:Txt mg)(TC:TxC K cl)(TX:TxE K cl ["HeadError", "NoLetter"] ["NoLetter"]):FnX P w K mg base cl "_law_width_of" 1 2 zbI :=
 by walk_at "#e}5vqs(u!`-u/x/x0ax1x2(t(sps(sM#"
theorem scLawPieces:FnScope ["_law_shape_here", "_law_ways", "_law_head", "_law_found", "_law_place", "_law_field", "_law_width_here"] ["_law_shape_here", "_law_ways", "_law_head"] (zah zfi):=sco
theorem zjP(F:Fun K "_law_pieces" "_law_pieces" zfi f fd)(b:Binds K fd ["_law_shape_here", "_law_ways", "_law_head"] [])(m:mg "_law_pieces" = aa (.ref f))(T:Txt mg)(TC:TxC K cl)(TX:TxE K cl ["HeadError", "NoLetter"] ["NoLetter"])(hLawBits:FnX P w K mg base cl "_law_bits" 1 2 zcm)(hLawWidthOf:FnX P w K mg base cl "_law_width_of" 1 2 zbI):FnX P w K mg base cl "_law_pieces" 2 3 zaX :=
 by walk_at "#sv}6suv*$t!tHvos(tW/v*sF3v*vl*v*$y]s2sdvtsG;yuHtkV(sG#s!9v*iB;wMHnszVs$s%t]tUB"
theorem scLawLetter:FnScope ["_law_pact_here", "_law_at", "_law_number_here", "_law_head", "_law_shape_here", "_law_wide", "_law_forms", "_law_road_here", "_law_count", "_law_ways", "_law_sort", "_law_found"] ["_law_pact_here", "_law_at", "_law_number_here", "_law_head"] (zah zfl):=sco
theorem zjS(F:Fun K "_law_letter" "_law_letter" zfl f fd)(b:Binds K fd ["_law_pact_here", "_law_at", "_law_number_here", "_law_head"] [])(m:mg "_law_letter" = aa (.ref f))(T:Txt mg)(TC:TxC K cl)(TX:TxE K cl ["HeadError", "NoLetter"] ["NoLetter"])(hLawBits:FnX P w K mg base cl "_law_bits" 1 2 zcm)(hLawCheck:FnX P w K mg base cl "_law_check" 1 3 zbD)(hLawPieces:FnX P w K mg base cl "_law_pieces" 2 3 zaX)(hLawWidth:FnX P w K mg base cl "_law_width" 1 1 zbN):FnX P w K mg base cl "_law_letter" 3 4 zbv :=
 by walk_at "#sw}7vkPx_/w[/tAsF3tAsF*tAsF:tAv3qyvu(Et?FywK,tAv+shshshv+ue(t8wY,s4vxvts=yvu(Et?FywK,tAv+shshshv+s}xZs_s}xZs_(uh-upkNs)tAi;wMsAKTyxHuhs|t]un;wMHn.s$sbs~#Ns)tAiuq;yysA/RFsEtUbuq;wMsHTxNsA/sDsE#TyxHsW/ug"
theorem scLawOpened:FnScope ["_law_shape_here", "_law_ways", "_law_bits_here", "_law_former", "_law_more", "_law_head", "_law_place", "_law_field", "_law_value_here", "_law_width_here", "_law_rest", "_law_least"] ["_law_shape_here", "_law_ways", "_law_bits_here", "_law_former", "_law_more"] (zah zfj):=sco
theorem zjQ(F:Fun K "_law_opened" "_law_opened" zfj f fd)(b:Binds K fd ["_law_shape_here", "_law_ways", "_law_bits_here", "_law_former", "_law_more"] [])(m:mg "_law_opened" = aa (.ref f))(T:Txt mg)(TC:TxC K cl)(TX:TxE K cl ["HeadError", "NoLetter"] ["NoLetter"])(hLawExpected:FnX P w K mg base cl "_law_expected" 1 5 zaV)(hLawNumber:FnX P w K mg base cl "_law_number" 1 1 zb0)(hLawWidthOf:FnX P w K mg base cl "_law_width_of" 1 2 zbI):FnX P w K mg base cl "_law_opened" 2 5 zbJ :=
 by walk_at "#sv}8N3sj$s>#tHvos(tW*sjsF:sjvlEsjs.yssN*sEuet6NFsjs.yuHtks%(sW:uiv|Kt?>,sjumTyzHtf.u1t<QF#(tf.t<QFu1upt,htks%&sMNs)sj$s,sbhtks%&s!Esj$t7uqns,QKuqs$QFs$sW:&ucs2sphtks%&sMs!Esj$QKks!3sjiscs>s~tUsc"
theorem scLawWhole:FnScope ["_law_shape_here", "_law_bits_here", "_law_head", "_law_field"] ["_law_shape_here", "_law_bits_here"] (zah zgC):=sco
theorem zlp(F:Fun K "_law_whole" "_law_whole" zgC f fd)(b:Binds K fd ["_law_shape_here", "_law_bits_here"] [])(m:mg "_law_whole" = aa (.ref f))(T:Txt mg)(TC:TxC K cl)(TX:TxE K cl ["HeadError", "NoLetter"] ["NoLetter"])(hLawNumber:FnX P w K mg base cl "_law_number" 1 1 zb0):FnX P w K mg base cl "_law_whole" 2 2 zbO :=
 by walk_at "#sv}9s#wN$s>#ubs(sJ9wN$s#wNi.s>TyzHtf-u1t<tYugvhwN$tf-t<tY&u17."
theorem scLawTake:FnScope ["_law_model", "_law_late", "_law_number_here", "_law_edge", "_law_last", "_law_one"] ["_law_model", "_law_late", "_law_number_here"] (zah ziw):=sco
theorem znk(F:Fun K "_law_take" "_law_take" ziw f fd)(b:Binds K fd ["_law_model", "_law_late", "_law_number_here"] [])(m:mg "_law_take" = aa (.ref f))(T:Txt mg)(TC:TxC K cl)(TX:TxE K cl ["HeadError", "NoLetter"] ["NoLetter"]):FnX P w K mg base cl "_law_take" 1 3 zcD :=
 by walk_at "#e}:smw%xOs2sdosOxPs`o.s&s=xIxJsHPt!.,ksuxQvus,o-t[xQ$xA,u%xBu=};wOwPwQy{wRy|sxwSz1}<}=tCosy*si}>wOwPwQy{wRy|wSvvs`s%Bvws%t8s=z0u.u/}?,}Aay}}B(o#sJ3xQ$ucx`s`scBs&t~udscVs&s=te}Cosc}DtCtCk"
theorem scLawNumbered:FnScope ["_law_model", "_law_pact_here", "_law_at", "_law_written", "_law_least"] ["_law_model", "_law_pact_here", "_law_at", "_law_written"] (zah zds):=sco
theorem zhC(F:Fun K "_law_numbered" "_law_numbered" zds f fd)(b:Binds K fd ["_law_model", "_law_pact_here", "_law_at", "_law_written"] [])(m:mg "_law_numbered" = aa (.ref f))(T:Txt mg)(TC:TxC K cl)(TX:TxE K cl ["HeadError", "NoLetter"] ["NoLetter"]):FnX P w K mg base cl "_law_numbered" 1 4 zbh :=
 by walk_at "#e}Es4sd.sO7Bkt[}F$s,ovr&7bVns,BVs$hvr.&"
theorem scLawRead:FnScope ["_law_model", "_law_pact_here", "_law_at", "_law_written", "_law_told", "_law_check_here", "_law_late", "_law_top", "_law_number_here", "_law_head", "_law_below", "_law_last", "_law_former"] ["_law_model", "_law_pact_here", "_law_at", "_law_written", "_law_told", "_law_check_here"] (zah ziy):=sco
theorem znn(F:Fun K "_law_read" "_law_read" ziy f fd)(b:Binds K fd ["_law_model", "_law_pact_here", "_law_at", "_law_written", "_law_told", "_law_check_here"] [])(m:mg "_law_read" = aa (.ref f))(T:Txt mg)(TC:TxC K cl)(TX:TxE K cl ["HeadError", "NoLetter"] ["NoLetter"])(hLawCheck:FnX P w K mg base cl "_law_check" 1 3 zbD)(hLawNumbered:FnX P w K mg base cl "_law_numbered" 1 4 zbh)(hLawOpened:FnX P w K mg base cl "_law_opened" 2 5 zbJ)(hLawTake:FnX P w K mg base cl "_law_take" 1 3 zcD)(hLawWhole:FnX P w K mg base cl "_law_whole" 2 2 zbO):FnX P w K mg base cl "_law_read" 3 6 zdU :=
 by walk_at "#sw}Gv|*t?:,thums}s^&(oupsmt}vx.sOt~sdtXsOs<u9s;NEthvu;}HtZsDsE#smw%xOs`sbs/xPt}vxtXsOwms`sbs,tXs%s&s<u9s;s4yqsHyrsbo,s<s~s;s4sd.sOs!Fths.}IHs^t6q}Ju(KtCthu=}KwOy~z!z#z$z%wPz&wQz'z(wRz)sxwSsaosys*si}LwOy~z!z#z$z%wPz&wQz'z(wRz)wSvvs`Qs*sbvwQs*smw%xOs2spQKu,#s&xPs2wAwBs,sbsTz*,z+u%wCRK#hvr.s/qte;z,sN*s~#s<u9s;Ns)th$sTz*,z+u%wCRK#Nfth$houqs!Fths.}MHs^s}vr.&u<Rfvysbuq#s4udsc;xNHs^s~RF#s&s<u9s;qxIxJsHosbQF,qte;z,sN*s~#s<s~RF#"
theorem zor:FnScope ["_law_found", "_law_due"] ["_law_found", "_law_due"] (zah zgh):=sco
theorem zgW(F:Fun K "_law_same" "_law_same" zgh f fd)(b:Binds K fd ["_law_found", "_law_due"] [])(m:mg "_law_same" = aa (.ref f))(T:Txt mg)(c:TxC K cl)(t:TxE K cl ["HeadError", "NoLetter"] ["NoLetter"]):∀n,FnX P w K mg base cl "_law_same" (0+n) 2 (zbl n)
 |0=>FnX.none F b m|n+1=>by
  have a:=zgW F b m T c t  n;have h:=mkx P w base cl (0+n) F b m zor fun cdv A outer s H E hr=>
   (zag (zaN (zd8 (zgP (n := "tuple") (by decide) (by rfl) T.isi (by rfl) T.tuple boot_tuple (zab 1)))
   (zag (zaN (zbS (zq3 (zhX (zd8 (zgP (n := "tuple") (by decide) (by rfl) T.isi (by rfl) T.tuple boot_tuple (zab 0)))) (zml (zat (zeJ hr.units) ziZ (zaF zaY zcx (by rfl) T.len ybG (zaa (zab 0) zaf)) (zaF zaY zcx (by rfl) T.len ybG (zaa (zab 1) zaf)) (zaq _)))))
   (zai (zam ziL))
   zax)
   (zai (zam (zaF (zqx rfl) fd_all (by rfl) T.all boot_all (zaa (zdA rfl rfl (N0:=["_law_found", "_law_due"]) (xs:=["_law_one", "_law_other"]) ⟨(by with_unfolding_all rfl),rfl,rfl,rfl,(by repeat (first | exact trivial | refine⟨rfl,?_⟩)),rfl,.inl rfl⟩ (zr9 (by rfl) T.zip (zab 0) (zab 1)) (fun _ _ _ _=>(zcP (n:=2) rfl (zay (zar (i:=2) (by decide +kernel:(["_law_found", "_law_due", "_law_one", "_law_other"]:List ae).Nodup) rfl (yD rfl)) (zay (zar (i:=3) (by decide +kernel:(["_law_found", "_law_due", "_law_one", "_law_other"]:List ae).Nodup) rfl (yD rfl)) zbV)))) (fun _ _ _ _=>zdw) (fun _ _ _ _=>(qe_fn a rfl (hr.mono (yc _)) rfl (zaa (zab 2) (zaa (zab 3) zaf)) (aCons_len (aCons_len aNil_len))))) zaf)))))
   zax)
   (zag (zaN (zat zcC zeK (zab 1) zaQ (zaq _))
   (zai (zam (zcQ zcC zeK (zab 0) zaQ (zaq _))))
   zax)
   (zag (zaN (zd8 (zgP (n := "str") (by decide) (by rfl) T.isi (by rfl) T.str boot_str (zab 1)))
   (zai (zam (zjH (zgP (n := "str") (by decide) (by rfl) T.isi (by rfl) T.str boot_str (zab 0)) (zhZ (zcQ (zbd hr.units) zb8 (zab 0) (zab 1) (zaq _))))))
   zax)
   (zai (zam (zjH (zgP (n := "int") (by decide) (by rfl) T.isi (by rfl) T.int boot_int (zab 0)) (zjH (qe_not (zgP (n := "bool") (by decide) (by rfl) T.isi (by rfl) T.bool boot_bool (zab 0))) (zhZ (zcQ (zbd hr.units) zb8 (zab 0) (zab 1) (zaq _))))))))))
  exact h
theorem znl(F:Fun K "_law_same" "_law_same" zgh f fd)(b:Binds K fd ["_law_found", "_law_due"] [])(m:mg "_law_same" = aa (.ref f))(T:Txt mg)(a:TxC K cl)(t:TxE K cl ["HeadError", "NoLetter"] ["NoLetter"]):FnX P w K mg base cl "_law_same" 12 2 zcl:=zgW P w base F b m T a t  12
theorem scLawParts:FnScope ["_law_pact_here", "_law_at", "_law_number_here", "_law_head", "_law_ways", "_law_count", "_law_bits_here"] ["_law_pact_here", "_law_at", "_law_number_here", "_law_head"] (zah zgG):=sco
theorem zlt(F:Fun K "_law_parts" "_law_parts" zgG f fd)(b:Binds K fd ["_law_pact_here", "_law_at", "_law_number_here", "_law_head"] [])(m:mg "_law_parts" = aa (.ref f))(T:Txt mg)(TC:TxC K cl)(TX:TxE K cl ["HeadError", "NoLetter"] ["NoLetter"])(hLawCheck:FnX P w K mg base cl "_law_check" 1 3 zbD)(hLawPieces:FnX P w K mg base cl "_law_pieces" 2 3 zaX):FnX P w K mg base cl "_law_parts" 3 4 zcW :=
 by walk_at "#sw}Nv|/t?3,xRum(t8vsups4vxvts=z=/t?3,xRums}tVs_s}tVs_upkN*xRs.yyHs(u<sE#tlv4(n.s$sct]TxNHs(sDsE?"
theorem scLawStays:FnScope ["_law_box_here", "_law_reader", "_law_letter_here", "_law_before", "_law_thing"] ["_law_box_here", "_law_reader", "_law_letter_here"] (zah zgE):=sco
theorem zlr(F:Fun K "_law_stays" "_law_stays" zgE f fd)(b:Binds K fd ["_law_box_here", "_law_reader", "_law_letter_here"] [])(m:mg "_law_stays" = aa (.ref f))(T:Txt mg)(t:TxC K cl)(j:TxE K cl ["HeadError", "NoLetter"] ["NoLetter"])(a:FnHM P w K mg base cl "Reader" "kept" 1 1 zaP)(d:FnEM P w K mg base cl "Reader" "read" 7 2 zaI)(c:FnHM P w K mg base cl "Reader" "top" 1 1 za9)(g:FnX P w K mg base cl "_law_of" 2 2 zaJ):FnX P w K mg base cl "_law_stays" 8 3 zcp :=
 have h:=mkx P w base cl 7 F b m scLawStays fun cdv A outer s H E hr=>
  (zag (zal (i:=3) scLawStays.nd rfl (yD rfl) (zaG (zaa (zdz c.toM (zab 1) t.cReader rfl (hr.mono (by decide))) (zaa (zdz a.toM (zab 1) t.cReader rfl (hr.mono (by decide))) zaf))))
  (zag (zal (i:=4) scLawStays.nd rfl (yD rfl) (qfn g hr (zaa (zab 0) (zaa (zbn (zaa (zak zas zaB (zab 2) zap) (zaa (zf3 (zab 2) zcJ (zbx (znd zhP zhQ zae))) (zaa zap (zaa zaQ (zaa zae (zaa (zbn (zaa (zab 2) zaf)) (zaa (zak zas zaB (zab 2) zap) zaf)))))))) zaf))))
  (zai (zs7 rfl rfl j (.tail _ (.head _)) rfl (zsC rfl (zsD (ye_mth rfl d (zab 1) t.cReader rfl (hr.mono (by decide)) (zaa (zab 4) zaf) (aCons_len aNil_len))) (zam ziL)) (fun e=>have hr:=znc (v:=aa (.ref e)) (roomH hr);(zai (zam (zcQ (op_eqT (hu66H hr)) od_eqT (zaG (zaa (zmm c (zab 1) t.cReader rfl (zmg hr (by decide))) (zaa (zmm a (zab 1) t.cReader rfl (zmg hr (by decide))) zaf))) (zab 3) (zaq _)))))))))
 h
theorem scLawOneRead:FnScope ["_law_box_here", "_law_pact_here", "_law_reader", "_law_model", "_law_past", "_law_back", "_law_number_here", "_law_at", "_law_letter_here", "_law_told", "_law_where", "_law_written", "_law_bits_here", "_law_check_here"] ["_law_box_here", "_law_pact_here", "_law_reader", "_law_model", "_law_past"] (zah zeo):=sco
theorem ziW(F:Fun K "_law_one_read" "_law_one_read" zeo f fd)(b:Binds K fd ["_law_box_here", "_law_pact_here", "_law_reader", "_law_model", "_law_past"] [])(m:mg "_law_one_read" = aa (.ref f))(T:Txt mg)(TC:TxC K cl)(TX:TxE K cl ["HeadError", "NoLetter"] ["NoLetter"])(hReaderKept:FnHM P w K mg base cl "Reader" "kept" 1 1 zaP)(hReaderRead:FnEM P w K mg base cl "Reader" "read" 7 2 zaI)(hReaderTop:FnHM P w K mg base cl "Reader" "top" 1 1 za9)(hLawLetter:FnX P w K mg base cl "_law_letter" 3 4 zbv)(hLawNext:FnX P w K mg base cl "_law_next" 1 2 zaz)(hLawOf:FnX P w K mg base cl "_law_of" 2 2 zaJ)(hLawParts:FnX P w K mg base cl "_law_parts" 3 4 zcW)(hLawRead:FnX P w K mg base cl "_law_read" 3 6 zdU)(hLawSame:FnX P w K mg base cl "_law_same" 12 2 zcl)(hLawStays:FnX P w K mg base cl "_law_stays" 8 3 zcp):FnX P w K mg base cl "_law_one_read" 13 5 zbZ :=
 by walk_at "#sgf}ON3sks.wbuktEs|u<??N*sk$sTy^,y_u%wCs?vys,s|t6&sc#N:sks.xXbu,(t8#s0}P}Q}R,ay}z<(s|(s^?uismt}sdtYt!sOt~wAwBuls/s!:sk$t8kNEsks.}SsAAuft](sW/s%#smt}sdtXsOxns2spuls/wmx,x-;}TsN>s~tUv#kNFsk$xC}U.t9u&s~#xDxEvk;}VsAAuft](sW/s%#x_/w[KsksFs)sksFfsksFs*skv3smx,x-;}WsAFT}XsA9v4RKRs)RfRs*?7v#u!yWt(spw?}Y.t9u&tYsMw>t(}Z}[sH}]w?}^.t9u&tYsM"
theorem scLaw:FnScope ["_law_script", "_law_box_here", "_law_turn", "_law_shape_here", "_law_wide", "_law_forms", "_law_road_here", "_law_pact_here", "_law_reader", "_law_model", "_law_past", "_law_more", "_law_k"] ["_law_script"] (zah sLaw):=sco
theorem ok_Law(F:Fun K "law" "law" sLaw f fd)(b:Binds K fd ["_law_script"] [])(m:mg "law" = aa (.ref f))(T:Txt mg)(t:TxC K cl)(u:TxE K cl ["HeadError", "NoLetter"] ["NoLetter"])(d:FnC P w K mg base cl "Reader" 1 2 zbX)(a:FnM P w K mg base cl "Reader" "forget" 1 1 zbt)(l:FnX P w K mg base cl "_law_any_head" 3 2 zb1)(r:FnX P w K mg base cl "_law_box" 1 1 zfw)(q:FnX P w K mg base cl "_law_form" 4 2 zbT)(p:FnX P w K mg base cl "_law_next" 1 2 zaz)(c:FnX P w K mg base cl "_law_next_head" 3 4 zbP)(g:FnX P w K mg base cl "_law_of" 2 2 zaJ)(e:FnX P w K mg base cl "_law_one_read" 13 5 zbZ)(o:FnX P w K mg base cl "_law_pact" 5 2 zdb):FnOk P w K mg base CX0 14 f fd ["_law_script"] (spD K cl X0 1 zmG) :=
 have h:=fnO (P:=P) (w:=w) (mg:=mg) (base:=base) (cl:=cl) (k:=13) F scLaw rfl fun cdv A outer s H E hr=>
  (zag (zal (i:=1) scLaw.nd rfl (yD rfl) (qfn r hr (zaa (zab 0) zaf)))
  (zag (zb5 PassesOwn.never rfl (zdy (by rfl) T.range (zaa zae zaf)) (zar (i:=2) scLaw.nd rfl (yD rfl))
  (zag (zhY (qfn o hr (zaa (zab 1) (zaa (qfn g hr (zaa (zab 1) (zaa (zbn (zaa zae (zaa zae (zaa zae zaf)))) zaf))) zaf))) (zcP (n:=4) rfl (zay (zar (i:=3) scLaw.nd rfl (yD rfl)) (zay (zar (i:=4) scLaw.nd rfl (yD rfl)) (zay (zar (i:=5) scLaw.nd rfl (yD rfl)) (zay (zar (i:=6) scLaw.nd rfl (yD rfl)) zbV))))))
  (zag (zal (i:=7) scLaw.nd rfl (yD rfl) (zaG (zaa (zab 3) (zaa (zab 4) (zaa (zak zas zaB (qe_slA (zab 5) zcJ (zbx zae)) (zaG (zaa (qfn q hr (zaa (zab 1) (zaa (zab 3) zaf))) zaf))) (zaa (zab 6) zaf))))))
  (zag (zgL (i:=8) (j:=9) rfl scLaw.nd rfl rfl (by decide) rfl rfl (zaa (zs9 d rfl (hr.mono (by decide)) rfl (zaa (zab 7) zaf) (aCons_len aNil_len)) (zaa (zlh (QPs.cons zaQ (QPs.cons zgi QPs.nil)) (by simp) (by decide)) zaf)) rfl)
  (zag (zal (i:=10) scLaw.nd rfl (yD rfl) (ziJ (zaa (qfn l hr (zaa (zab 1) (zaa (zab 3) zaf))) zaf)))
  (zai (zb5 PassesOwn.never rfl (zdy (by rfl) T.range (zaa (qfn g hr (zaa (zab 1) (zaa (zbn (zaa zae (zaa zae (zaa zae zaf)))) zaf))) zaf)) (zar (i:=11) scLaw.nd rfl (yD rfl))
  (zag (zaN (zat (zbd hr.units) zb8 (qfn p hr (zaa (zab 1) (zaa zae zaf))) zae (zaq _))
  (zag (zcs (zdz a (zab 8) t.cReader rfl (hr.mono (by decide))))
  (zai (zal (i:=9) scLaw.nd rfl (yD rfl) (zlh (QPs.cons zaQ (QPs.cons zgi QPs.nil)) (by simp) (by decide)))))
  zax)
  (zag (zaN (zhX (zd8 (qfn e hr (zaa (zab 1) (zaa (zab 7) (zaa (zab 8) (zaa (zab 9) (zaa (zab 10) zaf))))))))
  (zai (zam ziL))
  zax)
  (zai (zb5 PassesOwn.never rfl (zdy (by rfl) T.range (zaa (qfn g hr (zaa (zab 1) (zaa (zbn (zaa zae (zaa zae (zaa zae (zaa zae (zaa zae (zaa zae (zaa zae zaf)))))))) zaf))) zaf)) (zar (i:=12) scLaw.nd rfl (yD rfl))
  (zai (zcs (zoJ PySem.F.plainAttrs_list PySem.F.slot_list_append PySem.F.type_list_append zeN zjn zeO (zab 10) (zaa (qfn c hr (zaa (zab 1) (zaa (zab 3) (zaa (qxi hr (zab 10) (znd zhP zhQ zae)) (zaa zae zaf))))) zaf)))))))))))))))
  (zai (zam ziL))))
 h
end
end K34
namespace K34
open PySem L2 MD
theorem zpK{ns:List Int}(h:ns.length<=63):∃a m,zmG [.scr (ns.map D.int)] [] = .ok a m/\a = .bl ac:=zlD h
end K34
namespace K34
open PySem PyProof.Rows L2 MD PySem.W.Fast
variable{α β γ δ : Type}{f f' g:α -> β -> γ -> δ}{x:α}{y : β}
theorem trH{g':α -> β -> γ -> δ}(a:f=f')(c:g=g'){w : γ}(b:f' x y w=g' x y w):f x y w=g x y w:=by rw[a,c];exact b
theorem trL(a:f=f'){w : γ}(b:f' x y w=g x y w):f x y w=g x y w:=by rw[a];exact b
theorem hm8(w:al):hl8 nms pw w=hr8 nms pw w:=trL te13703735592270019783 (hlq8 w)
theorem hm9(w:al):hl9 f9 pw w=hr9 f9 pw w:=trL te4674044220120000367 (hlq9 w)
theorem hm10(w:al):hl10 rw0 pw w=hr10 rw0 pw w:=trL te10282734718986014240 (hlq10 w)
theorem hm11(w:al):hl11 rw0 pw w=hr11 rw0 pw w:=trL te11557338171717127894 (hlq11 w)
theorem hm12(w:al):hl12 rw0 pw w=hr12 rw0 pw w:=trL te13591961083949706415 (hlq12 w)
theorem hm13(w:al):hl13 rw0 pw w=hr13 rw0 pw w:=trL te7065906287660732184 (hlq13 w)
theorem hm14(w:al):hl14 rw0 pw w=hr14 rw0 pw w:=trL te10336918885398955751 (hlq14 w)
theorem hm15(w:al):hl15 rw0 pw w=hr15 rw0 pw w:=trL te14261022363260370229 (hlq15 w)
theorem hl:PySem.W.LeftO pw vw [] xt (fun s=>obs (Kof 478 s.heap)) (fun _=>expd) 5502:=fun w=>both (parts4 28 (trH te4807235276867564128 te6781120851845112641 (hlq0 w)) (trH te2399315346589473319 te8084810597153002469 (hlq1 w)) (trH te3706372322059330462 te17824697156913125310 (hlq2 w)) (trH te12817435996803523686 te17452330738584737633 (hlq3 w)) (trH te3063034377659427767 te1909715369538684958 (hlq4 w)) (trH te15866854603784845846 te4876664212811068953 (hlq5 w)) (trH te10742348880906040864 te486076943825566862 (hlq6 w)) (trH te9676776859107885140 te10944943086115406239 (hlq7 w))) (both4 (hm8 w) (hm9 w) (zpR (zpR (zpR (zpR (zpR (hm10 w) (hm11 w)) (hm12 w)) (hm13 w)) (hm14 w)) (hm15 w)))
theorem all_mk{l:ycE}{w:al}{K:yb}{h:au}{mg:ae->Option af}{fa:ad}(y:obs K=expd)(X:K.In h)(G:h.Ns aE mg)(hfa:mg "law" = aa (.ref fa)) : ∃fd:aF,(∀(s:ai)(v:af),bu s fd ⟨[v],[]⟩ [("_law_script", v)])/\∀base:au,K.In base->base.Ns aE mg->FnOk l.prog w K mg base CX0 14 fa fd ["_law_script"] (spLaw K):=by
 have Y:nms.map (yaj K aE)=nmsE:=congrArg (fun x=>x.1) y;have y2:fnd.map (fun p=>yL K (.ref p.1) p.2)=fndE:=congrArg (fun x=>x.2.1) y;have y3:fns.map (fnV K)=fnsE:=congrArg (fun x=>x.2.2.1) y;have y4:bls K=blsE:=congrArg (fun x=>x.2.2.2) y;have n:∀(i:Nat){x:ae}{v:af},nms[i]?=aa x->nmsE[i]?=aa (aa (aa v))->mg x=aa v:=fun i _ _ a b=>yb8 X G (zrb Y i a b);have o:∀(i:Nat){x:ae},nms[i]?=aa x->nmsE[i]?=aa (aa none)->mg x=none:=fun i _ a b=>PySem.W.mg_none_of X G (zrb Y i a b);have u:∀(st:ao)(i:Nat){a:ad}{x q:ae},fns[i]?=aa a->fnsE[i]?=aa (fnE x q st)->∃fd,Fun K x q st a fd:=fun st i _ _ _ a b=>fun_of (st:=st) (zrb y3 i a b);have e:=hfa.symm.trans (n 52 rfl rfl);cases e;have T:Txt mg:=⟨o 56 rfl rfl,o 57 rfl rfl,o 58 rfl rfl,o 59 rfl rfl,o 60 rfl rfl,o 61 rfl rfl,o 62 rfl rfl,o 63 rfl rfl,o 64 rfl rfl,o 65 rfl rfl,o 66 rfl rfl,o 67 rfl rfl,o 68 rfl rfl,o 69 rfl rfl,o 70 rfl rfl,o 71 rfl rfl,o 72 rfl rfl,o 73 rfl rfl⟩;obtain⟨cl,E,f,j⟩:∃cl:ae->ad,cl "Reader" = 277/\cl "HeadError" = 130/\cl "NoLetter" = 143:=⟨fun x=>if x = "Reader" then 277 else if x = "HeadError" then 130 else if x = "NoLetter" then 143 else 0,if_pos rfl,(if_neg (by decide)).trans (if_pos rfl),(if_neg (by decide)).trans ((if_neg (by decide)).trans (if_pos rfl))⟩;have L:∀(i:Nat)(b:Bool),(bls K)[i]?=aa b->b=ac:=fun i b hb=>by
  rw[y4]at hb;exact ybD.mp (yM (show (yd 14 ac)[i]?=aa b from hb)) |>.2
 have cReader:∀(i:Nat){x:ae}{v:Option (Option af)},fnd[i]?=aa (277,x)->fndE[i]?=aa v->yL K (.ref (cl "Reader")) x=v:=fun i _ _ a b=>by rw[E];exact zrb y2 i a b
 have Q:=L 0 _ rfl;simp only[yy]at Q;obtain⟨⟨⟨⟨k,H⟩,P⟩,m⟩,r⟩:=Q;have c:TxC K cl:=⟨(by rw[E];exact⟨k,H,P,(zrb y2 0 rfl rfl)⟩),cReader 1 rfl rfl,cReader 2 rfl rfl,cReader 3 rfl rfl⟩;have t:TxE K cl ["HeadError", "NoLetter"] ["NoLetter"]:=⟨(zht (by rw[f];exact(zrb Y 54 rfl rfl)) (zht (by rw[j];exact(zrb Y 55 rfl rfl)) zmW)),L 12 _ rfl,L 13 _ rfl,(zht (.tail _ (.head _)) zmW)⟩;have ⟨_,F63⟩:=u sLaw 63 rfl rfl;have Fx:=F63;obtain⟨oc,od,kV,doc,pm,an,cdv,ct,osl,rfl,lk,hcd⟩:=Fx.ex;refine⟨ya3 "law" "law" (zfz sLaw) (zbj sLaw) (zah sLaw) .none kV doc pm an cdv ct,fun s v=>.of_eq rfl,fun base _ _=>?_⟩;have ⟨_,F23⟩:=u zel 23 rfl rfl;have g23:=ziT l.prog w base F23 F23.bindA (by rw[E];exact yb8 X G (zrb Y 53 rfl rfl)) (by rw[E];exact⟨m,(zrb y2 4 rfl rfl),L 1 _ rfl,r⟩) T c t;have ⟨_,F25⟩:=u zc3 25 rfl rfl;have g25:=zgV l.prog w base F25 F25.bindA ⟨cReader 6 rfl rfl,L 3 _ rfl,F25.kp⟩ T c t;have ⟨_,F35⟩:=u ziA 35 rfl rfl;have d:=znp l.prog w base F35 F35.bindA (n 24 rfl rfl) T c t;have ⟨_,F37⟩:=u zgD 37 rfl rfl;have B:=zlq l.prog w base F37 F37.bindA (n 26 rfl rfl) T c t d;have ⟨_,F44⟩:=u zep 44 rfl rfl;have g44:=ziX l.prog w base F44 F44.bindA (n 33 rfl rfl) T c t B;have ⟨_,F34⟩:=u zlb 34 rfl rfl;have g34:=zph l.prog w base F34 F34.bindA (n 23 rfl rfl) T c t;have ⟨_,F36⟩:=u zow 36 rfl rfl;have g:=zrn l.prog w base F36 F36.bindA (n 25 rfl rfl) T c t d;have ⟨_,F40⟩:=u zla 40 rfl rfl;have g40:=zpg l.prog w base F40 F40.bindA (n 29 rfl rfl) T c t d B;have ⟨_,F41⟩:=u ziC 41 rfl rfl;have O:=znr l.prog w base F41 F41.bindA (n 30 rfl rfl) T c t g g40;have ⟨_,F45⟩:=u zdu 45 rfl rfl;have N:=zhE l.prog w base F45 F45.bindA (n 34 rfl rfl) T c t;have ⟨_,F46⟩:=u zdt 46 rfl rfl;have g46:=zhD l.prog w base F46 F46.bindA (n 35 rfl rfl) T c t N d g;have ⟨_,F27⟩:=u zek 27 rfl rfl;have S:=ziS l.prog w base F27 F27.bindA ⟨cReader 8 rfl rfl,L 5 _ rfl,F27.kp⟩ T c t;have ⟨_,F30⟩:=u zcH 30 rfl rfl;have R:=zf5 l.prog w base F30 F30.bindA ⟨cReader 11 rfl rfl,L 8 _ rfl,F30.kp⟩ T c t;have ⟨_,F7⟩:=u zgK 7 rfl rfl;have g7:=zlw l.prog w base F7 F7.bindA (n 7 rfl rfl) T c t;have ⟨_,F16⟩:=u zlc 16 rfl rfl;have z:=zpi l.prog w base F16 F16.bindA (n 16 rfl rfl) T c t;have ⟨_,F1⟩:=u zgA 1 rfl rfl;have g1:=zln l.prog w base F1 F1.bindA (n 1 rfl rfl) T c t;have ⟨_,F2⟩:=u zfh 2 rfl rfl;have g2:=zjO l.prog w base F2 F2.bindA (n 2 rfl rfl) T c t g1;have ⟨_,F4⟩:=u zk7 4 rfl rfl;have g4:=zpd l.prog w base F4 F4.bindA (n 4 rfl rfl) T c t;have ⟨_,F9⟩:=u zk5 9 rfl rfl;have g9:=zpb l.prog w base F9 F9.bindA (n 9 rfl rfl) T c t;have ⟨_,F8⟩:=u zgJ 8 rfl rfl;have g8:=zlv l.prog w base F8 F8.bindA (n 8 rfl rfl) T c t g4 g9;have ⟨_,F5⟩:=u zgw 5 rfl rfl;have g5:=zlk l.prog w base F5 F5.bindA (n 5 rfl rfl) T c t g4;have ⟨_,F6⟩:=u zld 6 rfl rfl;have g6:=zpj l.prog w base F6 F6.bindA (n 6 rfl rfl) T c t g4 g5;have ⟨_,F15⟩:=u zfd 15 rfl rfl;have g15:=zjK l.prog w base F15 F15.bindA (n 15 rfl rfl) T c t g6;have ⟨_,F11⟩:=u ziv 11 rfl rfl;have g11:=znj l.prog w base F11 F11.bindA (n 11 rfl rfl) T c t;have ⟨_,F12⟩:=u zk4 12 rfl rfl;have Z:=zpa l.prog w base F12 F12.bindA (n 12 rfl rfl) T c t g7 g11;have ⟨_,F14⟩:=u zk9 14 rfl rfl;have g14:=zpf l.prog w base F14 F14.bindA (n 14 rfl rfl) T c t g8 g2 g15 Z;have ⟨_,F32⟩:=u zcr 32 rfl rfl;have g32:=zfn l.prog w base F32 F32.bindA ⟨cReader 13 rfl rfl,L 10 _ rfl,F32.kp⟩ T c t R g7 z g2 g14;have ⟨_,F31⟩:=u zdr 31 rfl rfl;have g31:=zhB l.prog w base F31 F31.bindA ⟨cReader 12 rfl rfl,L 9 _ rfl,F31.kp⟩ T c t R;have ⟨_,F28⟩:=u zdq 28 rfl rfl;have C:=zhA l.prog w base F28 F28.bindA ⟨cReader 9 rfl rfl,L 6 _ rfl,F28.kp⟩ T c t;have ⟨_,F29⟩:=u zc2 29 rfl rfl;have g29:=zgU l.prog w base F29 F29.bindA ⟨cReader 10 rfl rfl,L 7 _ rfl,F29.kp⟩ T c t C;have ⟨_,F22⟩:=u zfe 22 rfl rfl;have g22:=zjL l.prog w base F22 F22.bindA (n 22 rfl rfl) T c t;have ⟨_,F33⟩:=u zei 33 rfl rfl;have g33:=ziQ l.prog w base F33 F33.bindA ⟨cReader 14 rfl rfl,L 11 _ rfl,F33.kp⟩ T c t C g22;have ⟨_,F10⟩:=u ziE 10 rfl rfl;have g10:=znt l.prog w base F10 F10.bindA (n 10 rfl rfl) T c t;have ⟨_,F0⟩:=u ziF 0 rfl rfl;have g0:=znu l.prog w base F0 F0.bindA (n 0 rfl rfl) T c t;have ⟨_,F3⟩:=u zgx 3 rfl rfl;have g3:=zll l.prog w base F3 F3.bindA (n 3 rfl rfl) T c t;have ⟨_,F18⟩:=u zer 18 rfl rfl;have W:=ziY l.prog w base F18 F18.bindA (n 18 rfl rfl) T c t g3;have ⟨_,F13⟩:=u zk6 13 rfl rfl;have g13:=zpc l.prog w base F13 F13.bindA (n 13 rfl rfl) T c t Z;have ⟨_,F17⟩:=u zff 17 rfl rfl;have D:=zjM l.prog w base F17 F17.bindA (n 17 rfl rfl) T c t g3;have ⟨_,F19⟩:=u zem 19 rfl rfl;have g19:=ziU l.prog w base F19 F19.bindA (n 19 rfl rfl) T c t W z g13 D;have ⟨_,F20⟩:=u zgy 20 rfl rfl;have g20:=zlm l.prog w base F20 F20.bindA (n 20 rfl rfl) T c t g1 D;have ⟨_,F21⟩:=u zk8 21 rfl rfl;have g21:=zpe l.prog w base F21 F21.bindA (n 21 rfl rfl) T c t g0 W z g19 g1 g20 D;have ⟨_,F24⟩:=u zej 24 rfl rfl;have V:=ziR l.prog w base F24 F24.bindA ⟨cReader 5 rfl rfl,L 2 _ rfl,F24.kp⟩ T c t g32 g31 g29 C g33 g10 z g21 g5;have ⟨_,F26⟩:=u zfg 26 rfl rfl;have U:=zjN l.prog w base F26 F26.bindA ⟨cReader 7 rfl rfl,L 4 _ rfl,F26.kp⟩ T c t;have ⟨_,F47⟩:=u ziD 47 rfl rfl;have M:=zns l.prog w base F47 F47.bindA (n 36 rfl rfl) T c t;have ⟨_,F49⟩:=u zgH 49 rfl rfl;have A:=zlu l.prog w base F49 F49.bindA (n 38 rfl rfl) T c t;have ⟨_,F51⟩:=u zen 51 rfl rfl;have I:=ziV l.prog w base F51 F51.bindA (n 40 rfl rfl) T c t;have ⟨_,F52⟩:=u zfi 52 rfl rfl;have F:=zjP l.prog w base F52 F52.bindA (n 41 rfl rfl) T c t M I;have ⟨_,F48⟩:=u zgB 48 rfl rfl;have g48:=zlo l.prog w base F48 F48.bindA (n 37 rfl rfl) T c t;have ⟨_,F53⟩:=u zfl 53 rfl rfl;have g53:=zjS l.prog w base F53 F53.bindA (n 42 rfl rfl) T c t M A F g48;have ⟨_,F60⟩:=u zgG 60 rfl rfl;have g60:=zlt l.prog w base F60 F60.bindA (n 49 rfl rfl) T c t A F;have ⟨_,F57⟩:=u zds 57 rfl rfl;have g57:=zhC l.prog w base F57 F57.bindA (n 46 rfl rfl) T c t;have ⟨_,F50⟩:=u zfk 50 rfl rfl;have J:=zjR l.prog w base F50 F50.bindA (n 39 rfl rfl) T c t;have ⟨_,F54⟩:=u zfj 54 rfl rfl;have g54:=zjQ l.prog w base F54 F54.bindA (n 43 rfl rfl) T c t N J I;have ⟨_,F56⟩:=u ziw 56 rfl rfl;have g56:=znk l.prog w base F56 F56.bindA (n 45 rfl rfl) T c t;have ⟨_,F55⟩:=u zgC 55 rfl rfl;have g55:=zlp l.prog w base F55 F55.bindA (n 44 rfl rfl) T c t J;have ⟨_,F58⟩:=u ziy 58 rfl rfl;have g58:=znn l.prog w base F58 F58.bindA (n 47 rfl rfl) T c t A g57 g54 g56 g55;have ⟨_,F59⟩:=u zgh 59 rfl rfl;have g59:=znl l.prog w base F59 F59.bindA (n 48 rfl rfl) T c t;have ⟨_,F61⟩:=u zgE 61 rfl rfl;have g61:=zlr l.prog w base F61 F61.bindA (n 50 rfl rfl) T c t S V U g;have ⟨_,F62⟩:=u zeo 62 rfl rfl;have g62:=ziW l.prog w base F62 F62.bindA (n 51 rfl rfl) T c t S V U g53 d g g60 g58 g59 g61;have ⟨_,F42⟩:=u zix 42 rfl rfl;have g42:=znm l.prog w base F42 F42.bindA (n 31 rfl rfl) T c t g;have ⟨_,F38⟩:=u ziB 38 rfl rfl;have g38:=znq l.prog w base F38 F38.bindA (n 27 rfl rfl) T c t d g B;have ⟨_,F39⟩:=u zgF 39 rfl rfl;have g39:=zls l.prog w base F39 F39.bindA (n 28 rfl rfl) T c t g38 d g;have ⟨_,F43⟩:=u ziz 43 rfl rfl;have g43:=zno l.prog w base F43 F43.bindA (n 32 rfl rfl) T c t O g g42 g39;have g63:=ok_Law l.prog w base F63 F63.bindA (n 52 rfl rfl) T c t g23 g25 g44 g34 O d g46 g g62 g43;exact MD.law_fn g63 fun _ h=>zpK h
theorem ws:yea ybV=ac:=by
 delta yea
 repeat' (first | with_reducible refine PySem.W.look_both ?_ ?_ | delta PySem.W.OpenRow.wellSaid | delta PySem.W.OpenRow.partSaid | delta PySem.W.looksOpen)
 all_goals decide +kernel
end K34
open PySem PySem.W PyProof.Rows
set_option maxRecDepth 100000 in
theorem PySem.Challenge.cw_shorthead_k34_letters_of_forms_read_holds : PySem.Challenge.rw_shorthead_k34_letters_of_forms_read.Holds := by
 w_on
 refine PySem.W.holds_law K34.ws fun said => ?_
 refine PySem.W.holds_openX (q := K34.vw) (loose := []) (Xt := K34.xt) (XP := PySem.W.XL K34.vw []) (Yf := fun s => K34.obs (MD.Kof 478 s.heap)) (Ya := fun _ => K34.expd) (N := 5502) K34.hl (fun s e => PySem.W.xl_of s (Bool.and_eq_true_iff.mp e).1) PySem.W.XL.keeps (by rfl) (by rfl) (by rfl) (fun s e => PySem.W.recFacts_of (Bool.and_eq_true_iff.mp e).2) (by rfl) (by first | assumption | decide +kernel) (by decide +kernel) ⟨rfl, rfl, rfl, rfl, rfl, by decide +kernel⟩ ?hw ?hc
 case hw => w_witness2
 case hc => exact MD.walk_ofY (l := PySem.Challenge.rw_shorthead_k34_letters_of_forms_read) (n := 63) (k := 14) (x := "_law_script") (CX := L2.CX0) (sp := MD.spLaw) rfl (by decide) rfl ⟨rfl, by decide, by decide, rfl⟩ (fun K y w mg fa h X G hmg => K34.all_mk y X G hmg) (fun _ _ a ns hl _ hS => ⟨a, ns, rfl, hS, hl, fun _ => rfl⟩) fun _ _ _ _ z => z
